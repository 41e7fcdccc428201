/- A header's fields. -/
import Derived.Test.YtgcgmgcgbnepeaaDoorVal
namespace Go.Proofs.YtgcgmgcgbnepeaaDoor
open Go Go.RowKit

/-- A header, its rows told by what they read. -/
structure Hv where
  k : Int
  v : Int
  to : List Int
  fr : List Int
  tk : List Int
  p : Int
  n : Int
  w : Int
def hcells (h : Hv) (vt vf vk : Value) : Array Value := #[.int .i64 h.k, .int .i64 h.v, vt, vf, vk, .int .i64 h.p, .int .i64 h.n, .int .i64 h.w]
/-- The three rows read as the header's. -/
structure Hr (w : World) (h : Hv) (vt vf vk : Value) : Prop where
  to : Rd w vt h.to
  fr : Rd w vf h.fr
  tk : Rd w vk h.tk
theorem Rd.shape {w : World} {v : Value} {zs : List Int} (h : Rd w v zs) : ∃ ao cap, v = .slice ao zs.length cap := by
  obtain ⟨ao, cap, hv, _⟩ := h
  exact ⟨ao, cap, hv⟩
theorem heap_alloc2_new (w : World) (o o' : Obj) : ((w.alloc o).alloc o').heap[w.heap.size + 1]? = some o' := by
  have := heap_alloc_new (w.alloc o) o'
  simpa using this
theorem keepS {w w' : World} {a : Addr} {v : Value} (hb : Below w.heap.size w w') (h : w.cell? a = some v) : w'.cell? a = some v := by rw [hb.cell (cell_lt h)]; exact h
theorem keepF {w w' : World} {b : Nat} {v : Value} (hb : Below w.heap.size w w') (hc : w.cell? ⟨b, 0, none⟩ = some v) (h : ∀ j, w.frozen? ⟨b, j, none⟩ = false) : ∀ j, w'.frozen? ⟨b, j, none⟩ = false := fun j => by rw [hb.frozen (p := ⟨b, j, none⟩) (show b < w.heap.size from cell_lt hc)]; exact h j
#print axioms Rd.shape
end Go.Proofs.YtgcgmgcgbnepeaaDoor
