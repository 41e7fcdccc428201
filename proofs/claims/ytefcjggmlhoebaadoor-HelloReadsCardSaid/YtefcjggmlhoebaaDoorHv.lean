/- A header's fields. -/
import Derived.Test.YtefcjggmlhoebaaDoorVal
import Derived.Deep.QuietTactic
import Derived.BigQuiet
import Derived.Deep.RegionWith
import Derived.BigRegion
import Derived.WalkLawsBesides
import Derived.RegionDies
import Derived.Deep.RegionHeld3
import Derived.Deep.DrawnRows
namespace Go.Proofs.YtefcjggmlhoebaaDoor
open Go Go.RowKit

/-- A panic of an error's number. -/
def errPanic (e : Int) : Ending := .panicked [{ v := .iface 35 (.int .i64 e), recovered := false }]
set_option maxRecDepth 20000 in
theorem want_yes (w : World) (e : Int) : Calls Tryd.prog 39 #[.bool true, .int .i64 e] w fun r w' => r = .returned (.tuple #[]) ∧ w = w' := by
  go_enter Tryd.func39, Tryd.ntmps39
  go_wp2_with fail
  go_end0
  exact ⟨rfl, rfl⟩
set_option maxRecDepth 20000 in
theorem want_no (w : World) (e : Int) : Calls Tryd.prog 39 #[.bool false, .int .i64 e] w fun r w' => r = errPanic e ∧ w = w' := by
  unfold errPanic
  go_enter Tryd.func39, Tryd.ntmps39
  go_wp2_with fail
  exact ⟨rfl, rfl, rfl⟩

/-- A reader of bytes: what is left, how many are taken, the error where they end too early. -/
structure Fr (w : World) (B : Nat) (rv : Value) (rest : List Int) (taken short : Int) : Prop where
  box : w.heap[B]? = some (.cells #[rv, .int .i64 taken, .int .i64 short] 87 (0, 0))
  rest : Rd w rv rest
theorem Fr.cells {w : World} {B : Nat} {rv : Value} {rest : List Int} {taken short : Int} (h : Fr w B rv rest taken short) :
    w.cell? ⟨B, 0, none⟩ = some rv ∧ w.cell? ⟨B, 1, none⟩ = some (.int .i64 taken) ∧ w.cell? ⟨B, 2, none⟩ = some (.int .i64 short) ∧ (∀ j, w.frozen? ⟨B, j, none⟩ = false) :=
  ⟨(cell_of_row _ B 0 _ _ (0, 0) h.box).trans rfl, (cell_of_row _ B 1 _ _ (0, 0) h.box).trans rfl, (cell_of_row _ B 2 _ _ (0, 0) h.box).trans rfl, fun j => by simp [World.frozen?, h.box]⟩

set_option maxRecDepth 20000 in
set_option maxHeartbeats 2000000 in
theorem cut_no {w : World} {B : Nat} {ao : Option Addr} {cap : Nat} {rest : List Int} {taken short : Int} (h : Fr w B (.slice ao rest.length cap) rest taken short) (n : Int) (hn : (rest.length : Int) < n) :
    Calls Tryd.prog 73 #[.pointer (some ⟨B, 0, none⟩), .int .i64 n] w fun r w' => r = errPanic short ∧ ∃ k, w' = w.drewN k := by
  obtain ⟨x0, x1, x2, xf⟩ := h.cells
  have hl := h.rest.len
  have d1 : decide (n ≤ (rest.length : Int)) = false := decide_eq_false (by omega)
  clear h
  go_enter Tryd.func73, Tryd.ntmps73
  go_wp2_with fail
  go_region_dies
  all_goals go_wp2_with (go_at_call 39; refine (want_no _ short).mono ?_; rintro e w' ⟨he, rfl⟩; rw [errPanic] at he; subst he)
  all_goals exact ⟨rfl, rfl, 1, rfl⟩
#print axioms cut_no
#print axioms want_yes
#print axioms want_no
end Go.Proofs.YtefcjggmlhoebaaDoor
namespace Go.Proofs.YtefcjggmlhoebaaDoor
open Go Go.RowKit

/-- The world behind a cut of k bytes. -/
def Cut (w : World) (B b off k n cap : Nat) (taken : Int) (w' : World) : Prop :=
  ∃ o, (o = off + k ∨ k = n) ∧ w' = ((w.setCell ⟨B, 0, none⟩ (.slice (some ⟨b, o, none⟩) (n - k) (cap - k))).setCell ⟨B, 1, none⟩ (.int .i64 (wrap64 (taken + k)))).drew
set_option maxRecDepth 20000 in
set_option maxHeartbeats 2000000 in
theorem cut_some {w : World} {B b off : Nat} {cap : Nat} {rest : List Int} {taken short : Int} (h : Fr w B (.slice (some ⟨b, off, none⟩) rest.length cap) rest taken short) (k : Nat) (hn : k ≤ rest.length) (hc : rest.length ≤ cap) :
    Calls Tryd.prog 73 #[.pointer (some ⟨B, 0, none⟩), .int .i64 k] w fun r w' => r = .returned (.slice (some ⟨b, off, none⟩) k cap) ∧ Cut w B b off k rest.length cap taken w' := by
  obtain ⟨x0, x1, x2, xf⟩ := h.cells
  have hl := h.rest.len
  have d1 : decide ((k : Int) ≤ (rest.length : Int)) = true := decide_eq_true (by omega)
  have hcap : cap ≤ maxLen := by
    obtain ⟨_, _, e, _, hm, _⟩ := h.rest
    simp only [Value.slice.injEq] at e
    obtain ⟨_, _, rfl⟩ := e
    exact hm
  clear h
  go_enter Tryd.func73, Tryd.ntmps73
  go_wp2_with fail
  go_region_with (go_at_call 39; refine (want_yes _ short).mono ?_; rintro e w' ⟨rfl, rfl⟩)
  all_goals try go_wp2
  all_goals go_ret
  all_goals first
    | exact ⟨rfl, off + k, .inl rfl, rfl⟩
    | (subst_vars; exact ⟨rfl, off, .inr (by omega), by simp only [Nat.sub_self]⟩)

set_option maxRecDepth 20000 in
set_option maxHeartbeats 2000000 in
theorem cut_null {w : World} {B : Nat} {taken short : Int} (h : Fr w B (.slice none 0 0) [] taken short) :
    Calls Tryd.prog 73 #[.pointer (some ⟨B, 0, none⟩), .int .i64 0] w fun r w' => r = .returned (.slice none 0 0) ∧
      w' = ((w.setCell ⟨B, 0, none⟩ (.slice none 0 0)).setCell ⟨B, 1, none⟩ (.int .i64 (wrap64 taken))).drew := by
  obtain ⟨x0, x1, x2, xf⟩ := h.cells
  clear h
  go_enter Tryd.func73, Tryd.ntmps73
  go_wp2_with fail
  go_region_with (go_at_call 39; refine (want_yes _ short).mono ?_; rintro e w' ⟨rfl, rfl⟩)
  all_goals try go_wp2
  all_goals go_ret
  all_goals exact ⟨rfl, rfl⟩
#print axioms cut_some
#print axioms cut_null
end Go.Proofs.YtefcjggmlhoebaaDoor
namespace Go.Proofs.YtefcjggmlhoebaaDoor
open Go Go.RowKit

/-- A header, its rows told by what they read. -/
structure Hv where
  k : Int
  v : Int
  to : List Int
  fr : List Int
  tk : List Int
  p : Int
  n : Int
  w : Int
def hcells (h : Hv) (vt vf vk : Value) : Array Value := #[.int .i64 h.k, .int .i64 h.v, vt, vf, vk, .int .i64 h.p, .int .i64 h.n, .int .i64 h.w]
/-- The three rows read as the header's. -/
structure Hr (w : World) (h : Hv) (vt vf vk : Value) : Prop where
  to : Rd w vt h.to
  fr : Rd w vf h.fr
  tk : Rd w vk h.tk
theorem Rd.shape {w : World} {v : Value} {zs : List Int} (h : Rd w v zs) : ∃ ao cap, v = .slice ao zs.length cap := by
  obtain ⟨ao, cap, hv, _⟩ := h
  exact ⟨ao, cap, hv⟩
theorem heap_alloc2_new (w : World) (o o' : Obj) : ((w.alloc o).alloc o').heap[w.heap.size + 1]? = some o' := by
  have := heap_alloc_new (w.alloc o) o'
  simpa using this
theorem keepS {w w' : World} {a : Addr} {v : Value} (hb : Below w.heap.size w w') (h : w.cell? a = some v) : w'.cell? a = some v := by rw [hb.cell (cell_lt h)]; exact h
theorem keepF {w w' : World} {b : Nat} {v : Value} (hb : Below w.heap.size w w') (hc : w.cell? ⟨b, 0, none⟩ = some v) (h : ∀ j, w.frozen? ⟨b, j, none⟩ = false) : ∀ j, w'.frozen? ⟨b, j, none⟩ = false := fun j => by rw [hb.frozen (p := ⟨b, j, none⟩) (show b < w.heap.size from cell_lt hc)]; exact h j
#print axioms Rd.shape
end Go.Proofs.YtefcjggmlhoebaaDoor
