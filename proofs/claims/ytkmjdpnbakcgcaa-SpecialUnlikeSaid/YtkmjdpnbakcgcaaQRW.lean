/- The bytes of a retry: the document's, whole. -/
import Derived.Test.YtkmjdpnbakcgcaaQRRetry
import Derived.Deep.RegionHeld3
namespace Go.Proofs.Ytkmjdpnbakcgcaa
open Go Go.RowKit

theorem kept {w w' : World} {b o : Nat} {v : Value} (hb : Below w.heap.size w w') (h : w.cell? ⟨b, o, none⟩ = some v) : w'.cell? ⟨b, o, none⟩ = some v := by
  rw [hb.cell (p := ⟨b, o, none⟩) (cell_lt h)]; exact h
theorem kept5 {w w' : World} {b : Nat} {v0 v1 v2 v3 v4 : Value} (hb : Below w.heap.size w w') (h : w.cell? ⟨b, 0, none⟩ = some v0 ∧ w.cell? ⟨b, 1, none⟩ = some v1 ∧ w.cell? ⟨b, 2, none⟩ = some v2 ∧ w.cell? ⟨b, 3, none⟩ = some v3 ∧ w.cell? ⟨b, 4, none⟩ = some v4) :
    w'.cell? ⟨b, 0, none⟩ = some v0 ∧ w'.cell? ⟨b, 1, none⟩ = some v1 ∧ w'.cell? ⟨b, 2, none⟩ = some v2 ∧ w'.cell? ⟨b, 3, none⟩ = some v3 ∧ w'.cell? ⟨b, 4, none⟩ = some v4 :=
  ⟨kept hb h.1, kept hb h.2.1, kept hb h.2.2.1, kept hb h.2.2.2.1, kept hb h.2.2.2.2⟩
theorem shapeO {w : World} {base : Nat} {v : Value} {zs : List Int} (h : w.ownsRow base 5 1 v zs.length (by8 zs)) (hz : Byt zs) : ∃ ao cap, v = .slice ao zs.length cap := by
  obtain ⟨ao, cap, hv, _⟩ := (Rd.of_own h hz).1
  exact ⟨ao, cap, hv⟩
end Go.Proofs.Ytkmjdpnbakcgcaa
