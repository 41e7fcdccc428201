/- frame: the document's Right. -/
import Derived.Test.YtgcgmgcgbnepeaaDoorGOf
import Derived.Test.YtgcgmgcgbnepeaaDoorGLt
namespace Go.Proofs.YtgcgmgcgbnepeaaDoor
open Go Go.RowKit

/-- rightB, by numbers. -/
def rbN (k c : Int) (n : Nat) (a : Int) (m : Nat) (t : Int) (pa nb tb : Bool) : Bool :=
  if k = 0 then decide (1 ≤ c ∧ c ≤ 1200) && (decide (n = 0) && decide (a = 0) && decide (m = 0) && decide (t = 0))
  else if k = 1 ∨ k = 30 then (decide (c = 0) && decide (n = 0) && decide (a = 0) && decide (m = 0) && decide (t = 0))
  else if k = 2 then pa && (decide (c = 0) && decide (a = 0) && decide (m = 0) && decide (t = 0))
  else if k = 6 then decide (0 ≤ a ∧ a ≤ 1048576 ∧ 1 ≤ m ∧ m ≤ 1000) && (decide (c = 0) && decide (n = 0) && decide (t = 0))
  else if k = 7 then tb && (decide (c = 0) && decide (n = 0) && decide (a = 0) && decide (m = 0))
  else if k = 8 then (nb && tb) && (decide (n = 0) && decide (a = 0) && decide (m = 0))
  else if k = 28 then nb && (decide (n = 0) && decide (a = 0) && decide (m = 0) && decide (t = 0))
  else false
theorem rb_num (k c : Int) (sp : List Sp) (a : Int) (d : List Int) (t : Int) : rightB ⟨k, c, sp, a, d, t⟩ = rbN k c sp.length a d.length t (decide (ackP sp)) (nmB c) (tmB t) := by
  unfold rightB rbN bareB
  simp only
  by_cases h0 : k = 0
  · simp [h0]
  by_cases h1 : k = 1 ∨ k = 30
  · simp [h0, h1]
  by_cases h2 : k = 2
  · simp [h2]
  by_cases h6 : k = 6
  · simp [h6]
  by_cases h7 : k = 7
  · simp [h7]
  by_cases h8 : k = 8
  · simp [h8]
  by_cases h28 : k = 28
  · simp [h28]
  simp [h0, h1, h2, h6, h7, h8, h28]
theorem ack_nm {S : List Sp} (h : ackP S) : ∀ j, j < S.length → (S.getD j (0, 0)).2 < 4611686018427387904 := by
  obtain ⟨_, _, h0, hk⟩ := h
  intro j
  induction j with
  | zero => intro _; exact (nmB_iff.1 h0).2
  | succ j ih =>
    intro hj
    have h1 := ih (by omega)
    have h2 := (hk (j + 1) hj).2.2 (by omega)
    have h3 := (hk j (by omega)).2.1
    simp only [Nat.add_sub_cancel] at h2
    omega
structure RBx (w : World) (f : Fv) (sv dv : Value) (wr : World) : Prop where
  bel : Below w.heap.size w wr
  box : wr.heap[w.heap.size]? = some (.cells (fCells f sv dv) 33 (0, 0))
theorem RBx.below {w wr w2 : World} {f : Fv} {sv dv : Value} (h : RBx w f sv dv wr) (hb : Below wr.heap.size wr w2) : RBx w f sv dv w2 := by
  have := (Array.getElem?_eq_some_iff.1 h.box).1
  exact ⟨h.bel.trans (hb.mono (by omega)), by rw [hb.block _ this]; exact h.box⟩
end Go.Proofs.YtgcgmgcgbnepeaaDoor
