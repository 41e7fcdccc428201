/- HeaderWrites' walk: may any header be, and its bytes: both sides tell the same. -/
import Derived.Test.YtgnjmmaahpngpaaDoorOf
import Derived.Test.YtgnjmmaahpngpaaDoorHRefR
import Derived.Test.YtgnjmmaahpngpaaDoorHRefW
import Derived.Test.YtgnjmmaahpngpaaDoorHAwake
namespace Go.Proofs.YtgnjmmaahpngpaaDoor
open Go Go.RowKit

theorem cells8 {w : World} {B : Nat} {c0 c1 c2 c3 c4 c5 c6 c7 : Value} {T : TypeId} (h : w.heap[B]? = some (.cells #[c0, c1, c2, c3, c4, c5, c6, c7] T (0, 0))) :
    w.cell? ⟨B, 0, none⟩ = some c0 ∧ w.cell? ⟨B, 1, none⟩ = some c1 ∧ w.cell? ⟨B, 2, none⟩ = some c2 ∧ w.cell? ⟨B, 3, none⟩ = some c3 ∧ w.cell? ⟨B, 4, none⟩ = some c4 ∧ w.cell? ⟨B, 5, none⟩ = some c5 ∧ w.cell? ⟨B, 6, none⟩ = some c6 ∧ w.cell? ⟨B, 7, none⟩ = some c7 :=
  ⟨(cell_of_row _ B 0 _ T (0, 0) h).trans rfl, (cell_of_row _ B 1 _ T (0, 0) h).trans rfl, (cell_of_row _ B 2 _ T (0, 0) h).trans rfl, (cell_of_row _ B 3 _ T (0, 0) h).trans rfl, (cell_of_row _ B 4 _ T (0, 0) h).trans rfl, (cell_of_row _ B 5 _ T (0, 0) h).trans rfl, (cell_of_row _ B 6 _ T (0, 0) h).trans rfl, (cell_of_row _ B 7 _ T (0, 0) h).trans rfl⟩
theorem row_below {w w' : World} {B : Nat} {o : Obj} (hb : Below w.heap.size w w') (h : w.heap[B]? = some o) : w'.heap[B]? = some o := by
  rw [hb.block B (Array.getElem?_eq_some_iff.1 h).1]; exact h
theorem keep16 {w w' : World} {A B : Nat} {v0 v1 v2 v3 v4 v5 v6 v7 v8 v9 v10 v11 v12 v13 v14 v15 : Value} (hb : Below w.heap.size w w') (h : w.cell? ⟨A, 0, none⟩ = some v0 ∧ w.cell? ⟨A, 1, none⟩ = some v1 ∧ w.cell? ⟨A, 2, none⟩ = some v2 ∧ w.cell? ⟨A, 3, none⟩ = some v3 ∧ w.cell? ⟨A, 4, none⟩ = some v4 ∧ w.cell? ⟨A, 5, none⟩ = some v5 ∧ w.cell? ⟨A, 6, none⟩ = some v6 ∧ w.cell? ⟨A, 7, none⟩ = some v7 ∧ w.cell? ⟨B, 0, none⟩ = some v8 ∧ w.cell? ⟨B, 1, none⟩ = some v9 ∧ w.cell? ⟨B, 2, none⟩ = some v10 ∧ w.cell? ⟨B, 3, none⟩ = some v11 ∧ w.cell? ⟨B, 4, none⟩ = some v12 ∧ w.cell? ⟨B, 5, none⟩ = some v13 ∧ w.cell? ⟨B, 6, none⟩ = some v14 ∧ w.cell? ⟨B, 7, none⟩ = some v15) : w'.cell? ⟨A, 0, none⟩ = some v0 ∧ w'.cell? ⟨A, 1, none⟩ = some v1 ∧ w'.cell? ⟨A, 2, none⟩ = some v2 ∧ w'.cell? ⟨A, 3, none⟩ = some v3 ∧ w'.cell? ⟨A, 4, none⟩ = some v4 ∧ w'.cell? ⟨A, 5, none⟩ = some v5 ∧ w'.cell? ⟨A, 6, none⟩ = some v6 ∧ w'.cell? ⟨A, 7, none⟩ = some v7 ∧ w'.cell? ⟨B, 0, none⟩ = some v8 ∧ w'.cell? ⟨B, 1, none⟩ = some v9 ∧ w'.cell? ⟨B, 2, none⟩ = some v10 ∧ w'.cell? ⟨B, 3, none⟩ = some v11 ∧ w'.cell? ⟨B, 4, none⟩ = some v12 ∧ w'.cell? ⟨B, 5, none⟩ = some v13 ∧ w'.cell? ⟨B, 6, none⟩ = some v14 ∧ w'.cell? ⟨B, 7, none⟩ = some v15 := by
  obtain ⟨h0, h1, h2, h3, h4, h5, h6, h7, h8, h9, h10, h11, h12, h13, h14, h15⟩ := h
  exact ⟨keepS hb h0, keepS hb h1, keepS hb h2, keepS hb h3, keepS hb h4, keepS hb h5, keepS hb h6, keepS hb h7, keepS hb h8, keepS hb h9, keepS hb h10, keepS hb h11, keepS hb h12, keepS hb h13, keepS hb h14, keepS hb h15⟩
theorem light_len {h : Hv} (h1 : lightB h = true) : h.to.length ≤ 1000 ∧ h.fr.length ≤ 1000 ∧ h.tk.length ≤ 1000 := by
  unfold lightB at h1
  simp only [Bool.and_eq_true, decide_eq_true_eq] at h1
  omega
theorem right_kind {h : Hv} (hX : rightB h = true) : h.k = 3 ∨ h.k = 0 ∨ h.k = 1 ∨ h.k = 2 := by
  unfold rightB at hX
  by_cases h0 : h.k = 0
  · exact .inr (.inl h0)
  · rw [if_neg h0] at hX
    by_cases h1 : h.k = 1 ∨ h.k = 2
    · exact .inr (.inr h1)
    · rw [if_neg h1] at hX
      by_cases h3 : h.k = 3
      · exact .inl h3
      · rw [if_neg h3] at hX; cases hX
theorem write_yes (w : World) (h : Hv) (n : Int) (a2 : Option Addr) (c2 : Nat) (a3 : Option Addr) (c3 : Nat) (a4 : Option Addr) (c4 : Nat) (hr : Hr w h (.slice a2 h.to.length c2) (.slice a3 h.fr.length c3) (.slice a4 h.tk.length c4)) (hX : rightB h = true) (hn : 0 ≤ n ∧ n ≤ 16384) (ht : Tab w) (hw : 1 < w.heap.size) :
    Calls Tryd.prog 5 #[.agg #[.int .i64 h.k, .int .i64 h.v, .slice a2 h.to.length c2, .slice a3 h.fr.length c3, .slice a4 h.tk.length c4, .int .i64 h.p, .int .i64 h.n, .int .i64 h.w], .int .i64 n] w fun e w' => ∃ v', e = .returned v' ∧ w'.ownsRow w.heap.size 5 1 v' (wrB h n).length (by8 (wrB h n)) ∧ Below w.heap.size w w' := by
  rcases right_kind hX with hk | hk
  · exact write_short w h n a2 c2 a3 c3 a4 c4 hr hX hk hn
  · exact write_long w h n a2 c2 a3 c3 a4 c4 hr hX hk hn ht hw
theorem wrB_byt {h : Hv} {n : Int} {w : World} {vt vf vk : Value} (hr : Hr w h vt vf vk) (hX : rightB h = true) : Byt (wrB h n) := by
  have hnum : numB h = true := by
    cases hb : numB h with
    | true => rfl
    | false =>
      unfold rightB longB shortB at hX
      rw [hb] at hX
      simp at hX
  unfold numB at hnum
  simp only [Bool.and_eq_true, decide_eq_true_eq] at hnum
  unfold wrB
  rcases right_kind hX with hk | hk
  · rw [if_pos hk]
    have hp : 0 ≤ h.p ∧ h.p ≤ 1 := by
      unfold rightB shortB at hX
      rw [if_neg (by omega), if_neg (by omega), if_pos hk] at hX
      simp only [Bool.and_eq_true, Bool.or_eq_true, decide_eq_true_eq] at hX
      omega
    exact ((byt1 (by omega)).app hr.to.byt).app (big_byt _ _)
  · rw [if_neg (by omega)]
    have hl : h.to.length ≤ 20 ∧ h.fr.length ≤ 20 := by
      unfold rightB longB at hX
      rcases hk with hk | hk | hk
      · rw [if_pos hk] at hX; simp only [Bool.and_eq_true, decide_eq_true_eq] at hX; omega
      · rw [if_neg (by omega), if_pos (.inl hk)] at hX; simp only [Bool.and_eq_true, decide_eq_true_eq] at hX; omega
      · rw [if_neg (by omega), if_pos (.inr hk)] at hX; simp only [Bool.and_eq_true, decide_eq_true_eq] at hX; omega
    have hmid : Byt (if h.k = 0 then enc h.tk.length ++ h.tk else []) := by
      split
      · exact (enc_byt _).app hr.tk.byt
      · exact Byt.nil
    exact ((((((((byt1 (by omega)).app (big_byt _ _)).app (byt1 (by omega))).app hr.to.byt).app (byt1 (by omega))).app hr.fr.byt).app hmid).app (enc_byt _)).app (big_byt _ _)

end Go.Proofs.YtgnjmmaahpngpaaDoor
