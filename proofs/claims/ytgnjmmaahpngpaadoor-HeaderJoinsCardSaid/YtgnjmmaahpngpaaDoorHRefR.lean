/- The document's Right tells the same. -/
import Derived.Test.YtgnjmmaahpngpaaDoorHRight
namespace Go.Proofs.YtgnjmmaahpngpaaDoor
open Go Go.RowKit

theorem num_facts {h : Hv} (hX : numB h = true) : ∃ k : Nat, (h.w = (k : Int) ∧ k ≤ 4) ∧ decide (h.w < 1) = false ∧ decide (4 < h.w) = false ∧ decide (h.n < 0) = false ∧ decide ((256 : Int) ^ k ≤ h.n) = false := by
  unfold numB fitsB at hX
  simp only [Bool.and_eq_true, decide_eq_true_eq] at hX
  obtain ⟨⟨h1, h2⟩, h3, h4⟩ := hX
  refine ⟨h.w.toNat, ⟨by omega, by omega⟩, decide_eq_false (by omega), decide_eq_false (by omega), decide_eq_false (by omega), decide_eq_false (by omega)⟩

theorem long_of (h : Hv) (hk : h.k = 0 ∨ h.k = 1 ∨ h.k = 2) : rightB h = (decide (1 ≤ h.v) && decide (h.v ≤ 4294967295) && decide (h.to.length ≤ 20) && decide (h.fr.length ≤ 20) && decide (h.p = 0) && numB h && (decide (h.tk.length = 0) || (decide (h.k = 0) && decide (h.tk.length ≤ 64)))) := by
  have e1 : decide (0 < h.v) = decide (1 ≤ h.v) := by rw [decide_eq_decide]; omega
  have e2 : decide (h.v < 4294967296) = decide (h.v ≤ 4294967295) := by rw [decide_eq_decide]; omega
  unfold rightB longB
  rw [e1, e2]
  rcases hk with hk | hk | hk
  · have e3 : (decide (h.tk.length = 0) || (decide (h.k = 0) && decide (h.tk.length ≤ 64))) = decide (h.tk.length ≤ 64) := by
      rw [hk]
      by_cases hx : h.tk.length = 0
      · rw [hx]; rfl
      · rw [decide_eq_false hx]; simp
    rw [e3, if_pos hk]
  · have e3 : (decide (h.tk.length = 0) || (decide (h.k = 0) && decide (h.tk.length ≤ 64))) = decide (h.tk.length = 0) := by
      rw [hk, Bool.eq_iff_iff]; simp
    rw [e3, if_neg (by omega), if_pos (.inl hk)]
  · have e3 : (decide (h.tk.length = 0) || (decide (h.k = 0) && decide (h.tk.length ≤ 64))) = decide (h.tk.length = 0) := by
      rw [hk, Bool.eq_iff_iff]; simp
    rw [e3, if_neg (by omega), if_pos (.inr hk)]

end Go.Proofs.YtgnjmmaahpngpaaDoor
