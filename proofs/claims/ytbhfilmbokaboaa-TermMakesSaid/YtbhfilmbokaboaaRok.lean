/- Which parts the reference takes: the same as the program. -/
import Derived.Test.YtbhfilmbokaboaaBoth
namespace Go.Proofs.Ytbhfilmbokaboaa
open Go Go.RowKit

/-- The reference's switch. -/
def refOk (N : List Nd) (k : Int) (ps : List Int) : Bool :=
  if k = 3 then decide (ps.length ≤ 16) else if k = 4 then decide (ps.length = 1) else if k = 5 then decide (ps.length = 2)
  else if k = 6 ∨ k = 10 then decide (ps.length = 3) && decide (kindN N (ps.getD 1 0) = 1)
  else if k = 7 then decide (ps.length = 1) && decide (kindN N (ps.getD 0 0) = 2)
  else if k = 8 then decide (ps.length = 2) && decide (kindN N (ps.getD 0 0) = 2) && decide (kindN N (ps.getD 1 0) = 7)
  else if k = 9 then decide (ps.length = 2) && decide (kindN N (ps.getD 0 0) = 2) else false

theorem kindN_iff {N : List Nd} (hk : ∀ m ∈ N, m.1 ≠ 0) (p : Int) : kindN N p ≠ 0 ↔ 1 ≤ p ∧ p ≤ (N.length : Int) := by
  constructor
  · intro h
    by_cases h1 : p < 1 ∨ (N.length : Int) < p
    · exact absurd (kindN_out N p h1) h
    · omega
  · rintro ⟨h1, h2⟩
    unfold kindN
    rw [if_neg (by omega)]
    have hlt : (p - 1).toNat < N.length := by omega
    rw [List.getElem?_eq_getElem hlt]
    exact hk _ (List.getElem_mem hlt)
theorem okN_in {N : List Nd} (hk : ∀ m ∈ N, m.1 ≠ 0) (a p : Int) (h : kindN N p ≠ 0) : okN N a p = (decide (a = 0) || decide (a = kindN N p)) := by
  obtain ⟨h1, h2⟩ := (kindN_iff hk p).1 h
  simp [okN, h1, h2]
theorem fits_none {N : List Nd} (hk : ∀ m ∈ N, m.1 ≠ 0) (k : Int) (ps : List Int) (j : Nat) (hj : j < ps.length) (h : kindN N (ps.getD j 0) = 0) : fitsN N k ps = false := by
  unfold fitsN
  cases askL k ps.length with
  | none => rfl
  | some l =>
    simp only [Bool.and_eq_false_iff, decide_eq_false_iff_not]
    refine .inr ?_
    rw [List.all_eq_false]
    refine ⟨j, List.mem_range.2 hj, ?_⟩
    have : ¬ (1 ≤ ps.getD j 0 ∧ ps.getD j 0 ≤ (N.length : Int)) := fun e => (kindN_iff hk _).2 e h
    unfold okN
    simp only [Bool.and_eq_true, decide_eq_true_eq]
    exact fun e => this e.1
theorem fits_ref {N : List Nd} (hk : ∀ m ∈ N, m.1 ≠ 0) (k : Int) (ps : List Int) (hall : ∀ j, j < ps.length → kindN N (ps.getD j 0) ≠ 0) : fitsN N k ps = refOk N k ps := by
  have hok : ∀ a j, j < ps.length → okN N a (ps.getD j 0) = (decide (a = 0) || decide (a = kindN N (ps.getD j 0))) := fun a j hj => okN_in hk a _ (hall j hj)
  clear hall
  unfold fitsN refOk askL
  by_cases h3 : k = 3
  · rw [if_pos h3, if_pos h3]
    by_cases h16 : 16 < ps.length
    · rw [if_pos h16]; exact (decide_eq_false (by omega)).symm
    · rw [if_neg h16]
      rw [decide_eq_true (show ps.length ≤ 16 by omega)]
      simp only [List.length_replicate, decide_true, Bool.true_and, List.all_eq_true, List.mem_range]
      intro j hj
      rw [hok _ j hj]
      simp [List.getD, hj]
  · rw [if_neg h3, if_neg h3]
    have two : ∀ (l : List Int), (decide (l.length = ps.length) && (List.range ps.length).all fun j => okN N (l.getD j 0) (ps.getD j 0)) = (decide (l.length = ps.length) && (List.range ps.length).all fun j => decide (l.getD j 0 = 0) || decide (l.getD j 0 = kindN N (ps.getD j 0))) := fun l => by
      congr 1
      rw [Bool.eq_iff_iff, List.all_eq_true, List.all_eq_true]
      constructor
      · intro h j hj; rw [← hok _ j (List.mem_range.1 hj)]; exact h j hj
      · intro h j hj; rw [hok _ j (List.mem_range.1 hj)]; exact h j hj
    have sw : ∀ n : Nat, decide (n = ps.length) = decide (ps.length = n) := fun n => decide_eq_decide.2 eq_comm
    have one : ∀ (l : List Int) (b : Bool), (ps.length = l.length → ((List.range l.length).all fun j => decide (l.getD j 0 = 0) || decide (l.getD j 0 = kindN N (ps.getD j 0))) = b) →
        (decide (l.length = ps.length) && (List.range ps.length).all fun j => okN N (l.getD j 0) (ps.getD j 0)) = (decide (ps.length = l.length) && b) := fun l b h => by
      rw [two, sw]
      by_cases hl : ps.length = l.length
      · rw [hl, h hl]
      · rw [decide_eq_false hl]; rfl
    have sy : ∀ x y : Int, decide (x = y) = decide (y = x) := fun x y => decide_eq_decide.2 eq_comm
    by_cases h4 : k = 4
    · rw [if_pos h4, if_pos h4]
      exact (one [0] true (fun _ => rfl)).trans (by simp)
    · rw [if_neg h4, if_neg h4]
      by_cases h5 : k = 5
      · rw [if_pos h5, if_pos h5]
        exact (one [0, 0] true (fun _ => rfl)).trans (by simp)
      · rw [if_neg h5, if_neg h5]
        by_cases h6 : k = 6 ∨ k = 10
        · rw [if_pos h6, if_pos h6]
          exact one [0, 1, 0] _ (fun _ => by simp [List.range_succ, sy 1])
        · rw [if_neg h6, if_neg h6]
          by_cases h7 : k = 7
          · rw [if_pos h7, if_pos h7]
            exact one [2] _ (fun _ => by simp [List.range_succ, sy 2])
          · rw [if_neg h7, if_neg h7]
            by_cases h8 : k = 8
            · rw [if_pos h8, if_pos h8, Bool.and_assoc]
              exact one [2, 7] _ (fun _ => by simp [List.range_succ, sy 2, sy 7])
            · rw [if_neg h8, if_neg h8]
              by_cases h9 : k = 9
              · rw [if_pos h9, if_pos h9]
                exact one [2, 0] _ (fun _ => by simp [List.range_succ, sy 2])
              · rw [if_neg h9, if_neg h9]
#print axioms fits_ref
end Go.Proofs.Ytbhfilmbokaboaa
