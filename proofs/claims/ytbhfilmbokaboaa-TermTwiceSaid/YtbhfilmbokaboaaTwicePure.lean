/- What is made twice has one number, and parts have smaller numbers: told of the nodes alone. -/
import Derived.Test.YtbhfilmbokaboaaDo
import Derived.Test.YtbhfilmbokaboaaHas
namespace Go.Proofs.Ytbhfilmbokaboaa
open Go Go.RowKit

/-- Parts stand ahead of what has them. -/
def Low (N : List Nd) : Prop := ∀ (q : Nat) (n : Nd), N[q]? = some n → ∀ p ∈ n.2.2, p ≤ (q : Int)
theorem Low.nil : Low [] := fun q n h => by cases h
theorem Low.put {N : List Nd} (h : Low N) {n : Nd} (hn : ∀ p ∈ n.2.2, p ≤ (N.length : Int)) : Low (putN N n).2 := by
  cases hc : idxN 1 N n with
  | some c => rw [putN_old hc]; exact h
  | none =>
    rw [putN_new hc]
    intro q m hq p hp
    by_cases hlt : q < N.length
    · rw [List.getElem?_append_left hlt] at hq
      exact h q m hq p hp
    · have hq2 := (List.getElem?_eq_some_iff.1 hq).1
      simp only [List.length_append, List.length_cons, List.length_nil] at hq2
      obtain rfl : q = N.length := by omega
      simp at hq
      subst hq
      exact hn p hp
theorem OkN.good {N : List Nd} (h : OkN N) : GoodN N := fun m hm p hp => ((h m hm).1.2.2.2.1 p hp).1

theorem fits_mem {N : List Nd} {k : Int} {ps : List Int} (hf : fitsN N k ps = true) : ∀ p ∈ ps, 1 ≤ p ∧ p ≤ (N.length : Int) := by
  unfold fitsN at hf
  cases ha : askL k ps.length with
  | none => rw [ha] at hf; cases hf
  | some l =>
    rw [ha] at hf
    simp only [Bool.and_eq_true, decide_eq_true_eq, List.all_eq_true, List.mem_range] at hf
    intro p hp
    obtain ⟨j, hj, rfl⟩ := List.mem_iff_getElem.1 hp
    have := hf.2 j hj
    unfold okN at this
    simp only [Bool.and_eq_true, decide_eq_true_eq, List.getD_eq_getElem?_getD, List.getElem?_eq_getElem hj, Option.getD_some] at this
    exact this.1
theorem kindN_app {N M : List Nd} {p : Int} (h : p ≤ (N.length : Int)) : kindN (N ++ M) p = kindN N p := by
  unfold kindN
  by_cases h1 : p < 1
  · rw [if_pos h1, if_pos h1]
  · rw [if_neg h1, if_neg h1, List.getElem?_append_left (by omega)]
theorem partsN_app {N M : List Nd} {p : Int} (h1 : 1 ≤ p) (h : p ≤ (N.length : Int)) : partsN (N ++ M) p = partsN N p := by
  unfold partsN
  rw [List.getElem?_append_left (by omega)]
theorem fits_app {N M : List Nd} {k : Int} {ps : List Int} (hf : fitsN N k ps = true) : fitsN (N ++ M) k ps = true := by
  have hm := fits_mem hf
  unfold fitsN at hf ⊢
  cases ha : askL k ps.length with
  | none => rw [ha] at hf; cases hf
  | some l =>
    rw [ha] at hf
    simp only [Bool.and_eq_true, decide_eq_true_eq, List.all_eq_true, List.mem_range] at hf ⊢
    refine ⟨hf.1, fun j hj => ?_⟩
    have h2 := hf.2 j hj
    have h3 := hm ps[j] (List.getElem_mem hj)
    have e : ps.getD j 0 = ps[j] := by simp [List.getD_eq_getElem?_getD, List.getElem?_eq_getElem hj]
    unfold okN at h2 ⊢
    rw [e] at h2 ⊢
    rw [kindN_app h3.2]
    simp only [Bool.and_eq_true, decide_eq_true_eq, List.length_append] at h2 ⊢
    exact ⟨⟨h2.1.1, by omega⟩, h2.2⟩
theorem fits8 {N : List Nd} {ps : List Int} (hf : fitsN N 8 ps = true) : ps.length = 2 ∧ kindN N (ps.getD 1 0) = 7 := by
  unfold fitsN at hf
  have hl : ps.length = 2 := by
    cases ha : askL 8 ps.length with
    | none => rw [ha] at hf; cases hf
    | some l =>
      have hl : l = [2, 7] := Option.some.inj (ha.symm.trans rfl)
      rw [ha] at hf
      simp only [Bool.and_eq_true, decide_eq_true_eq] at hf
      rw [← hf.1, hl]; rfl
  refine ⟨hl, ?_⟩
  have ha : askL 8 ps.length = some [2, 7] := rfl
  rw [ha] at hf
  simp only [Bool.and_eq_true, decide_eq_true_eq, List.all_eq_true, List.mem_range] at hf
  have := hf.2 1 (by omega)
  simp only [okN, List.getD_cons_succ, List.getD_cons_zero, Bool.and_eq_true, Bool.or_eq_true, decide_eq_true_eq] at this
  rcases this.2 with h | h
  · omega
  · exact h.symm
theorem fits2 {N : List Nd} {k : Int} {ps : List Int} (hf : fitsN N k ps = true) : k ≠ 2 := by
  intro e
  subst e
  unfold fitsN at hf
  have : askL 2 ps.length = none := rfl
  rw [this] at hf
  cases hf
theorem mk_app {N M : List Nd} {k : Int} {ps : List Int} (hf : fitsN N k ps = true) : mkN (N ++ M) k ps = mkN N k ps := by
  unfold mkN
  by_cases h8 : k = 8
  · subst h8
    obtain ⟨hl, _⟩ := fits8 hf
    have hm := fits_mem hf (ps.getD 1 0) (by
      rw [List.getD_eq_getElem?_getD, List.getElem?_eq_getElem (show 1 < ps.length by omega)]
      exact List.getElem_mem _)
    rw [if_pos rfl, if_pos rfl, partsN_app hm.1 hm.2]
  · rw [if_neg h8, if_neg h8]
/-- The parts of what is made are terms of the table. -/
theorem mk_mem {N : List Nd} (hN : OkN N) (hlow : Low N) {k : Int} {ps : List Int} (hf : fitsN N k ps = true) : ∀ p ∈ mkN N k ps, 1 ≤ p ∧ p ≤ (N.length : Int) := by
  unfold mkN
  by_cases h8 : k = 8
  · subst h8
    obtain ⟨hl, hk⟩ := fits8 hf
    have hm1 := fits_mem hf (ps.getD 1 0) (by
      rw [List.getD_eq_getElem?_getD, List.getElem?_eq_getElem (show 1 < ps.length by omega)]
      exact List.getElem_mem _)
    have hm0 := fits_mem hf (ps.getD 0 0) (by
      rw [List.getD_eq_getElem?_getD, List.getElem?_eq_getElem (show 0 < ps.length by omega)]
      exact List.getElem_mem _)
    generalize ps.getD 1 0 = y at *
    generalize ps.getD 0 0 = x at *
    rw [if_pos rfl]
    obtain ⟨n, hn⟩ : ∃ n, N[(y - 1).toNat]? = some n := ⟨_, List.getElem?_eq_getElem (by omega)⟩
    have hk7 : n.1 = 7 := by
      unfold kindN at hk
      rw [if_neg (by omega), hn] at hk
      exact hk
    have hok := (hN n (List.mem_of_getElem? hn)).1
    obtain ⟨o, ho⟩ := List.length_eq_one_iff.1 (hok.2.2.2.2 hk7)
    have hpo : (partsN N y).getD 0 0 = o := by
      unfold partsN
      rw [hn]
      simp [ho]
    have h1 := hok.2.2.2.1 o (by rw [ho]; simp)
    have h2 := hlow _ n hn o (by rw [ho]; simp)
    rw [hpo]
    intro p hp
    simp only [List.mem_cons, List.not_mem_nil, or_false] at hp
    rcases hp with rfl | rfl <;> omega
  · rw [if_neg h8]
    exact fits_mem hf
theorem Low.make {N : List Nd} (h : Low N) (hN : OkN N) (k : Int) (ps : List Int) : Low (makeN N k ps).2 := by
  unfold makeN
  split
  · rename_i hf
    exact h.put fun p hp => (mk_mem hN h hf p hp).2
  · exact h
theorem Low.do {N : List Nd} (h : Low N) (hN : OkN N) (k : Int) (t : ByteArray) (near : Bool) (xs : List Int) : Low (doN N k t near xs).2 := by
  unfold doN
  split
  · exact h.put (fun p hp => by cases hp)
  · split
    · exact h.put (fun p hp => by cases hp)
    · exact h.make hN _ _
theorem make_again {N : List Nd} (hN : OkN N) (hlow : Low N) (k : Int) (ps : List Int) (h0 : (makeN N k ps).1 ≠ 0) : makeN (makeN N k ps).2 k ps = ((makeN N k ps).1, (makeN N k ps).2) ∧ 1 ≤ (makeN N k ps).1 := by
  by_cases hf : fitsN N k ps = true
  · have hput := put_has hN.good (n := (k, ByteArray.empty, mkN N k ps)) (fits2 hf) (fun p hp => (mk_mem hN hlow hf p hp).1)
    unfold makeN
    rw [if_pos hf]
    obtain ⟨M, hM⟩ := hput.2.1
    have hf2 : fitsN (putN N (k, ByteArray.empty, mkN N k ps)).2 k ps = true := by rw [← hM]; exact fits_app hf
    have hm2 : mkN (putN N (k, ByteArray.empty, mkN N k ps)).2 k ps = mkN N k ps := by rw [← hM]; exact mk_app hf
    rw [if_pos hf2, hm2]
    exact ⟨hput.1.put, hput.1.pos⟩
  · exfalso
    apply h0
    unfold makeN
    rw [if_neg hf]
theorem text_again {N : List Nd} (hN : OkN N) (s : ByteArray) : textN (textN N s).2 s = ((textN N s).1, (textN N s).2) ∧ 1 ≤ (textN N s).1 :=
  ⟨(text_has hN.good s).1.put, (text_has hN.good s).1.pos⟩
theorem secret_num (N : List Nd) : (putN N secretNd).1 = (N.length : Int) + 1 := by rw [put_secret]
/-- What a step tells is a number of the table behind it, or 0. -/
theorem put_range (N : List Nd) (n : Nd) : 1 ≤ (putN N n).1 ∧ (putN N n).1 ≤ ((putN N n).2.length : Int) := by
  cases hc : idxN 1 N n with
  | some c =>
    rw [putN_old hc]
    obtain ⟨m, h1, h2, _⟩ := idxN_at N n 1 c hc
    have := (List.getElem?_eq_some_iff.1 h2).1
    exact ⟨h1, by show c ≤ (N.length : Int); omega⟩
  | none => rw [putN_new hc]; exact ⟨by show (1 : Int) ≤ (N.length : Int) + 1; omega, by simp⟩
theorem do_range (N : List Nd) (k : Int) (t : ByteArray) (near : Bool) (xs : List Int) : (doN N k t near xs).1 = 0 ∨ (1 ≤ (doN N k t near xs).1 ∧ (doN N k t near xs).1 ≤ ((doN N k t near xs).2.length : Int)) := by
  unfold doN
  split
  · exact .inr (put_range _ _)
  · split
    · exact .inr (put_range _ _)
    · unfold makeN
      split
      · exact .inr (put_range _ _)
      · exact .inl rfl
#print axioms make_again
#print axioms mk_mem
#print axioms do_range
end Go.Proofs.Ytbhfilmbokaboaa
