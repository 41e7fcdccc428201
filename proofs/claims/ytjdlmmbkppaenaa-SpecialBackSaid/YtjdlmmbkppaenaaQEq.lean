/- special: what the document's start tells, in the words of what the program cuts off. -/
import Derived.Test.YtjdlmmbkppaenaaQDRetry
namespace Go.Proofs.Ytjdlmmbkppaenaa
open Go Go.RowKit

theorem cutZ_in {zs : List Int} {t n : Nat} (h : t + n ≤ zs.length) : cutZ zs t n = (zs.drop t).take n := by
  unfold cutZ
  rw [show n - (zs.length - t) = 0 by omega]
  simp
theorem num1 {zs : List Int} {t : Nat} {x : Int} (h : t + 1 ≤ zs.length) (hx : cutZ zs t 1 = [x]) : inNumber 1 ⟨zs, t, 0⟩ = (x, ⟨zs, t + 1, 0⟩) := by
  rw [cutZ_in h] at hx
  rw [inNumber_yes (by simp only [List.length_drop]; omega), hx]
  simp [bigv]
theorem num4 {zs : List Int} {t : Nat} (h : t + 4 ≤ zs.length) : inNumber 4 ⟨zs, t, 0⟩ = (say4 (cutZ zs t 4), ⟨zs, t + 4, 0⟩) := by
  obtain ⟨a, b, c, d, e⟩ := four (cutZ_len zs t 4)
  rw [e]
  rw [cutZ_in h] at e
  rw [inNumber_yes (by simp only [List.length_drop]; omega), e]
  simp only [bigv, say4, Prod.mk.injEq, and_true]
  omega
theorem most20 {zs : List Int} {t n : Nat} (h : t + n ≤ zs.length) (hn : n ≤ 20) : inMost n 20 ⟨zs, t, 0⟩ = (cutZ zs t n, ⟨zs, t + n, 0⟩) := by
  unfold inMost
  rw [decide_eq_true (by omega), inNeed_yes, inBytes_yes (by simp only [List.length_drop]; omega), cutZ_in h]
theorem start_yes {zs : List Int} {f y z : Int} (hx : cutZ zs 0 1 = [f]) (hy : cutZ zs 5 1 = [y]) (hz : cutZ zs (6 + y.toNat) 1 = [z]) (hl : 7 + y.toNat + z.toNat ≤ zs.length) (hy20 : y ≤ 20) (hz20 : z ≤ 20) :
    startP zs f = (say4 (cutZ zs 1 4), cutZ zs 6 y.toNat, cutZ zs (7 + y.toNat) z.toNat, zs.drop (7 + y.toNat + z.toNat), true) := by
  unfold startP
  have e1 := num1 (by omega) hx
  have e4 := num4 (zs := zs) (t := 1) (by omega)
  have e5 := num1 (by omega) hy
  have e6 := most20 (zs := zs) (t := 6) (n := y.toNat) (by omega) (by omega)
  have e7 := num1 (by omega) hz
  have e8 := most20 (zs := zs) (t := 7 + y.toNat) (n := z.toNat) (by omega) (by omega)
  have e9 : 6 + y.toNat + 1 = 7 + y.toNat := by omega
  rw [e9] at e7
  simp only [Nat.zero_add] at e1
  simp only [e1, beq_self_eq_true, inNeed_yes, e4, e5, e6, e7, e8, Nat.reduceAdd, if_true]
theorem two_ne : (2 : Int) ≠ 0 := by decide
theorem four_ne : (4 : Int) ≠ 0 := by decide
theorem inMost_e {n : Nat} {s : In} (h : s.e ≠ 0) : (inMost n 20 s).2.e ≠ 0 := by rw [inMost_err h]; exact h
theorem inNumber_e {n : Nat} {s : In} (h : s.e ≠ 0) : (inNumber n s).2.e ≠ 0 := by rw [inNumber_err h]; exact h
theorem most_no {zs : List Int} {t n : Nat} (h : ¬ (n ≤ 20 ∧ t + n ≤ zs.length)) (ht : t ≤ zs.length) : (inMost n 20 ⟨zs, t, 0⟩).2.e ≠ 0 := by
  unfold inMost
  by_cases hn : n ≤ 20
  · rw [decide_eq_true (by omega), inNeed_yes, inBytes_no (by simp only [List.length_drop]; omega)]
    exact two_ne
  · rw [decide_eq_false (by omega), inNeed_no, inBytes_err (s := ⟨zs, t, 4⟩) (by exact four_ne)]
    exact four_ne
theorem start_no' {zs : List Int} {f x y z : Int} (hx : cutZ zs 0 1 = [x]) (hy : cutZ zs 5 1 = [y]) (hz : cutZ zs (6 + y.toNat) 1 = [z]) (hn : ¬ (x = f ∧ y ≤ 20 ∧ z ≤ 20 ∧ 7 + y.toNat + z.toNat ≤ zs.length)) :
    (startP zs f).2.2.2.2 = false := by
  unfold startP
  simp only
  rw [if_neg ?_]
  by_cases h1 : ¬ (1 ≤ zs.length)
  · rw [inNumber_no (n := 1) (t := 0) (by simp only [List.length_drop]; omega)]
    exact inMost_e (inNumber_e (inMost_e (inNumber_e (inNumber_e (by rw [inNeed_err (s := ⟨zs, 0, 2⟩) two_ne]; exact two_ne)))))
  replace h1 := Classical.not_not.1 h1
  have e1 := num1 h1 hx
  simp only [Nat.zero_add] at e1
  rw [e1]
  by_cases hxf : ¬ (x = f)
  · rw [show (x == f) = false by simp [hxf]]
    exact inMost_e (inNumber_e (inMost_e (inNumber_e (inNumber_e (by rw [inNeed_no]; exact (by decide : (3 : Int) ≠ 0))))))
  replace hxf := Classical.not_not.1 hxf
  rw [show (x == f) = true by simp [hxf], inNeed_yes]
  by_cases h5 : ¬ (5 ≤ zs.length)
  · rw [inNumber_no (n := 4) (t := 1) (by simp only [List.length_drop]; omega)]
    exact inMost_e (inNumber_e (inMost_e (inNumber_e two_ne)))
  replace h5 := Classical.not_not.1 h5
  rw [num4 h5]
  by_cases h6 : ¬ (6 ≤ zs.length)
  · rw [inNumber_no (n := 1) (t := 1 + 4) (by simp only [List.length_drop]; omega)]
    exact inMost_e (inNumber_e (inMost_e two_ne))
  replace h6 := Classical.not_not.1 h6
  rw [num1 (t := 1 + 4) h6 hy]
  by_cases h7 : ¬ (y.toNat ≤ 20 ∧ 6 + y.toNat ≤ zs.length)
  · exact inMost_e (inNumber_e (most_no h7 h6))
  replace h7 := Classical.not_not.1 h7
  rw [most20 (t := 1 + 4 + 1) h7.2 h7.1]
  by_cases h8 : ¬ (7 + y.toNat ≤ zs.length)
  · rw [inNumber_no (n := 1) (t := 1 + 4 + 1 + y.toNat) (by simp only [List.length_drop]; omega)]
    exact inMost_e two_ne
  replace h8 := Classical.not_not.1 h8
  rw [num1 (t := 1 + 4 + 1 + y.toNat) (by omega) hz]
  exact most_no (by omega) (by omega)
theorem say4_bd {zs : List Int} (h : Byt zs) (t : Nat) : 0 ≤ say4 (cutZ zs t 4) ∧ say4 (cutZ zs t 4) < 4294967296 := by
  obtain ⟨a, b, c, d, e⟩ := four (cutZ_len zs t 4)
  have hb := cutZ_byt h t 4
  rw [e] at hb ⊢
  have h1 := hb a (by simp)
  have h2 := hb b (by simp)
  have h3 := hb c (by simp)
  have h4 := hb d (by simp)
  simp only [say4]
  omega
theorem ver_eq {n : Int} (h : 0 ≤ n ∧ n < 4294967296) : verB n = !(n == 0) := by
  unfold verB
  rw [decide_eq_true h.2, Bool.and_true]
  by_cases h0 : n = 0
  · subst h0; rfl
  · rw [decide_eq_true (show 0 < n by omega), beq_eq_false_iff_ne.2 h0]; rfl
theorem term_eq (l : List Int) : termB (numd l) = !(numd l == 0) := by
  unfold numd
  split
  · rename_i h
    unfold termB
    rw [decide_eq_true h.2.1, decide_eq_true h.2.2, beq_eq_false_iff_ne.2 (by omega)]; rfl
  · rfl
theorem retry_eq {zs : List Int} (hb : Byt zs) {x y z : Int} {e : Nat} (hx : cutZ zs 0 1 = [x]) (hy : cutZ zs 5 1 = [y]) (hz : cutZ zs (6 + y.toNat) 1 = [z]) (he : 7 + y.toNat + z.toNat = e) (s : Int × List Int × List Int × List Int × Bool) (hs : startP zs 240 = s) :
    drB s = prB zs e x (say4 (cutZ zs 1 4)) (cutZ zs 6 y.toNat) (cutZ zs (7 + y.toNat) z.toNat) (numd (cutZ zs e 4)) (numd (cutZ zs (e + 4) 4)) ∧
    (drB s = true → s.1 = say4 (cutZ zs 1 4) ∧ s.2.1 = cutZ zs 6 y.toNat ∧ s.2.2.1 = cutZ zs (7 + y.toNat) z.toNat ∧ numd (s.2.2.2.1.take 4) = numd (cutZ zs e 4) ∧ numd (s.2.2.2.1.drop 4) = numd (cutZ zs (e + 4) 4)) := by
  by_cases hC : x = 240 ∧ y ≤ 20 ∧ z ≤ 20 ∧ 7 + y.toNat + z.toNat ≤ zs.length
  · obtain ⟨rfl, hy20, hz20, hle⟩ := hC
    rw [start_yes hx hy hz hle hy20 hz20, he] at hs
    subst hs
    rw [he] at hle
    have hr : (zs.drop e).length = zs.length - e := by simp
    by_cases hl : zs.length = e + 8
    · have t4 : (zs.drop e).take 4 = cutZ zs e 4 := (cutZ_in (by omega)).symm
      have t8 : (zs.drop e).drop 4 = cutZ zs (e + 4) 4 := by
        rw [cutZ_in (by omega), List.drop_drop, List.take_of_length_le (by simp; omega)]
      simp only [drB, t4, t8]
      refine ⟨?_, fun _ => by simp⟩
      unfold prB retryB
      rw [ver_eq (say4_bd hb 1), term_eq, term_eq, cutZ_len, cutZ_len, hr, decide_eq_true hl, decide_eq_true (show y.toNat ≤ 20 by omega), decide_eq_true (show z.toNat ≤ 20 by omega), show (zs.length - e == 8) = true by simp; omega]
      simp
    · have h8 : (zs.length - e == 8) = false := by simp; omega
      have hd : drB (say4 (cutZ zs 1 4), cutZ zs 6 y.toNat, cutZ zs (7 + y.toNat) z.toNat, zs.drop e, true) = false := by
        simp only [drB, hr, h8, Bool.and_false, Bool.false_and]
      rw [hd]
      refine ⟨?_, fun h => by cases h⟩
      unfold prB
      rw [decide_eq_false hl]; rfl
  · have hk := start_no' (f := 240) hx hy hz hC
    rw [hs] at hk
    have hd : drB s = false := by unfold drB; rw [hk]; rfl
    rw [hd]
    refine ⟨?_, fun h => by cases h⟩
    cases hp : prB zs e x (say4 (cutZ zs 1 4)) (cutZ zs 6 y.toNat) (cutZ zs (7 + y.toNat) z.toNat) (numd (cutZ zs e 4)) (numd (cutZ zs (e + 4) 4)) with
    | false => rfl
    | true =>
      exfalso
      unfold prB retryB at hp
      simp only [Bool.and_eq_true, decide_eq_true_eq, beq_iff_eq, cutZ_len] at hp
      obtain ⟨⟨h1, h2⟩, ⟨⟨_, h3, h4⟩, _⟩, _⟩ := hp
      exact hC ⟨h2, by omega, by omega, by omega⟩
end Go.Proofs.Ytjdlmmbkppaenaa
