/- The program's set in memory: a number that is added to what is there. -/
import Derived.Test.YtnfednhleedljaaSpAdd2
namespace Go.Proofs.Ytnfednhleedljaa
open Go Go.RowKit

/-- The spans above: as they are, or but the last one, which is joined. -/
theorem top_of {S : List Sp} {n : Int} : (topA (abv S n) n = (abv S n, n) ∧ ((abv S n).length = 0 ∨ ∃ q, (abv S n).length = q + 1 ∧ q < S.length ∧ (S.getD q (0, 0)).1 ≠ n + 1)) ∨
    ∃ q t, (abv S n).length = q + 1 ∧ q < S.length ∧ (S.getD q (0, 0)).1 = n + 1 ∧ (S.getD q (0, 0)).2 = t ∧ topA (abv S n) n = (S.take q, t) := by
  have hS : S = abv S n ++ blw S n := (abv_blw S n).symm
  have hlen : S.length = (abv S n).length + (blw S n).length := by
    have := congrArg List.length hS; simpa using this
  have hget : ∀ q, q < (abv S n).length → S[q]? = (abv S n)[q]? := fun q hq => by
    have h4 : (abv S n ++ blw S n)[q]? = (abv S n)[q]? := List.getElem?_append_left hq
    rwa [← hS] at h4
  have htake : ∀ q, q ≤ (abv S n).length → S.take q = (abv S n).take q := fun q hq => by
    have h4 : (abv S n ++ blw S n).take q = (abv S n).take q := List.take_append_of_le_length hq
    rwa [← hS] at h4
  generalize abv S n = A at *
  generalize blw S n = C at *
  rcases topA_cases A n with ⟨e, h⟩ | ⟨A', t, rfl, e⟩
  · left
    refine ⟨e, ?_⟩
    rcases List.eq_nil_or_concat A with rfl | ⟨A', q, rfl⟩
    · exact Or.inl rfl
    · right
      rw [List.concat_eq_append] at *
      have hq := h q (List.getLast?_concat)
      have h1 := hget A'.length (by simp)
      refine ⟨A'.length, by simp, by rw [hlen]; simp <;> omega, ?_⟩
      simp at h1
      simp [List.getD, h1]
      exact hq
  · right
    have h1 := hget A'.length (by simp)
    have h2 := htake A'.length (by simp)
    simp at h1 h2
    exact ⟨A'.length, t, by simp, by rw [hlen]; simp <;> omega, by simp [List.getD, h1], by simp [List.getD, h1], by rw [h2]; exact e⟩
/-- The spans below: as they are, or but the first one, which is joined. -/
theorem bot_of {S : List Sp} {n : Int} : (botB (blw S n) n = (S.drop (abv S n).length, n) ∧ ((abv S n).length = S.length ∨ ((abv S n).length < S.length ∧ (S.getD (abv S n).length (0, 0)).2 ≠ n - 1))) ∨
    ∃ f, (abv S n).length < S.length ∧ (S.getD (abv S n).length (0, 0)).2 = n - 1 ∧ (S.getD (abv S n).length (0, 0)).1 = f ∧ botB (blw S n) n = (S.drop ((abv S n).length + 1), f) := by
  have hS : S = abv S n ++ blw S n := (abv_blw S n).symm
  have hlen : S.length = (abv S n).length + (blw S n).length := by
    have := congrArg List.length hS; simpa using this
  have hget : S[(abv S n).length]? = (blw S n)[0]? := by
    have h4 : (abv S n ++ blw S n)[(abv S n).length]? = (blw S n)[0]? := by rw [List.getElem?_append_right (Nat.le_refl _), Nat.sub_self]
    rwa [← hS] at h4
  have hdrop : S.drop (abv S n).length = blw S n := by
    have h4 : (abv S n ++ blw S n).drop (abv S n).length = blw S n := List.drop_left
    rwa [← hS] at h4
  have hdrop1 : S.drop ((abv S n).length + 1) = (blw S n).drop 1 := by rw [← List.drop_drop, hdrop]
  rw [hdrop, hdrop1]
  generalize (abv S n).length = p at *
  generalize blw S n = C at *
  clear hS
  rcases botB_cases C n with ⟨e, h⟩ | ⟨f, r, rfl, e⟩
  · left
    refine ⟨e, ?_⟩
    cases C with
    | nil => left; simp at hlen; omega
    | cons q r =>
      right
      have := h q r rfl
      simp at hget hlen
      exact ⟨by omega, by simpa [List.getD, hget] using this⟩
  · right
    simp at hget hlen
    exact ⟨f, by omega, by simp [List.getD, hget], by simp [List.getD, hget], by simpa using e⟩
theorem Rs.drop {w : World} {b off : Nat} {S : List Sp} (h : ∀ j, j < S.length → w.cell? ⟨b, off + j * 2, none⟩ = some (.int .i64 (S.getD j (0, 0)).1) ∧ w.cell? ⟨b, off + j * 2 + 1, none⟩ = some (.int .i64 (S.getD j (0, 0)).2)) (k o m c : Nat) (hm : m = S.length - k) (hk : k ≤ S.length) (ho : o = off + k * 2 ∨ k = S.length) (hc : m ≤ c) (hcap : c ≤ maxLen) :
    Rs w (.slice (some ⟨b, o, none⟩) m c) (S.drop k) := by
  have hl : (S.drop k).length = m := by simp; omega
  refine ⟨some ⟨b, o, none⟩, c, by rw [hl], by omega, hcap, (fun h => by cases h), fun a ha j hj => ?_⟩
  cases ha
  rw [hl] at hj
  rcases ho with rfl | rfl
  · have := h (k + j) (by omega)
    have e : (S.drop k).getD j (0, 0) = S.getD (k + j) (0, 0) := by simp [List.getD]
    rw [e, Addr.add_lit, Addr.add_lit]
    rw [show off + (k + j) * 2 = off + k * 2 + j * 2 by omega] at this
    exact ⟨this.1, by rw [show off + k * 2 + (j * 2 + 1) = off + k * 2 + j * 2 + 1 by omega]; exact this.2⟩
  · omega
theorem Rs.front {w : World} {b off : Nat} {S : List Sp} (h : ∀ j, j < S.length → w.cell? ⟨b, off + j * 2, none⟩ = some (.int .i64 (S.getD j (0, 0)).1) ∧ w.cell? ⟨b, off + j * 2 + 1, none⟩ = some (.int .i64 (S.getD j (0, 0)).2)) (k c : Nat) (hk : k ≤ S.length) (hc : k ≤ c) (hcap : c ≤ maxLen) :
    Rs w (.slice (some ⟨b, off, none⟩) k c) (S.take k) := by
  have hl : (S.take k).length = k := by simp; omega
  refine ⟨some ⟨b, off, none⟩, c, by rw [hl], by omega, hcap, (fun h => by cases h), fun a ha j hj => ?_⟩
  cases ha
  rw [hl] at hj
  have := h j (by omega)
  have e : (S.take k).getD j (0, 0) = S.getD j (0, 0) := by simp [List.getD, hj]
  rw [e, Addr.add_lit, Addr.add_lit]
  exact this
/-- What is needed of the rows in a later world. -/
def At (w : World) (b off : Nat) (S : List Sp) : Prop := ∀ j, j < S.length → w.cell? ⟨b, off + j * 2, none⟩ = some (.int .i64 (S.getD j (0, 0)).1) ∧ w.cell? ⟨b, off + j * 2 + 1, none⟩ = some (.int .i64 (S.getD j (0, 0)).2)
theorem At.below {w w' : World} {b off : Nat} {S : List Sp} (h : At w b off S) (hb : Below w.heap.size w w') : At w' b off S := fun j hj => by
  have := h j hj
  exact ⟨by rw [hb.cell (cell_lt this.1)]; exact this.1, by rw [hb.cell (cell_lt this.2)]; exact this.2⟩

set_option maxHeartbeats 4000000 in
theorem add_more {w : World} {B : Nat} {s : Set0} (h : Sn w B s) (n : Int) (hb : okB s n = true) (he : s.1 ≠ []) : Calls Try.prog 7 #[.pointer (some ⟨B, 0, none⟩), .int .i64 n] w fun e w' => e = .returned (.bool true) ∧ Kept w B (midS s.1 n) s.2 w' := by
  obtain ⟨_, c1, _⟩ := h.cells
  have hh := has_any h n
  have hb' := okB_iff.1 hb
  have hs := size_yes n hb'.1 hb'.2.1
  obtain ⟨b, off, cap, c0, h1, h2, h3, h4, h5, h6⟩ : ∃ b off cap, w.cell? ⟨B, 0, none⟩ = some (.slice (some ⟨b, off, none⟩) s.1.length cap) ∧ 0 < s.1.length ∧ s.1.length ≤ cap ∧ cap ≤ maxLen ∧ b < w.heap.size ∧ b ≠ B ∧ At w b off s.1 := by
    obtain ⟨v, g1, g2, g3, g4⟩ := h.box
    rcases h.shape with ⟨e, _⟩ | ⟨b, off, cap, c0, f1, f2, f3, f4, f5, f6⟩
    · exact absurd e he
    · refine ⟨b, off, cap, c0, f1, f2, ?_, f4, f5, f6⟩
      obtain ⟨ao, cp, rfl, _, hm, _⟩ := g2
      have hc : w.cell? ⟨B, 0, none⟩ = some (.slice ao s.1.length cp) := (cell_of_row _ B 0 _ _ (0, 0) g1).trans rfl
      rw [c0] at hc
      cases hc
      exact hm
  rw [hb'.2.2.2] at hh
  have hn1 : ¬ n < s.2 := by omega
  have hn0 : 0 ≤ n := hb'.1
  have hn2 : n ≤ 4611686018427387903 := hb'.2.1
  have HP := Lib.hid (fun w1 (hw : Below w.heap.size w w1) => place_any (h.below hw) n)
  have hB := h.lt
  have H := Lib.hid h
  have HB := Lib.hid hb
  have HL := Lib.hid (mid_len h.ok hb rfl)
  have HM := Lib.hid (fun (A C : List Sp) (f t : Int) hA hC v1 v2 v3 => mid_at (S := s.1) (n := n) (A := A) (C := C) (f := f) (t := t) hA hC v1 v2 v3)
  have HT := Lib.hid (top_of (S := s.1) (n := n))
  have HC := Lib.hid (bot_of (S := s.1) (n := n))
  have hpl : (abv s.1 n).length ≤ s.1.length := by have := congrArg List.length (abv_blw s.1 n); simp at this; omega
  have HMX := Lib.hid h3
  have hcap : cap ≤ 9223372036854775807 := by unfold maxLen at h3; omega
  clear hb' hb h he h3
  have hpa : s.1.take (abv s.1 n).length = abv s.1 n := by
    have h4 : (abv s.1 n ++ blw s.1 n).take (abv s.1 n).length = abv s.1 n := List.take_left
    rwa [abv_blw] at h4
  have HPA : Hid (∀ S, s.1 = S → S.take (abv s.1 n).length = abv S n) := Lib.hid fun S e => by subst e; exact hpa
  clear hpa
  generalize hp : (abv s.1 n).length = p at *
  generalize hm : s.1.length = m at *
  have Hm := Lib.hid hm
  have hpm : (p : Int) ≤ (m : Int) := by omega
  have hpc : (p : Int) ≤ (cap : Int) := by omega
  have hml : m ≤ 1000 := by have := H.out.ok.2.1; omega
  clear hp hm
  go_enter Try.func7, Try.ntmps7
  go_wp2_with (first | (go_at_call 17; refine (hs _).mono ?_; rintro e w' ⟨z, rfl, hz, rfl⟩) | (go_at_call 13; refine hh.mono ?_; rintro e w1 ⟨rfl, hbel⟩; have hp := HP.out w1 hbel; have hB1 : B < w1.heap.size := Nat.lt_of_lt_of_le hB hbel.size) | (go_at_call 18; refine hp.mono ?_; rintro e w2 ⟨rfl, hbel2⟩; have c20 : w2.cell? ⟨B, 0, none⟩ = _ := (hbel2.cell (p := ⟨B, 0, none⟩) hB1).trans ((hbel.cell (p := ⟨B, 0, none⟩) hB).trans c0)))
  have hAt := Lib.hid ((At.below h6 hbel).below hbel2)
  have hBW := Lib.hid (hbel.trans (hbel2.mono hbel.size))
  have hB2 : B < w2.heap.size := Nat.lt_of_lt_of_le hB1 hbel2.size
  have hb2 : b < w2.heap.size := by have := hBW.out.size; omega
  have hW2 : w.heap.size ≤ w2.heap.size := hBW.out.size
  clear hh hp HP h6 hbel hbel2 c0 hs hB1
  obtain ⟨S, hS⟩ : ∃ S, s.1 = S := ⟨_, rfl⟩
  rw [hS] at hAt HM HT HC HL Hm
  have HS := Lib.hid hS
  clear hS
  have hmS : S.length = m := Hm.out
  have htk : S.take p = abv S n := HPA.out S HS.out
  have HTK := Lib.hid htk
  have HmS := Lib.hid hmS
  clear hmS htk
  by_cases hcp : cap = p
  · obtain rfl : p = m := by omega
    obtain rfl : p = cap := by omega
    go_region_held3 (fun w' => w'.cell? ⟨B, 0, none⟩ = some (.slice (some ⟨b, off, none⟩) p p)) ((first | with_reducible exact c20 | (show w2.cell? _ = _; exact c20) | simp [go_sem, hB2, c20])) (fail)
    rcases HC.out with ⟨eC, hr0 | ⟨hrm, hr⟩⟩ | ⟨f, hrm, hr, hrf, eC⟩
    · clear hr0
      rcases HT.out with ⟨eT, h0 | ⟨q, hpq, hqm, hq⟩⟩ | ⟨q, t, hpq, hqm, hq, hqt, eT⟩
      · omega
      · obtain rfl : p = q + 1 := hpq
        have HMX2 := Lib.hid (HM.out (S.take (q + 1)) (S.drop (q + 1)) n n (by rw [eT, ← HTK.out]) (by exact eC))
        have hA : Rs w2 (.slice (some ⟨b, off, none⟩) (q + 1) (q + 1)) (S.take (q + 1)) := Rs.front hAt.out (q + 1) (q + 1) (by have := HmS.out; omega) (by omega) HMX.out
        have hC : Rs w2 (.slice (some ⟨b, off, none⟩) 0 0) (S.drop (q + 1)) := Rs.drop hAt.out (q + 1) _ _ _ (by have := HmS.out; omega) (by have := HmS.out; omega) (Or.inr (by have := HmS.out; omega)) (by omega) (by have := HMX.out; omega)
        have hx1 := (hAt.out q (by have := HmS.out; omega)).1
        have hx2 := (hAt.out q (by have := HmS.out; omega)).2
        have hne : ((S.getD q (0, 0)).1 == n + 1) = false := beq_eq_false_iff_ne.2 hq
        generalize (S.getD q (0, 0)).1 = x at hx1 hne
        generalize (S.getD q (0, 0)).2 = x' at hx2
        clear hq
        clear eT eC HT HC HM HTK
        go_wp2_with (first
          | (go_at_call 20; refine (concat_any (three_of _ n n hA hC) rfl (by rw [HMX2.out]; exact HL.out)).mono ?_; rintro e w3 ⟨v3, rfl, ho3, hb3⟩; have hk := ready H.out HB.out (hBW.out.trans (((three_below _ _ _).mono hW2).trans (hb3.mono (by simp; omega)))) ho3 (by simp; omega) (by rw [HS.out]; exact HMX2.out _ _ _))
          | (go_at_call 19; refine hk.mono ?_; rintro e w4 ⟨rfl, hk4⟩))
        go_ret
        exact ⟨rfl, hk4⟩
      · obtain rfl : p = q + 1 := hpq
        have HMX2 := Lib.hid (HM.out (S.take q) (S.drop (q + 1)) n t (by exact eT) (by exact eC))
        have hA : Rs w2 (.slice (some ⟨b, off, none⟩) q (q + 1)) (S.take q) := Rs.front hAt.out q (q + 1) (by have := HmS.out; omega) (by omega) HMX.out
        have hC : Rs w2 (.slice (some ⟨b, off, none⟩) 0 0) (S.drop (q + 1)) := Rs.drop hAt.out (q + 1) _ _ _ (by have := HmS.out; omega) (by have := HmS.out; omega) (Or.inr (by have := HmS.out; omega)) (by omega) (by have := HMX.out; omega)
        have hx1 := (hAt.out q (by have := HmS.out; omega)).1
        have hx2 := (hAt.out q (by have := HmS.out; omega)).2
        rw [hq] at hx1
        rw [hqt] at hx2
        clear hq hqt
        clear eT eC HT HC HM HTK
        go_wp2_with (first
          | (go_at_call 20; refine (concat_any (three_of _ n t hA hC) rfl (by rw [HMX2.out]; exact HL.out)).mono ?_; rintro e w3 ⟨v3, rfl, ho3, hb3⟩; have hk := ready H.out HB.out (hBW.out.trans (((three_below _ _ _).mono hW2).trans (hb3.mono (by simp; omega)))) ho3 (by simp; omega) (by rw [HS.out]; exact HMX2.out _ _ _))
          | (go_at_call 19; refine hk.mono ?_; rintro e w4 ⟨rfl, hk4⟩))
        go_ret
        exact ⟨rfl, hk4⟩
    · omega
    · omega
  · go_region_held3 (fun w' => w'.cell? ⟨B, 0, none⟩ = some (.slice (some ⟨b, off, none⟩) m cap)) ((first | with_reducible exact c20 | (show w2.cell? _ = _; exact c20) | simp [go_sem, hB2, c20])) (fail)
    rcases HC.out with ⟨eC, hr0 | ⟨hrm, hr⟩⟩ | ⟨f, hrm, hr, hrf, eC⟩
    · obtain rfl : p = m := by omega
      clear hr0
      rcases HT.out with ⟨eT, h0 | ⟨q, hpq, hqm, hq⟩⟩ | ⟨q, t, hpq, hqm, hq, hqt, eT⟩
      · omega
      · obtain rfl : p = q + 1 := hpq
        have HMX2 := Lib.hid (HM.out (S.take (q + 1)) (S.drop (q + 1)) n n (by rw [eT, ← HTK.out]) (by exact eC))
        have hA : Rs w2 (.slice (some ⟨b, off, none⟩) (q + 1) cap) (S.take (q + 1)) := Rs.front hAt.out (q + 1) cap (by have := HmS.out; omega) (by omega) HMX.out
        have hC : Rs w2 (.slice (some ⟨b, off + (q + 1) * 2, none⟩) 0 (cap - (q + 1))) (S.drop (q + 1)) := Rs.drop hAt.out (q + 1) _ _ _ (by have := HmS.out; omega) (by have := HmS.out; omega) (Or.inl (by omega)) (by omega) (by have := HMX.out; omega)
        have hx1 := (hAt.out q (by have := HmS.out; omega)).1
        have hx2 := (hAt.out q (by have := HmS.out; omega)).2
        have hne : ((S.getD q (0, 0)).1 == n + 1) = false := beq_eq_false_iff_ne.2 hq
        generalize (S.getD q (0, 0)).1 = x at hx1 hne
        generalize (S.getD q (0, 0)).2 = x' at hx2
        clear hq
        clear eT eC HT HC HM HTK
        go_wp2_with (first
          | (go_at_call 20; refine (concat_any (three_of _ n n hA hC) rfl (by rw [HMX2.out]; exact HL.out)).mono ?_; rintro e w3 ⟨v3, rfl, ho3, hb3⟩; have hk := ready H.out HB.out (hBW.out.trans (((three_below _ _ _).mono hW2).trans (hb3.mono (by simp; omega)))) ho3 (by simp; omega) (by rw [HS.out]; exact HMX2.out _ _ _))
          | (go_at_call 19; refine hk.mono ?_; rintro e w4 ⟨rfl, hk4⟩))
        go_ret
        exact ⟨rfl, hk4⟩
      · obtain rfl : p = q + 1 := hpq
        have HMX2 := Lib.hid (HM.out (S.take q) (S.drop (q + 1)) n t (by exact eT) (by exact eC))
        have hA : Rs w2 (.slice (some ⟨b, off, none⟩) q cap) (S.take q) := Rs.front hAt.out q cap (by have := HmS.out; omega) (by omega) HMX.out
        have hC : Rs w2 (.slice (some ⟨b, off + (q + 1) * 2, none⟩) 0 (cap - (q + 1))) (S.drop (q + 1)) := Rs.drop hAt.out (q + 1) _ _ _ (by have := HmS.out; omega) (by have := HmS.out; omega) (Or.inl (by omega)) (by omega) (by have := HMX.out; omega)
        have hx1 := (hAt.out q (by have := HmS.out; omega)).1
        have hx2 := (hAt.out q (by have := HmS.out; omega)).2
        rw [hq] at hx1
        rw [hqt] at hx2
        clear hq hqt
        clear eT eC HT HC HM HTK
        go_wp2_with (first
          | (go_at_call 20; refine (concat_any (three_of _ n t hA hC) rfl (by rw [HMX2.out]; exact HL.out)).mono ?_; rintro e w3 ⟨v3, rfl, ho3, hb3⟩; have hk := ready H.out HB.out (hBW.out.trans (((three_below _ _ _).mono hW2).trans (hb3.mono (by simp; omega)))) ho3 (by simp; omega) (by rw [HS.out]; exact HMX2.out _ _ _))
          | (go_at_call 19; refine hk.mono ?_; rintro e w4 ⟨rfl, hk4⟩))
        go_ret
        exact ⟨rfl, hk4⟩
    · have hpm2 : p < m := by omega
      rcases HT.out with ⟨eT, h0 | ⟨q, hpq, hqm, hq⟩⟩ | ⟨q, t, hpq, hqm, hq, hqt, eT⟩
      · obtain rfl : p = 0 := h0
        have HMX2 := Lib.hid (HM.out (S.take 0) (S.drop 0) n n (by rw [eT, ← HTK.out]) (by exact eC))
        have hA : Rs w2 (.slice (some ⟨b, off, none⟩) 0 cap) (S.take 0) := Rs.front hAt.out 0 cap (by have := HmS.out; omega) (by omega) HMX.out
        have hC : Rs w2 (.slice (some ⟨b, off + 0 * 2, none⟩) (m - 0) (cap - 0)) (S.drop 0) := Rs.drop hAt.out 0 _ _ _ (by have := HmS.out; omega) (by have := HmS.out; omega) (Or.inl (by omega)) (by omega) (by have := HMX.out; omega)
        have hy1 := (hAt.out 0 (by have := HmS.out; omega)).1
        have hy2 := (hAt.out 0 (by have := HmS.out; omega)).2
        have hne2 : ((S.getD 0 (0, 0)).2 == n - 1) = false := beq_eq_false_iff_ne.2 hr
        generalize (S.getD 0 (0, 0)).1 = y at hy1
        generalize (S.getD 0 (0, 0)).2 = y' at hy2 hne2
        clear hr
        clear eT eC HT HC HM HTK
        go_wp2_with (first
          | (go_at_call 20; refine (concat_any (three_of _ n n hA hC) rfl (by rw [HMX2.out]; exact HL.out)).mono ?_; rintro e w3 ⟨v3, rfl, ho3, hb3⟩; have hk := ready H.out HB.out (hBW.out.trans (((three_below _ _ _).mono hW2).trans (hb3.mono (by simp; omega)))) ho3 (by simp; omega) (by rw [HS.out]; exact HMX2.out _ _ _))
          | (go_at_call 19; refine hk.mono ?_; rintro e w4 ⟨rfl, hk4⟩))
        go_ret
        exact ⟨rfl, hk4⟩
      · obtain rfl : p = q + 1 := hpq
        have HMX2 := Lib.hid (HM.out (S.take (q + 1)) (S.drop (q + 1)) n n (by rw [eT, ← HTK.out]) (by exact eC))
        have hA : Rs w2 (.slice (some ⟨b, off, none⟩) (q + 1) cap) (S.take (q + 1)) := Rs.front hAt.out (q + 1) cap (by have := HmS.out; omega) (by omega) HMX.out
        have hC : Rs w2 (.slice (some ⟨b, off + (q + 1) * 2, none⟩) (m - (q + 1)) (cap - (q + 1))) (S.drop (q + 1)) := Rs.drop hAt.out (q + 1) _ _ _ (by have := HmS.out; omega) (by have := HmS.out; omega) (Or.inl (by omega)) (by omega) (by have := HMX.out; omega)
        have hx1 := (hAt.out q (by have := HmS.out; omega)).1
        have hx2 := (hAt.out q (by have := HmS.out; omega)).2
        have hne : ((S.getD q (0, 0)).1 == n + 1) = false := beq_eq_false_iff_ne.2 hq
        generalize (S.getD q (0, 0)).1 = x at hx1 hne
        generalize (S.getD q (0, 0)).2 = x' at hx2
        clear hq
        have hy1 := (hAt.out (q + 1) (by have := HmS.out; omega)).1
        have hy2 := (hAt.out (q + 1) (by have := HmS.out; omega)).2
        have hne2 : ((S.getD (q + 1) (0, 0)).2 == n - 1) = false := beq_eq_false_iff_ne.2 hr
        generalize (S.getD (q + 1) (0, 0)).1 = y at hy1
        generalize (S.getD (q + 1) (0, 0)).2 = y' at hy2 hne2
        clear hr
        clear eT eC HT HC HM HTK
        go_wp2_with (first
          | (go_at_call 20; refine (concat_any (three_of _ n n hA hC) rfl (by rw [HMX2.out]; exact HL.out)).mono ?_; rintro e w3 ⟨v3, rfl, ho3, hb3⟩; have hk := ready H.out HB.out (hBW.out.trans (((three_below _ _ _).mono hW2).trans (hb3.mono (by simp; omega)))) ho3 (by simp; omega) (by rw [HS.out]; exact HMX2.out _ _ _))
          | (go_at_call 19; refine hk.mono ?_; rintro e w4 ⟨rfl, hk4⟩))
        go_ret
        exact ⟨rfl, hk4⟩
      · obtain rfl : p = q + 1 := hpq
        have HMX2 := Lib.hid (HM.out (S.take q) (S.drop (q + 1)) n t (by exact eT) (by exact eC))
        have hA : Rs w2 (.slice (some ⟨b, off, none⟩) q cap) (S.take q) := Rs.front hAt.out q cap (by have := HmS.out; omega) (by omega) HMX.out
        have hC : Rs w2 (.slice (some ⟨b, off + (q + 1) * 2, none⟩) (m - (q + 1)) (cap - (q + 1))) (S.drop (q + 1)) := Rs.drop hAt.out (q + 1) _ _ _ (by have := HmS.out; omega) (by have := HmS.out; omega) (Or.inl (by omega)) (by omega) (by have := HMX.out; omega)
        have hx1 := (hAt.out q (by have := HmS.out; omega)).1
        have hx2 := (hAt.out q (by have := HmS.out; omega)).2
        rw [hq] at hx1
        rw [hqt] at hx2
        clear hq hqt
        have hy1 := (hAt.out (q + 1) (by have := HmS.out; omega)).1
        have hy2 := (hAt.out (q + 1) (by have := HmS.out; omega)).2
        have hne2 : ((S.getD (q + 1) (0, 0)).2 == n - 1) = false := beq_eq_false_iff_ne.2 hr
        generalize (S.getD (q + 1) (0, 0)).1 = y at hy1
        generalize (S.getD (q + 1) (0, 0)).2 = y' at hy2 hne2
        clear hr
        clear eT eC HT HC HM HTK
        go_wp2_with (first
          | (go_at_call 20; refine (concat_any (three_of _ n t hA hC) rfl (by rw [HMX2.out]; exact HL.out)).mono ?_; rintro e w3 ⟨v3, rfl, ho3, hb3⟩; have hk := ready H.out HB.out (hBW.out.trans (((three_below _ _ _).mono hW2).trans (hb3.mono (by simp; omega)))) ho3 (by simp; omega) (by rw [HS.out]; exact HMX2.out _ _ _))
          | (go_at_call 19; refine hk.mono ?_; rintro e w4 ⟨rfl, hk4⟩))
        go_ret
        exact ⟨rfl, hk4⟩
    · have hpm2 : p < m := by omega
      by_cases hc1 : cap - p = 1
      · obtain rfl : m = p + 1 := by omega
        obtain rfl : cap = p + 1 := by omega
        clear hc1
        rcases HT.out with ⟨eT, h0 | ⟨q, hpq, hqm, hq⟩⟩ | ⟨q, t, hpq, hqm, hq, hqt, eT⟩
        · obtain rfl : p = 0 := h0
          have HMX2 := Lib.hid (HM.out (S.take 0) (S.drop (0 + 1)) f n (by rw [eT, ← HTK.out]) (by exact eC))
          have hA : Rs w2 (.slice (some ⟨b, off, none⟩) 0 (0 + 1)) (S.take 0) := Rs.front hAt.out 0 (0 + 1) (by have := HmS.out; omega) (by omega) HMX.out
          have hC : Rs w2 (.slice (some ⟨b, off + 0 * 2, none⟩) 0 0) (S.drop (0 + 1)) := Rs.drop hAt.out (0 + 1) _ _ _ (by have := HmS.out; omega) (by have := HmS.out; omega) (Or.inr (by have := HmS.out; omega)) (by omega) (by have := HMX.out; omega)
          have hy1 := (hAt.out 0 (by have := HmS.out; omega)).1
          have hy2 := (hAt.out 0 (by have := HmS.out; omega)).2
          rw [hr] at hy2
          rw [hrf] at hy1
          clear hr hrf
          have hy3 := hy1
          rw [Nat.zero_mul, Nat.add_zero] at hy3
          clear eT eC HT HC HM HTK
          go_wp2_with (first
            | (go_at_call 20; refine (concat_any (three_of _ f n hA hC) rfl (by rw [HMX2.out]; exact HL.out)).mono ?_; rintro e w3 ⟨v3, rfl, ho3, hb3⟩; have hk := ready H.out HB.out (hBW.out.trans (((three_below _ _ _).mono hW2).trans (hb3.mono (by simp; omega)))) ho3 (by simp; omega) (by rw [HS.out]; exact HMX2.out _ _ _))
            | (go_at_call 19; refine hk.mono ?_; rintro e w4 ⟨rfl, hk4⟩))
          go_ret
          exact ⟨rfl, hk4⟩
        · obtain rfl : p = q + 1 := hpq
          have HMX2 := Lib.hid (HM.out (S.take (q + 1)) (S.drop ((q + 1) + 1)) f n (by rw [eT, ← HTK.out]) (by exact eC))
          have hA : Rs w2 (.slice (some ⟨b, off, none⟩) (q + 1) ((q + 1) + 1)) (S.take (q + 1)) := Rs.front hAt.out (q + 1) ((q + 1) + 1) (by have := HmS.out; omega) (by omega) HMX.out
          have hC : Rs w2 (.slice (some ⟨b, off + (q + 1) * 2, none⟩) 0 0) (S.drop ((q + 1) + 1)) := Rs.drop hAt.out ((q + 1) + 1) _ _ _ (by have := HmS.out; omega) (by have := HmS.out; omega) (Or.inr (by have := HmS.out; omega)) (by omega) (by have := HMX.out; omega)
          have hx1 := (hAt.out q (by have := HmS.out; omega)).1
          have hx2 := (hAt.out q (by have := HmS.out; omega)).2
          have hne : ((S.getD q (0, 0)).1 == n + 1) = false := beq_eq_false_iff_ne.2 hq
          generalize (S.getD q (0, 0)).1 = x at hx1 hne
          generalize (S.getD q (0, 0)).2 = x' at hx2
          clear hq
          have hy1 := (hAt.out (q + 1) (by have := HmS.out; omega)).1
          have hy2 := (hAt.out (q + 1) (by have := HmS.out; omega)).2
          rw [hr] at hy2
          rw [hrf] at hy1
          clear hr hrf
          clear eT eC HT HC HM HTK
          go_wp2_with (first
            | (go_at_call 20; refine (concat_any (three_of _ f n hA hC) rfl (by rw [HMX2.out]; exact HL.out)).mono ?_; rintro e w3 ⟨v3, rfl, ho3, hb3⟩; have hk := ready H.out HB.out (hBW.out.trans (((three_below _ _ _).mono hW2).trans (hb3.mono (by simp; omega)))) ho3 (by simp; omega) (by rw [HS.out]; exact HMX2.out _ _ _))
            | (go_at_call 19; refine hk.mono ?_; rintro e w4 ⟨rfl, hk4⟩))
          go_ret
          exact ⟨rfl, hk4⟩
        · obtain rfl : p = q + 1 := hpq
          have HMX2 := Lib.hid (HM.out (S.take q) (S.drop ((q + 1) + 1)) f t (by exact eT) (by exact eC))
          have hA : Rs w2 (.slice (some ⟨b, off, none⟩) q ((q + 1) + 1)) (S.take q) := Rs.front hAt.out q ((q + 1) + 1) (by have := HmS.out; omega) (by omega) HMX.out
          have hC : Rs w2 (.slice (some ⟨b, off + (q + 1) * 2, none⟩) 0 0) (S.drop ((q + 1) + 1)) := Rs.drop hAt.out ((q + 1) + 1) _ _ _ (by have := HmS.out; omega) (by have := HmS.out; omega) (Or.inr (by have := HmS.out; omega)) (by omega) (by have := HMX.out; omega)
          have hx1 := (hAt.out q (by have := HmS.out; omega)).1
          have hx2 := (hAt.out q (by have := HmS.out; omega)).2
          rw [hq] at hx1
          rw [hqt] at hx2
          clear hq hqt
          have hy1 := (hAt.out (q + 1) (by have := HmS.out; omega)).1
          have hy2 := (hAt.out (q + 1) (by have := HmS.out; omega)).2
          rw [hr] at hy2
          rw [hrf] at hy1
          clear hr hrf
          clear eT eC HT HC HM HTK
          go_wp2_with (first
            | (go_at_call 20; refine (concat_any (three_of _ f t hA hC) rfl (by rw [HMX2.out]; exact HL.out)).mono ?_; rintro e w3 ⟨v3, rfl, ho3, hb3⟩; have hk := ready H.out HB.out (hBW.out.trans (((three_below _ _ _).mono hW2).trans (hb3.mono (by simp; omega)))) ho3 (by simp; omega) (by rw [HS.out]; exact HMX2.out _ _ _))
            | (go_at_call 19; refine hk.mono ?_; rintro e w4 ⟨rfl, hk4⟩))
          go_ret
          exact ⟨rfl, hk4⟩
      · rcases HT.out with ⟨eT, h0 | ⟨q, hpq, hqm, hq⟩⟩ | ⟨q, t, hpq, hqm, hq, hqt, eT⟩
        · obtain rfl : p = 0 := h0
          have HMX2 := Lib.hid (HM.out (S.take 0) (S.drop (0 + 1)) f n (by rw [eT, ← HTK.out]) (by exact eC))
          have hA : Rs w2 (.slice (some ⟨b, off, none⟩) 0 cap) (S.take 0) := Rs.front hAt.out 0 cap (by have := HmS.out; omega) (by omega) HMX.out
          have hC : Rs w2 (.slice (some ⟨b, off + 0 * 2 + 2, none⟩) (m - 0 - 1) (cap - 0 - 1)) (S.drop (0 + 1)) := Rs.drop hAt.out (0 + 1) _ _ _ (by have := HmS.out; omega) (by have := HmS.out; omega) (Or.inl (by omega)) (by omega) (by have := HMX.out; omega)
          have hd1 : (1 : Int) ≤ ((m - 0 : Nat) : Int) := by omega
          have hd2 : 1 ≤ m - 0 := by omega
          have hd3 : 0 < m - 0 := by omega
          have hy1 := (hAt.out 0 (by have := HmS.out; omega)).1
          have hy2 := (hAt.out 0 (by have := HmS.out; omega)).2
          rw [hr] at hy2
          rw [hrf] at hy1
          clear hr hrf
          have hy3 := hy1
          rw [Nat.zero_mul, Nat.add_zero] at hy3
          clear eT eC HT HC HM HTK
          go_wp2_with (first
            | (go_at_call 20; refine (concat_any (three_of _ f n hA hC) rfl (by rw [HMX2.out]; exact HL.out)).mono ?_; rintro e w3 ⟨v3, rfl, ho3, hb3⟩; have hk := ready H.out HB.out (hBW.out.trans (((three_below _ _ _).mono hW2).trans (hb3.mono (by simp; omega)))) ho3 (by simp; omega) (by rw [HS.out]; exact HMX2.out _ _ _))
            | (go_at_call 19; refine hk.mono ?_; rintro e w4 ⟨rfl, hk4⟩))
          go_ret
          exact ⟨rfl, hk4⟩
        · obtain rfl : p = q + 1 := hpq
          have HMX2 := Lib.hid (HM.out (S.take (q + 1)) (S.drop ((q + 1) + 1)) f n (by rw [eT, ← HTK.out]) (by exact eC))
          have hA : Rs w2 (.slice (some ⟨b, off, none⟩) (q + 1) cap) (S.take (q + 1)) := Rs.front hAt.out (q + 1) cap (by have := HmS.out; omega) (by omega) HMX.out
          have hC : Rs w2 (.slice (some ⟨b, off + (q + 1) * 2 + 2, none⟩) (m - (q + 1) - 1) (cap - (q + 1) - 1)) (S.drop ((q + 1) + 1)) := Rs.drop hAt.out ((q + 1) + 1) _ _ _ (by have := HmS.out; omega) (by have := HmS.out; omega) (Or.inl (by omega)) (by omega) (by have := HMX.out; omega)
          have hx1 := (hAt.out q (by have := HmS.out; omega)).1
          have hx2 := (hAt.out q (by have := HmS.out; omega)).2
          have hne : ((S.getD q (0, 0)).1 == n + 1) = false := beq_eq_false_iff_ne.2 hq
          generalize (S.getD q (0, 0)).1 = x at hx1 hne
          generalize (S.getD q (0, 0)).2 = x' at hx2
          clear hq
          have hd1 : (1 : Int) ≤ ((m - (q + 1) : Nat) : Int) := by omega
          have hd2 : 1 ≤ m - (q + 1) := by omega
          have hd3 : 0 < m - (q + 1) := by omega
          have hy1 := (hAt.out (q + 1) (by have := HmS.out; omega)).1
          have hy2 := (hAt.out (q + 1) (by have := HmS.out; omega)).2
          rw [hr] at hy2
          rw [hrf] at hy1
          clear hr hrf
          clear eT eC HT HC HM HTK
          go_wp2_with (first
            | (go_at_call 20; refine (concat_any (three_of _ f n hA hC) rfl (by rw [HMX2.out]; exact HL.out)).mono ?_; rintro e w3 ⟨v3, rfl, ho3, hb3⟩; have hk := ready H.out HB.out (hBW.out.trans (((three_below _ _ _).mono hW2).trans (hb3.mono (by simp; omega)))) ho3 (by simp; omega) (by rw [HS.out]; exact HMX2.out _ _ _))
            | (go_at_call 19; refine hk.mono ?_; rintro e w4 ⟨rfl, hk4⟩))
          go_ret
          exact ⟨rfl, hk4⟩
        · obtain rfl : p = q + 1 := hpq
          have HMX2 := Lib.hid (HM.out (S.take q) (S.drop ((q + 1) + 1)) f t (by exact eT) (by exact eC))
          have hA : Rs w2 (.slice (some ⟨b, off, none⟩) q cap) (S.take q) := Rs.front hAt.out q cap (by have := HmS.out; omega) (by omega) HMX.out
          have hC : Rs w2 (.slice (some ⟨b, off + (q + 1) * 2 + 2, none⟩) (m - (q + 1) - 1) (cap - (q + 1) - 1)) (S.drop ((q + 1) + 1)) := Rs.drop hAt.out ((q + 1) + 1) _ _ _ (by have := HmS.out; omega) (by have := HmS.out; omega) (Or.inl (by omega)) (by omega) (by have := HMX.out; omega)
          have hx1 := (hAt.out q (by have := HmS.out; omega)).1
          have hx2 := (hAt.out q (by have := HmS.out; omega)).2
          rw [hq] at hx1
          rw [hqt] at hx2
          clear hq hqt
          have hd1 : (1 : Int) ≤ ((m - (q + 1) : Nat) : Int) := by omega
          have hd2 : 1 ≤ m - (q + 1) := by omega
          have hd3 : 0 < m - (q + 1) := by omega
          have hy1 := (hAt.out (q + 1) (by have := HmS.out; omega)).1
          have hy2 := (hAt.out (q + 1) (by have := HmS.out; omega)).2
          rw [hr] at hy2
          rw [hrf] at hy1
          clear hr hrf
          clear eT eC HT HC HM HTK
          go_wp2_with (first
            | (go_at_call 20; refine (concat_any (three_of _ f t hA hC) rfl (by rw [HMX2.out]; exact HL.out)).mono ?_; rintro e w3 ⟨v3, rfl, ho3, hb3⟩; have hk := ready H.out HB.out (hBW.out.trans (((three_below _ _ _).mono hW2).trans (hb3.mono (by simp; omega)))) ho3 (by simp; omega) (by rw [HS.out]; exact HMX2.out _ _ _))
            | (go_at_call 19; refine hk.mono ?_; rintro e w4 ⟨rfl, hk4⟩))
          go_ret
          exact ⟨rfl, hk4⟩
end Go.Proofs.Ytnfednhleedljaa
