/- Plain: which bytes the pieces hold, and where. -/
import Derived.Test.YtfgjlfcadpmkhaaSOne
namespace Go.Proofs.Ytfgjlfcadpmkhaa
open Go Go.RowKit

/-- The bytes from s on are those that A tells. -/
def Agree (A : Int → Int) (s : Int) (l : List Int) : Prop := ∀ j, j < l.length → l.getD j 0 = A (s + j)
/-- Is the place p held? -/
def Cov (E : Int → Option (List Int)) (p : Int) : Prop := ∃ s l, E s = some l ∧ s ≤ p ∧ p < s + l.length
def AgreeE (A : Int → Int) (E : Int → Option (List Int)) : Prop := ∀ s l, E s = some l → Agree A s l
theorem splice_get {b cs : List Int} {off : Nat} (h : off + cs.length ≤ b.length) (i : Nat) : (splice b off cs).getD i 0 = if off ≤ i ∧ i < off + cs.length then cs.getD (i - off) 0 else b.getD i 0 := by
  have ht : (b.take off).length = off := by simp; omega
  simp only [List.getD_eq_getElem?_getD]
  unfold splice
  by_cases h1 : i < off
  · rw [if_neg (by omega), List.getElem?_append_left (by omega), List.getElem?_take, if_pos h1]
  · rw [List.getElem?_append_right (by omega), ht]
    by_cases h2 : i < off + cs.length
    · rw [if_pos ⟨by omega, h2⟩, List.getElem?_append_left (by omega)]
    · rw [if_neg (by omega), List.getElem?_append_right (by omega), List.getElem?_drop]
      congr 2
      omega
theorem agree_get {A : Int → Int} {s : Int} {l : List Int} (h : Agree A s l) {p : Int} (h1 : s ≤ p) (h2 : p < s + l.length) : l.getD (p - s).toNat 0 = A p := by
  have := h (p - s).toNat (by omega)
  rw [this]
  congr 1
  omega
/-- What lies in a row, after the pieces of L are laid in it. -/
theorem bufK_agree {E : Int → Option (List Int)} {A : Int → Int} {F : Int} {m : Nat} (L : List Int) : ∀ (b : List Int) (D : Int → Prop), b.length = m → (∀ s ∈ L, F ≤ s ∧ s + (pc E s).length ≤ F + m) → (∀ s ∈ L, Agree A s (pc E s)) →
    (∀ p, F ≤ p → p < F + m → D p → b.getD (p - F).toNat 0 = A p) → ∀ p, F ≤ p → p < F + m → (D p ∨ ∃ s ∈ L, s ≤ p ∧ p < s + (pc E s).length) → (bufK E F b L).getD (p - F).toNat 0 = A p := by
  induction L with
  | nil =>
    intro b D _ _ _ hD p h1 h2 h3
    rcases h3 with h | ⟨s, h, _⟩
    · exact hD p h1 h2 h
    · cases h
  | cons x L ih =>
    intro b D hb hin hA hD p h1 h2 h3
    have hx := hin x List.mem_cons_self
    have hfit : (x - F).toNat + (pc E x).length ≤ b.length := by omega
    refine ih (splice b (x - F).toNat (pc E x)) (fun p => D p ∨ (x ≤ p ∧ p < x + (pc E x).length)) ((splice_len hfit).trans hb) (fun s hs => hin s (List.mem_cons_of_mem _ hs)) (fun s hs => hA s (List.mem_cons_of_mem _ hs)) ?_ p h1 h2 ?_
    · intro q k1 k2 k3
      rw [splice_get hfit]
      by_cases hq : x ≤ q ∧ q < x + (pc E x).length
      · rw [if_pos (by omega)]
        have := agree_get (hA x List.mem_cons_self) hq.1 hq.2
        rw [← this]
        congr 1
        omega
      · rw [if_neg (by omega)]
        rcases k3 with k | k
        · exact hD q k1 k2 k
        · exact absurd k hq
    · rcases h3 with h | ⟨s, hs, h4⟩
      · exact .inl (.inl h)
      · rcases List.mem_cons.1 hs with rfl | hs
        · exact .inl (.inr h4)
        · exact .inr ⟨s, hs, h4⟩
theorem ends_fst {E : Int → Option (List Int)} {at' : Int} {n : Nat} (L : List Int) : (ends E at' n L).1 = at' ∨ ∃ s ∈ L, (ends E at' n L).1 = s := by
  have key : ∀ (R : List Int), (ends E at' n R.reverse).1 = at' ∨ ∃ s ∈ R, (ends E at' n R.reverse).1 = s := by
    intro R
    induction R with
    | nil => exact .inl rfl
    | cons x R ih =>
      rw [List.reverse_cons, ends_snoc]
      by_cases h : x < (ends E at' n R.reverse).1
      · exact .inr ⟨x, List.mem_cons_self, by simp only; omega⟩
      · rcases ih with e | ⟨s, hs, e⟩
        · exact .inl (by simp only; omega)
        · exact .inr ⟨s, List.mem_cons_of_mem _ hs, by simp only; omega⟩
  have := key L.reverse
  rw [List.reverse_reverse] at this
  rcases this with e | ⟨s, hs, e⟩
  · exact .inl e
  · exact .inr ⟨s, List.mem_reverse.1 hs, e⟩
theorem ends_snd {E : Int → Option (List Int)} {at' : Int} {n : Nat} (L : List Int) : (ends E at' n L).2 = at' + n ∨ ∃ s ∈ L, (ends E at' n L).2 = s + (pc E s).length := by
  have key : ∀ (R : List Int), (ends E at' n R.reverse).2 = at' + n ∨ ∃ s ∈ R, (ends E at' n R.reverse).2 = s + (pc E s).length := by
    intro R
    induction R with
    | nil => exact .inl rfl
    | cons x R ih =>
      rw [List.reverse_cons, ends_snoc]
      by_cases h : (ends E at' n R.reverse).2 < x + (pc E x).length
      · exact .inr ⟨x, List.mem_cons_self, by simp only; omega⟩
      · rcases ih with e | ⟨s, hs, e⟩
        · exact .inl (by simp only; omega)
        · exact .inr ⟨s, List.mem_cons_of_mem _ hs, by simp only; omega⟩
  have := key L.reverse
  rw [List.reverse_reverse] at this
  rcases this with e | ⟨s, hs, e⟩
  · exact .inl e
  · exact .inr ⟨s, List.mem_reverse.1 hs, e⟩
/-- Each place between the ends is one of the new piece's, or one of a piece that touches it. -/
theorem ends_cov {E : Int → Option (List Int)} {at' : Int} {n : Nat} {L : List Int} (hL : Nears E at' n L) {p : Int} (h1 : (ends E at' n L).1 ≤ p) (h2 : p < (ends E at' n L).2) : (at' ≤ p ∧ p < at' + n) ∨ ∃ s ∈ L, s ≤ p ∧ p < s + (pc E s).length := by
  by_cases h3 : p < at'
  · right
    rcases ends_fst (E := E) (at' := at') (n := n) L with e | ⟨s, hs, e⟩
    · omega
    · obtain ⟨l, hl, ht⟩ := (hL s).1 hs
      refine ⟨s, hs, by omega, ?_⟩
      have := ht.2
      simp only [pc, hl, Option.getD_some]
      omega
  · by_cases h4 : p < at' + n
    · exact .inl ⟨by omega, h4⟩
    · right
      rcases ends_snd (E := E) (at' := at') (n := n) L with e | ⟨s, hs, e⟩
      · omega
      · obtain ⟨l, hl, ht⟩ := (hL s).1 hs
        refine ⟨s, hs, ?_, by omega⟩
        have := ht.1
        omega
/-- The joined piece tells what the parts tell. -/
theorem whole_agree {E : Int → Option (List Int)} {A : Int → Int} {at' : Int} {zs L : List Int} (hL : Nears E at' zs.length L) (hz : Agree A at' zs) (hE : AgreeE A E) :
    Agree A (ends E at' zs.length L).1 (wholeB E at' zs (ends E at' zs.length L).1 ((ends E at' zs.length L).2 - (ends E at' zs.length L).1).toNat L) := by
  have hle := ends_le E at' zs.length L
  obtain ⟨m, hm⟩ : ∃ m : Nat, ((ends E at' zs.length L).2 - (ends E at' zs.length L).1).toNat = m := ⟨_, rfl⟩
  intro j hj
  have hwl := whole_len (E := E) (at' := at') (zs := zs) (L := L)
  rw [hwl] at hj
  rw [hm] at hj ⊢
  have hp : ((ends E at' zs.length L).1 + (j : Int) - (ends E at' zs.length L).1).toNat = j := by omega
  have hfit : (at' - (ends E at' zs.length L).1).toNat + zs.length ≤ (List.replicate m (0 : Int)).length := by simp; omega
  have key := bufK_agree (E := E) (A := A) (F := (ends E at' zs.length L).1) (m := m) L (splice (List.replicate m 0) (at' - (ends E at' zs.length L).1).toNat zs) (fun p => at' ≤ p ∧ p < at' + zs.length) ((splice_len hfit).trans (by simp)) (fun s hs => by have := hle.2.2 s hs; omega)
    (fun s hs => by obtain ⟨l, hl, _⟩ := (hL s).1 hs; simp only [pc, hl, Option.getD_some]; exact hE s l hl)
    (fun p k1 k2 k3 => by
      rw [splice_get hfit, if_pos (by omega)]
      rw [← agree_get hz k3.1 k3.2]
      congr 1
      omega)
    ((ends E at' zs.length L).1 + j) (by omega) (by omega) (ends_cov hL (by omega) (by omega))
  rw [hp] at key
  exact key
theorem agree_join {E : Int → Option (List Int)} {A : Int → Int} {at' : Int} {zs L : List Int} (hL : Nears E at' zs.length L) (hz : Agree A at' zs) (hE : AgreeE A E) : AgreeE A (joinE E at' zs L) := by
  intro s l h
  unfold joinE at h
  by_cases h1 : s = (ends E at' zs.length L).1
  · rw [if_pos h1] at h
    cases h
    rw [h1]
    exact whole_agree hL hz hE
  · rw [if_neg h1] at h
    by_cases h2 : s ∈ L
    · rw [if_pos h2] at h; cases h
    · rw [if_neg h2] at h
      exact hE s l h
/-- Which places are held behind a join. -/
theorem cov_join {E : Int → Option (List Int)} {at' : Int} {zs L : List Int} (hL : Nears E at' zs.length L) (p : Int) : Cov (joinE E at' zs L) p ↔ (at' ≤ p ∧ p < at' + zs.length) ∨ Cov E p := by
  have hle := ends_le E at' zs.length L
  have hwl := whole_len (E := E) (at' := at') (zs := zs) (L := L)
  constructor
  · rintro ⟨s, l, h, h1, h2⟩
    unfold joinE at h
    by_cases h3 : s = (ends E at' zs.length L).1
    · rw [if_pos h3] at h
      cases h
      rw [hwl] at h2
      rcases ends_cov hL (p := p) (by omega) (by omega) with h4 | ⟨s', hs, h5, h6⟩
      · exact .inl h4
      · obtain ⟨l', hl, _⟩ := (hL s').1 hs
        simp only [pc, hl, Option.getD_some] at h6
        exact .inr ⟨s', l', hl, h5, h6⟩
    · rw [if_neg h3] at h
      by_cases h4 : s ∈ L
      · rw [if_pos h4] at h; cases h
      · rw [if_neg h4] at h
        exact .inr ⟨s, l, h, h1, h2⟩
  · have hin : ∀ q, (ends E at' zs.length L).1 ≤ q → q < (ends E at' zs.length L).2 → Cov (joinE E at' zs L) q := fun q k1 k2 => by
      refine ⟨(ends E at' zs.length L).1, _, by unfold joinE; rw [if_pos rfl], k1, ?_⟩
      rw [hwl]
      omega
    rintro (h | ⟨s, l, h, h1, h2⟩)
    · exact hin p (by omega) (by omega)
    · by_cases h4 : s ∈ L
      · have := hle.2.2 s h4
        simp only [pc, h, Option.getD_some] at this
        exact hin p (by omega) (by omega)
      · refine ⟨s, l, ?_, h1, h2⟩
        have h3 : s ≠ (ends E at' zs.length L).1 := fun e => by
          rcases ends_fst (E := E) (at' := at') (n := zs.length) L with e1 | ⟨s', hs, e1⟩
          · exact h4 ((hL s).2 ⟨l, h, ⟨by omega, by omega⟩⟩)
          · exact h4 (by rw [e, e1]; exact hs)
        unfold joinE
        rw [if_neg h3, if_neg h4]
        exact h
/-- The front: what is held from t on without a gap. -/
theorem front_cov {t : Nat} {E : Int → Option (List Int)} (hP : Pcs t E) : (∀ p : Int, (t : Int) ≤ p → p < t + (frontB t E).length → Cov E p) ∧ ¬ Cov E (t + (frontB t E).length) := by
  cases hE : E t with
  | none =>
    have e : frontB t E = [] := by unfold frontB; rw [hE]; rfl
    rw [e]
    refine ⟨fun p h1 h2 => by simp at h2; omega, ?_⟩
    rintro ⟨s, l, h, h1, h2⟩
    have := (hP.lo s l h).1
    obtain rfl : s = (t : Int) := by simp at h1; omega
    rw [hE] at h; cases h
  | some l0 =>
    have e : frontB t E = l0 := by unfold frontB; rw [hE]; rfl
    rw [e]
    refine ⟨fun p h1 h2 => ⟨t, l0, hE, h1, h2⟩, ?_⟩
    rintro ⟨s, l, h, h1, h2⟩
    have h3 := (hP.lo s l h).1
    by_cases hs : s = (t : Int)
    · rw [hs, hE] at h
      cases h
      omega
    · have := hP.gap t l0 s l hE h (by omega)
      omega
theorem agree_front {t : Nat} {E : Int → Option (List Int)} {A : Int → Int} (h : AgreeE A E) : Agree A t (frontB t E) := by
  cases hE : E t with
  | none =>
    have e : frontB t E = [] := by unfold frontB; rw [hE]; rfl
    rw [e]; intro j hj; simp at hj
  | some l0 =>
    have e : frontB t E = l0 := by unfold frontB; rw [hE]; rfl
    rw [e]; exact h _ _ hE
/-- Which places are held behind a message's taking. -/
theorem cov_next {t n : Nat} {E : Int → Option (List Int)} (hP : Pcs t E) (hn : n ≤ (frontB t E).length) (hn0 : 0 < n) (p : Int) : Cov (nextE t E n) p ↔ ((t + n : Nat) : Int) ≤ p ∧ Cov E p := by
  have hPn := pcs_next hP hn hn0
  obtain ⟨l0, hl0⟩ : ∃ l0, E t = some l0 := by
    cases hE : E t with
    | none => unfold frontB at hn; rw [hE] at hn; simp at hn; omega
    | some l => exact ⟨l, rfl⟩
  have e0 : frontB t E = l0 := by unfold frontB; rw [hl0]; rfl
  constructor
  · rintro ⟨s, l, h, h1, h2⟩
    have := (hPn.lo s l h).1
    refine ⟨by omega, ?_⟩
    unfold nextE at h
    by_cases h3 : s = ((t + n : Nat) : Int)
    · rw [if_pos h3] at h
      by_cases h4 : (frontB t E).drop n = []
      · rw [if_pos h4] at h; cases h
      · rw [if_neg h4] at h
        cases h
        refine ⟨t, l0, hl0, by omega, ?_⟩
        rw [e0, List.length_drop] at h2
        omega
    · rw [if_neg h3] at h
      by_cases h4 : s = (t : Int)
      · rw [if_pos h4] at h; cases h
      · rw [if_neg h4] at h
        exact ⟨s, l, h, h1, h2⟩
  · rintro ⟨h0, s, l, h, h1, h2⟩
    by_cases h3 : s = (t : Int)
    · rw [h3, hl0] at h
      cases h
      refine ⟨((t + n : Nat) : Int), (frontB t E).drop n, ?_, h0, ?_⟩
      · unfold nextE
        rw [if_pos rfl, if_neg]
        intro e
        have : ((frontB t E).drop n).length = 0 := by rw [e]; rfl
        rw [e0, List.length_drop] at this
        omega
      · rw [e0, List.length_drop]
        omega
    · refine ⟨s, l, ?_, h1, h2⟩
      have := hP.gap t l0 s l hl0 h (by have := (hP.lo s l h).1; omega)
      rw [e0] at hn
      unfold nextE
      rw [if_neg (by omega), if_neg h3]
      exact h
theorem agree_next {t n : Nat} {E : Int → Option (List Int)} {A : Int → Int} (h : AgreeE A E) : AgreeE A (nextE t E n) := by
  intro s l hs
  unfold nextE at hs
  by_cases h3 : s = ((t + n : Nat) : Int)
  · rw [if_pos h3] at hs
    by_cases h4 : (frontB t E).drop n = []
    · rw [if_pos h4] at hs; cases hs
    · rw [if_neg h4] at hs
      cases hs
      intro j hj
      have := agree_front (t := t) h (n + j) (by simp at hj; omega)
      rw [h3]
      simp only [List.getD_eq_getElem?_getD, List.getElem?_drop] at this ⊢
      rw [this]
      congr 1
      omega
  · rw [if_neg h3] at hs
    by_cases h4 : s = (t : Int)
    · rw [if_pos h4] at hs; cases hs
    · rw [if_neg h4] at hs
      exact h s l hs
/-- Two rows that tell the same are alike. -/
theorem alike_of {A : Int → Int} {at' s : Int} {zs l : List Int} (h1 : Agree A at' zs) (h2 : Agree A s l) : Alike at' zs s l := by
  unfold Alike over
  have e1 : min (s + (l.length : Int)) (at' + zs.length) = min (at' + zs.length) (s + l.length) := by omega
  have e2 : max s at' = max at' s := by omega
  rw [e1, e2]
  have g1 : ∀ i, i < zs.length → zs[i]? = some (A (at' + i)) := fun i hi => by
    have := h1 i hi
    simp only [List.getD_eq_getElem?_getD, List.getElem?_eq_getElem hi, Option.getD_some] at this
    rw [List.getElem?_eq_getElem hi, this]
  have g2 : ∀ i, i < l.length → l[i]? = some (A (s + i)) := fun i hi => by
    have := h2 i hi
    simp only [List.getD_eq_getElem?_getD, List.getElem?_eq_getElem hi, Option.getD_some] at this
    rw [List.getElem?_eq_getElem hi, this]
  apply List.ext_getElem?
  intro j
  simp only [List.getElem?_drop, List.getElem?_take]
  by_cases hj : max at' s + (j : Int) < min (at' + zs.length) (s + l.length)
  · rw [if_pos (by omega), if_pos (by omega), g1 _ (by omega), g2 _ (by omega)]
    congr 2
    omega
  · by_cases k1 : (max at' s - at').toNat + j < (min (at' + (zs.length : Int)) (s + l.length) - at').toNat
    · exfalso; omega
    · rw [if_neg k1, if_neg (by omega)]
#print axioms alike_of
end Go.Proofs.Ytfgjlfcadpmkhaa
