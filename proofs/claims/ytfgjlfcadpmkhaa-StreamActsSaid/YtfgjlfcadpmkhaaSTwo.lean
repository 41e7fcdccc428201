/- Both streams side by side: the document's held bytes are those of the program's pieces. -/
import Derived.Test.YtfgjlfcadpmkhaaRNext
namespace Go.Proofs.Ytfgjlfcadpmkhaa
open Go Go.RowKit

/-- The pieces hold what the document holds. -/
structure Two (t : Nat) (E : Int → Option (List Int)) (hl : List (Int × Int)) : Prop where
  pcs : Pcs t E
  ag : AgreeE (heldL hl) E
  cv : ∀ p, Cov E p ↔ 0 ≤ heldL hl p
theorem Two.lo {t : Nat} {E : Int → Option (List Int)} {hl : List (Int × Int)} (h : Two t E hl) {p : Int} (hp : 0 ≤ heldL hl p) : (t : Int) ≤ p := by
  obtain ⟨s, l, h1, h2, h3⟩ := (h.cv p).2 hp
  have := (h.pcs.lo s l h1).1
  omega
theorem two_front {t : Nat} {E : Int → Option (List Int)} {hl : List (Int × Int)} (h : Two t E hl) (n : Nat) : frontL hl t n = (frontB t E).take n := by
  have hA := agree_front (t := t) h.ag
  obtain ⟨hc, hn⟩ := front_cov h.pcs
  have hn' : heldL hl (t + (frontB t E).length) < 0 := by
    have := (h.cv (t + (frontB t E).length)).2
    exact Int.not_le.1 fun h0 => hn (this h0)
  generalize frontB t E = f at *
  have aux : ∀ n i : Nat, i ≤ f.length → frontL hl (t + i) n = (f.drop i).take n := by
    intro n
    induction n with
    | zero => intro i _; simp [frontL]
    | succ n ih =>
      intro i hi
      have e : frontL hl (t + i) (n + 1) = if heldL hl (t + i) < 0 then [] else heldL hl (t + i) :: frontL hl (t + i + 1) n := rfl
      rw [e]
      by_cases hif : i < f.length
      · have h0 := (h.cv (t + i)).1 (hc (t + i) (by omega) (by omega))
        rw [if_neg (by omega), List.drop_eq_getElem_cons hif, List.take_succ_cons]
        have h1 := hA i hif
        rw [← h1, show (t : Int) + i + 1 = t + ((i + 1 : Nat) : Int) by omega, ih (i + 1) (by omega)]
        simp [List.getD, hif]
      · obtain rfl : i = f.length := by omega
        rw [if_pos hn', List.drop_length]
        simp
  have := aux n 0 (Nat.zero_le _)
  simpa using this
theorem two_front_byt {t : Nat} {E : Int → Option (List Int)} {hl : List (Int × Int)} (h : Two t E hl) (hb : Byt (hl.map (·.2))) : Byt (frontB t E) := by
  have := two_front h (frontB t E).length
  rw [List.take_length] at this
  rw [← this]
  exact frontL_byt hb _ _
theorem body_head {f : List Int} (hb : Byt f) : bodyR (f.take 4) = (headN f : Int) := by
  rw [headN_eq hb]
  unfold bodyR
  have g : ∀ i, i < 4 → (f.take 4).getD i 0 = f.getD i 0 := fun i hi => by simp [List.getD, hi]
  rw [g 1 (by omega), g 2 (by omega), g 3 (by omega)]
/-- Both say the same of what is wrong. -/
theorem two_no {t : Nat} {E : Int → Option (List Int)} {hl : List (Int × Int)} (h : Two t E hl) (hb : Byt (hl.map (·.2))) {c : Int} (hc : RNo hl t c) : firstE (frontB t E) = c ∧ c ≠ 0 := by
  have hfb := two_front_byt h hb
  have hfr := two_front h
  generalize frontB t E = f at *
  unfold firstE
  cases hc with
  | short h1 =>
    rw [hfr, List.length_take] at h1
    rw [if_pos (by omega)]
    exact ⟨rfl, by decide⟩
  | long h1 h2 =>
    rw [hfr 4] at h1 h2
    rw [List.length_take] at h1
    rw [body_head hfb] at h2
    rw [if_neg (by omega), if_pos (by omega)]
    exact ⟨rfl, by decide⟩
  | wait h1 h2 h3 =>
    rw [hfr 4] at h1 h2 h3
    rw [List.length_take] at h1
    rw [body_head hfb] at h2 h3
    rw [hfr, List.length_take] at h3
    rw [if_neg (by omega), if_neg (by omega), if_pos (by omega)]
    exact ⟨rfl, by decide⟩
theorem two_yes {t n : Nat} {E : Int → Option (List Int)} {hl : List (Int × Int)} (h : Two t E hl) (hb : Byt (hl.map (·.2))) (h4 : 4 ≤ (frontL hl t 4).length) (h2 : bodyR (frontL hl t 4) ≤ 2000) (hn : (n : Int) = bodyR (frontL hl t 4) + 4) (hl' : (frontL hl t n).length = n) :
    firstE (frontB t E) = 0 ∧ headN (frontB t E) + 4 = n := by
  have hfb := two_front_byt h hb
  have hfr := two_front h
  generalize frontB t E = f at *
  rw [hfr] at h4 h2 hn hl'
  rw [List.length_take] at h4 hl'
  rw [body_head hfb] at h2 hn
  unfold firstE
  rw [if_neg (by omega), if_neg (by omega), if_neg (by omega)]
  exact ⟨rfl, by omega⟩
/-- A message is taken from both. -/
theorem two_next {t n : Nat} {E : Int → Option (List Int)} {hl : List (Int × Int)} (h : Two t E hl) (hn : n ≤ (frontB t E).length) (hn0 : 0 < n) : Two (t + n) (nextE t E n) (keepP hl (t + n)) := by
  have hP := pcs_next h.pcs hn hn0
  have hag := agree_next (t := t) (n := n) h.ag
  refine ⟨hP, fun s l hs j hj => ?_, fun p => ?_⟩
  · have h1 := (hP.lo s l hs).1
    rw [hag s l hs j hj, heldL_keepP hl (t + n) (by omega)]
  · rw [cov_next h.pcs hn hn0 p, h.cv p]
    by_cases hp : ((t + n : Nat) : Int) ≤ p
    · rw [heldL_keepP hl (t + n) hp]
      exact ⟨fun x => x.2, fun x => ⟨hp, x⟩⟩
    · rw [heldL_gone hl (t + n) (by omega)]
      exact ⟨fun x => absurd x.1 hp, fun x => absurd x (by decide)⟩
theorem over_at {at' s : Int} {zs l : List Int} {p : Int} (h1 : at' ≤ p) (h2 : p < at' + zs.length) (h3 : s ≤ p) (h4 : p < s + l.length) : (over at' zs s l)[(p - max at' s).toNat]? = zs[(p - at').toNat]? := by
  unfold over
  rw [List.getElem?_drop, List.getElem?_take, if_pos (by omega)]
  congr 1
  omega
/-- Where all that touches is alike, no byte that is held is another one. -/
theorem two_same {t : Nat} {E : Int → Option (List Int)} {hl : List (Int × Int)} (h : Two t E hl) {at' : Int} {zs : List Int} (hA : ∀ s l, E s = some l → Touch (putA t at') (putZ t at' zs).length s l.length → Alike (putA t at') (putZ t at' zs) s l) {i : Nat} (hi : i < zs.length) (hp : 0 ≤ heldL hl (at' + i)) : heldL hl (at' + i) = zs.getD i 0 := by
  have hlo := h.lo hp
  obtain ⟨s, l, hE, h1, h2⟩ := (h.cv _).2 hp
  have hzl : (putZ t at' zs).length = zs.length - ((t : Int) - at').toNat := by unfold putZ; simp
  have hs := (h.pcs.lo s l hE).1
  have hpa : putA t at' ≤ at' + i := by unfold putA; omega
  have hpz : at' + i < putA t at' + (putZ t at' zs).length := by rw [hzl]; unfold putA; omega
  have hal := hA s l hE ⟨by omega, by omega⟩
  unfold Alike at hal
  have g1 := over_at hpa hpz h1 h2
  have g2 := over_at h1 h2 hpa hpz
  rw [hal, show max (putA t at') s = max s (putA t at') by omega, g2] at g1
  have h3 := h.ag s l hE (at' + i - s).toNat (by omega)
  rw [show s + ((at' + (i : Int) - s).toNat : Int) = at' + i by omega] at h3
  rw [← h3]
  have e1 : (putZ t at' zs)[(at' + (i : Int) - putA t at').toNat]? = zs[i]? := by
    unfold putZ
    rw [List.getElem?_drop]
    congr 1
    unfold putA
    omega
  rw [e1] at g1
  simp only [List.getD_eq_getElem?_getD, g1]
/-- The bytes as they are behind a piece. -/
def mixA (hl : List (Int × Int)) (at' : Int) (zs : List Int) : Int → Int := fun p => if heldL hl p < 0 then zs.getD (p - at').toNat 0 else heldL hl p
theorem mix_put {t : Nat} {hl : List (Int × Int)} {at' : Int} {zs : List Int} (hn : ∀ i : Nat, i < zs.length → heldL hl (at' + i) < 0 ∨ heldL hl (at' + i) = zs.getD i 0) : Agree (mixA hl at' zs) (putA t at') (putZ t at' zs) := by
  intro j hj
  have hzl : (putZ t at' zs).length = zs.length - ((t : Int) - at').toNat := by unfold putZ; simp
  have e0 : putA t at' + (j : Int) = at' + ((((t : Int) - at').toNat + j : Nat) : Int) := by unfold putA; omega
  have e1 : (putZ t at' zs).getD j 0 = zs.getD (((t : Int) - at').toNat + j) 0 := by
    unfold putZ
    simp only [List.getD_eq_getElem?_getD, List.getElem?_drop]
  rw [e1, e0]
  unfold mixA
  rw [show (at' + ((((t : Int) - at').toNat + j : Nat) : Int) - at').toNat = ((t : Int) - at').toNat + j by omega]
  rcases hn (((t : Int) - at').toNat + j) (by omega) with h | h
  · rw [if_pos h]
  · split
    · rfl
    · rw [h]
theorem mix_held {t : Nat} {E : Int → Option (List Int)} {hl : List (Int × Int)} (h : Two t E hl) (at' : Int) (zs : List Int) : AgreeE (mixA hl at' zs) E := by
  intro s l hE j hj
  have h1 := h.ag s l hE j hj
  have h2 := (h.cv (s + j)).1 ⟨s, l, hE, by omega, by omega⟩
  unfold mixA
  rw [if_neg (by omega)]
  exact h1
theorem two_alike {t : Nat} {E : Int → Option (List Int)} {hl : List (Int × Int)} (h : Two t E hl) {at' : Int} {zs : List Int} (hn : ∀ i : Nat, i < zs.length → heldL hl (at' + i) < 0 ∨ heldL hl (at' + i) = zs.getD i 0) {s : Int} {l : List Int} (hE : E s = some l) : Alike (putA t at') (putZ t at' zs) s l :=
  alike_of (mix_put hn) (mix_held h at' zs s l hE)
/-- A piece of which nothing is left changes nothing. -/
theorem two_none {t : Nat} {E : Int → Option (List Int)} {hl hl' : List (Int × Int)} (h : Two t E hl) {at' : Int} {zs : List Int} (ha : Adds hl t at' zs zs.length hl') (hz : putZ t at' zs = []) : Two t E hl' := by
  have hzl := congrArg List.length hz
  unfold putZ at hzl
  simp only [List.length_drop, List.length_nil] at hzl
  have key : ∀ p, heldL hl' p = heldL hl p := fun p => by rw [ha.1 p, if_neg (by omega)]
  exact ⟨h.pcs, fun s l hE j hj => by rw [key]; exact h.ag s l hE j hj, fun p => by rw [key]; exact h.cv p⟩
/-- A piece is taken in by both. -/
theorem two_put {t : Nat} {E : Int → Option (List Int)} {hl hl' : List (Int × Int)} (h : Two t E hl) {at' : Int} {zs L : List Int} (hb : Byt zs) (ha : Adds hl t at' zs zs.length hl') (hn : ∀ i : Nat, i < zs.length → heldL hl (at' + i) < 0 ∨ heldL hl (at' + i) = zs.getD i 0) (hL : Nears E (putA t at') (putZ t at' zs).length L) (hP : Pcs t (joinE E (putA t at') (putZ t at' zs) L)) :
    Two t (joinE E (putA t at') (putZ t at' zs) L) hl' := by
  have hzl : (putZ t at' zs).length = zs.length - ((t : Int) - at').toNat := by unfold putZ; simp
  have hmix := agree_join hL (mix_put hn) (mix_held h at' zs)
  have hcv := fun p => cov_join (E := E) (at' := putA t at') (zs := putZ t at' zs) hL p
  have key : ∀ p, Cov (joinE E (putA t at') (putZ t at' zs) L) p → heldL hl' p = mixA hl at' zs p := fun p hp => by
    rw [ha.1 p]
    unfold mixA
    rcases (hcv p).1 hp with h1 | h1
    · rw [hzl] at h1
      unfold putA at h1
      by_cases hh : heldL hl p < 0
      · rw [if_pos ⟨by omega, by omega, by omega, hh⟩, if_pos hh]
      · rw [if_neg (fun x => hh x.2.2.2), if_neg hh]
    · have := (h.cv p).1 h1
      rw [if_neg (fun x => by have := x.2.2.2; omega), if_neg (by omega)]
  refine ⟨hP, fun s l hE j hj => ?_, fun p => ?_⟩
  · rw [key (s + j) ⟨s, l, hE, by omega, by omega⟩]
    exact hmix s l hE j hj
  · rw [hcv p, h.cv p, hzl, ha.1 p]
    unfold putA
    by_cases hq : at' ≤ p ∧ p < at' + zs.length ∧ (t : Int) ≤ p ∧ heldL hl p < 0
    · rw [if_pos hq]
      have := hb.get (p - at').toNat
      exact ⟨fun _ => this.1, fun _ => .inl (by omega)⟩
    · rw [if_neg hq]
      constructor
      · rintro (h1 | h1)
        · by_cases h2 : heldL hl p < 0
          · exact absurd ⟨by omega, by omega, by omega, h2⟩ hq
          · omega
        · exact h1
      · exact .inr
/-- Both answer alike. -/
inductive PutTwo (t : Nat) (E : Int → Option (List Int)) (hl : List (Int × Int)) (at' : Int) (zs : List Int) (c : Int) (c' : Int) : Prop
  | same : c = c' → PutTwo t E hl at' zs c c'
theorem put_codes {t : Nat} {E : Int → Option (List Int)} {hl : List (Int × Int)} {at' c c' : Int} {zs : List Int} (h : Two t E hl) (h1 : PutC t E at' zs c) (h2 : RPut hl t at' zs c') : c = c' := by
  cases h1 with
  | arg a =>
    cases h2 with
    | bad b => rfl
    | far b _ => omega
    | clash b _ _ => omega
  | long a b d =>
    cases h2 with
    | bad b => omega
    | far b _ => rfl
    | clash b e _ =>
      have hz := List.length_pos_iff.2 (by assumption : zs ≠ [])
      have := e (zs.length - 1) (by omega)
      omega
  | none a b d =>
    cases h2 with
    | bad b => omega
    | far b e =>
      obtain ⟨i, hi, he⟩ := e
      rcases ‹zs = [] ∨ at' + (zs.length : Int) ≤ t + 4096› with h0 | h0
      · rw [h0] at hi; cases hi
      · omega
    | clash b _ e =>
      obtain ⟨i, hi, he, _⟩ := e
      have := h.lo he
      have hzl := congrArg List.length d
      unfold putZ at hzl
      simp only [List.length_drop, List.length_nil] at hzl
      omega
  | proto a b d e =>
    cases h2 with
    | bad b => omega
    | far _ f =>
      obtain ⟨i, hi, he⟩ := f
      rcases b with h0 | h0
      · rw [h0] at hi; cases hi
      · omega
    | clash b _ e => rfl
/-- Where the document takes a piece in, the program does, too. -/
theorem put_ok {t : Nat} {E : Int → Option (List Int)} {hl : List (Int × Int)} {at' c : Int} {zs : List Int} (h : Two t E hl) (h1 : PutC t E at' zs c) (h0 : 0 ≤ at' ∧ at' ≤ 1073741824) (hf : ∀ i : Nat, i < zs.length → at' + i - t < 4096) (hn : ∀ i : Nat, i < zs.length → heldL hl (at' + i) < 0 ∨ heldL hl (at' + i) = zs.getD i 0) : c = 0 ∧ putZ t at' zs = [] := by
  cases h1 with
  | arg a => omega
  | long a b d =>
    have hz := List.length_pos_iff.2 b
    have := hf (zs.length - 1) (by omega)
    omega
  | none a b d => exact ⟨rfl, d⟩
  | proto a b d e =>
    obtain ⟨s, l, hE, _, hna⟩ := e
    exact absurd (two_alike h hn hE) hna
/-- Where the program takes a piece in, the document does, too. -/
theorem put_no {t : Nat} {E : Int → Option (List Int)} {hl : List (Int × Int)} {at' c : Int} {zs : List Int} (h : Two t E hl) (h2 : RPut hl t at' zs c) (h0 : 0 ≤ at' ∧ at' ≤ 1073741824) (hl4 : zs = [] ∨ at' + zs.length ≤ t + 4096) (hA : ∀ s l, E s = some l → Touch (putA t at') (putZ t at' zs).length s l.length → Alike (putA t at') (putZ t at' zs) s l) : False := by
  cases h2 with
  | bad b => omega
  | far _ f =>
    obtain ⟨i, hi, he⟩ := f
    rcases hl4 with h3 | h3
    · rw [h3] at hi; cases hi
    · omega
  | clash b _ e =>
    obtain ⟨i, hi, he, hne⟩ := e
    exact hne (two_same h hA hi he)
#print axioms two_put
#print axioms put_codes
end Go.Proofs.Ytfgjlfcadpmkhaa
