/- What follows, and what can be made; what holds of a mind that is told, step by step. -/
import Derived.Test.YtmplcibaoanlnaaPkD
namespace Go.Proofs.Ytmplcibaoanlnaa
open Go Go.RowKit

/-- What follows of the terms Bs (true), what can be made of them (false). -/
inductive Der (N : List Nd) (Bs : Int → Prop) : Bool → Int → Prop
  | base {h : Int} : Bs h → 1 ≤ h → h ≤ (N.length : Int) → Der N Bs true h
  | row {h x : Int} : Der N Bs true h → kindN N h = 3 → x ∈ partsN N h → Der N Bs true x
  | signed {h : Int} : Der N Bs true h → kindN N h = 9 → Der N Bs true ((partsN N h).getD 1 0)
  | sealed {h : Int} : Der N Bs true h → kindN N h = 10 → Der N Bs false ((partsN N h).getD 0 0) → Der N Bs true ((partsN N h).getD 2 0)
  | fo {h : Int} : Der N Bs true h → Der N Bs false h
  | made {h : Int} : 1 ≤ h → h ≤ (N.length : Int) → kindN N h ≠ 2 → kindN N h ≠ 8 → (∀ x ∈ partsN N h, Der N Bs false x) → Der N Bs false h
  | both {h : Int} : kindN N h = 8 → Der N Bs true ((partsN N h).getD 0 0) → Der N Bs true ((partsN N h).getD 1 0) → Der N Bs false h
  | left {h q : Int} : kindN N h = 8 → Der N Bs true ((partsN N h).getD 0 0) → Der N Bs true q → kindN N q = 7 → partsN N q = [(partsN N h).getD 1 0] → Der N Bs false h
  | right {h q : Int} : kindN N h = 8 → Der N Bs true ((partsN N h).getD 1 0) → Der N Bs true q → kindN N q = 7 → partsN N q = [(partsN N h).getD 0 0] → Der N Bs false h

structure Snd (N : List Nd) (Bs : Int → Prop) (S : MS) : Prop where
  s3 : ∀ h, S.st h = 3 → Der N Bs true h
  s2 : ∀ h, 2 ≤ S.st h → Der N Bs false h
  ssh : ∀ a, S.sh a = true → ∃ q, Der N Bs true q ∧ kindN N q = 7 ∧ partsN N q = [a]
  ssh' : ∀ k, ∀ u ∈ S.shut k, ∃ h, Der N Bs true h ∧ kindN N h = 10 ∧ (partsN N h).getD 0 0 = k ∧ (partsN N h).getD 2 0 = u
theorem Snd.rise {N : List Nd} {Bs : Int → Prop} {S : MS} (s : Snd N Bs S) {x to : Int} (h2 : Der N Bs false x) (h3 : to = 3 → Der N Bs true x) : Snd N Bs (riseP S x to) := by
  unfold riseP
  split
  · refine ⟨fun h hh => ?_, fun h hh => ?_, s.ssh, s.ssh'⟩
    · by_cases e : h = x
      · subst e; simp only [up_same] at hh; exact h3 hh
      · simp only [up_other _ _ e] at hh; exact s.s3 h hh
    · by_cases e : h = x
      · subst e; exact h2
      · simp only [up_other _ _ e] at hh; exact s.s2 h hh
  · exact s
theorem agr_der {N : List Nd} {Bs : Int → Prop} {S : MS} (s : Snd N Bs S) {a b : Int} (h : agrP S a b = true) : Der N Bs true a ∧ (Der N Bs true b ∨ ∃ q, Der N Bs true q ∧ kindN N q = 7 ∧ partsN N q = [b]) := by
  unfold agrP at h
  simp only [Bool.and_eq_true, Bool.or_eq_true, decide_eq_true_eq] at h
  exact ⟨s.s3 a h.1, h.2.elim (fun e => .inr (s.ssh b e)) (fun e => .inl (s.s3 b e))⟩
/-- What lacks nothing can be made. -/
theorem lack_der {N : List Nd} (hN : Wf N) {Bs : Int → Prop} {S : MS} (s : Snd N Bs S) {x : Int} (hx : 1 ≤ x ∧ x ≤ (N.length : Int)) {can : Int → Bool} (hc : ∀ y, can y = true → Der N Bs false y) (hl : lackP S can x (kindN N x) (partsN N x) = []) : Der N Bs false x := by
  unfold lackP at hl
  split at hl
  · cases hl
  · rename_i h2
    split at hl
    · rename_i h8
      split at hl
      · rename_i ha
        rcases Bool.or_eq_true_iff.1 ha with ha | ha
        · obtain ⟨d1, d2 | ⟨q, d2, d3, d4⟩⟩ := agr_der s ha
          · exact .both h8 d1 d2
          · exact .left h8 d1 d2 d3 d4
        · obtain ⟨d1, d2 | ⟨q, d2, d3, d4⟩⟩ := agr_der s ha
          · exact .both h8 d2 d1
          · exact .right h8 d1 d2 d3 d4
      · have := (hN.two x h8).1
        rw [hl] at this
        cases this
    · rename_i h8
      cases hf : (partsN N x).find? (fun y => !can y) with
      | some z => rw [hf] at hl; cases hl
      | none =>
        refine .made hx.1 hx.2 h2 h8 fun y hy => hc y ?_
        have := List.find?_eq_none.1 hf y hy
        simpa using this
theorem Snd.ask {N : List Nd} (hN : Wf N) {Bs : Int → Prop} {S : MS} (s : Snd N Bs S) {x : Int} (hx : 1 ≤ x ∧ x ≤ (N.length : Int)) : Snd N Bs (askP S x (kindN N x) (partsN N x)) := by
  unfold askP
  split
  · rename_i hl
    exact s.rise (lack_der hN s hx (fun y hy => s.s2 y (by unfold canP at hy; simpa using hy)) hl) (fun e => absurd e (by decide))
  · have e := waitP_st S x (lackP S (canP S) x (kindN N x) (partsN N x))
    exact ⟨fun h hh => s.s3 h (by rw [e.1] at hh; exact hh), fun h hh => s.s2 h (by rw [e.1] at hh; exact hh), fun a ha => s.ssh a (by rw [e.2.1] at ha; exact ha), fun k u hu => s.ssh' k u (by rw [e.2.2.1] at hu; exact hu)⟩
theorem Snd.wakes {N : List Nd} (hN : Wf N) {Bs : Int → Prop} {S : MS} (s : Snd N Bs S) {l : List Int} (hl : ∀ x ∈ l, 1 ≤ x ∧ x ≤ (N.length : Int)) : Snd N Bs (l.foldl (wakeStep N) S) := by
  induction l generalizing S with
  | nil => exact s
  | cons x r ih =>
    refine ih (S := wakeStep N S x) ?_ fun y hy => hl y (by simp [hy])
    unfold wakeStep
    split
    · exact s
    · exact s.ask hN (hl x (by simp))
theorem Snd.wake {N : List Nd} (hN : Wf N) {Bs : Int → Prop} {S : MS} (s : Snd N Bs S) {y : Int} (hl : ∀ x ∈ S.waits y, 1 ≤ x ∧ x ≤ (N.length : Int)) : Snd N Bs (wakeP N S y) :=
  Snd.wakes (S := { S with waits := up S.waits y [] }) hN ⟨s.s3, s.s2, s.ssh, s.ssh'⟩ hl
theorem Snd.opens {N : List Nd} (hN : Wf N) {Bs : Int → Prop} {S : MS} (s : Snd N Bs S) {l : List Int} (hl : ∀ x ∈ l, 1 ≤ x ∧ x ≤ (N.length : Int)) : Snd N Bs (l.foldl (openStep N) S) := by
  induction l generalizing S with
  | nil => exact s
  | cons x r ih =>
    refine ih (S := openStep N S x) ?_ fun y hy => hl y (by simp [hy])
    refine Snd.ask (S := { S with st := up S.st x 1 }) hN ⟨fun h hh => ?_, fun h hh => ?_, s.ssh, s.ssh'⟩ (hl x (by simp))
    · by_cases e : h = x
      · subst e; simp only [up_same] at hh; omega
      · simp only [up_other _ _ e] at hh; exact s.s3 h hh
    · by_cases e : h = x
      · subst e; simp only [up_same] at hh; omega
      · simp only [up_other _ _ e] at hh; exact s.s2 h hh
theorem Snd.mrises {N : List Nd} {Bs : Int → Prop} {S : MS} (s : Snd N Bs S) {l : List Int} (hl : ∀ x ∈ l, Der N Bs true x) : Snd N Bs (rises S l) := by
  induction l generalizing S with
  | nil => exact s
  | cons x r ih => exact ih (s.rise (.fo (hl x (by simp))) fun _ => hl x (by simp)) fun y hy => hl y (by simp [hy])
theorem Snd.unfold {N : List Nd} (hN : Wf N) {Bs : Int → Prop} {S S1 : MS} (s : Snd N Bs S) (hi : Inr N.length S) {x : Int} (h3 : S.st x = 3) (hu : unfoldR N S x S1) : Snd N Bs S1 := by
  have hd := s.s3 x h3
  unfold unfoldR at hu
  split at hu
  · rename_i k3
    subst hu
    exact s.mrises fun y hy => .row hd k3 hy
  · split at hu
    · rename_i k7
      subst hu
      have hlen := (hN.one x k7).1
      have hps : partsN N x = [(partsN N x).getD 0 0] := by
        match hp : partsN N x, hlen with
        | [p], _ => rfl
      refine Snd.wake (S := { S with sh := up S.sh ((partsN N x).getD 0 0) true }) hN ⟨s.s3, s.s2, fun a ha => ?_, s.ssh'⟩ (hi.waits _)
      by_cases e : a = (partsN N x).getD 0 0
      · exact ⟨x, hd, k7, by rw [e]; exact hps⟩
      · have ha' : up S.sh ((partsN N x).getD 0 0) true a = true := ha
        rw [up_other _ _ e] at ha'
        exact s.ssh a ha'
    · split at hu
      · rename_i k9
        subst hu
        exact s.rise (.fo (.signed hd k9)) fun _ => .signed hd k9
      · split at hu
        · rename_i k10
          obtain ⟨l, hl, rfl⟩ := hu
          have s1 := s.opens hN (l := l) fun z hz => ⟨(hl.inn z hz).1, (hl.inn z hz).2.1⟩
          unfold openP
          split
          · rename_i hc
            have hk := s1.s2 _ (show 2 ≤ _ by unfold canP at hc; simpa using hc)
            exact s1.rise (.fo (.sealed hd k10 hk)) fun _ => .sealed hd k10 hk
          · refine ⟨s1.s3, s1.s2, s1.ssh, fun k u hu => ?_⟩
            have hu' : u ∈ up (l.foldl (openStep N) S).shut ((partsN N x).getD 0 0) ((l.foldl (openStep N) S).shut ((partsN N x).getD 0 0) ++ [(partsN N x).getD 2 0]) k := hu
            by_cases e : k = (partsN N x).getD 0 0
            · rw [e, up_same] at hu'
              rcases List.mem_append.1 hu' with h | h
              · rw [e]; exact s1.ssh' _ u h
              · rw [List.mem_singleton] at h
                exact ⟨x, hd, k10, e.symm, h.symm⟩
            · rw [up_other _ _ e] at hu'; exact s1.ssh' k u hu'
        · subst hu; exact s
theorem opens_inr {N : List Nd} : ∀ (l : List Int) (S : MS), Inr N.length S → (∀ z ∈ l, 1 ≤ z ∧ z ≤ (N.length : Int)) → Inr N.length (l.foldl (openStep N) S) := by
  intro l
  induction l with
  | nil => intro S h _; exact h
  | cons z r ih => intro S h hz; exact ih _ ((h.low (hz z (by simp))).ask (hz z (by simp)) _ _) fun y hy => hz y (by simp [hy])
theorem Snd.spread {N : List Nd} (hN : Wf N) {Bs : Int → Prop} {S S' : MS} (s : Snd N Bs S) {pops : Int → Nat} (c : Cn0 N S pops) {m : Nat} (hm : ∀ y, (S.shut y).length ≤ m) (hi : Inr N.length S) {x : Int} (hx : 1 ≤ x ∧ x ≤ (N.length : Int)) (h2 : 2 ≤ S.st x) (hs : spreadR N S x S') : Snd N Bs S' := by
  obtain ⟨S1, a1, a2, rfl⟩ := hs
  have hS1 : Snd N Bs S1 ∧ Inr N.length S1 := by
    by_cases e : S.st x = 3
    · exact ⟨s.unfold hN hi e (a1 e), (unfold_cn hN c hi hx (a1 e) hm).2.1⟩
    · rw [a2 e]; exact ⟨s, hi⟩
  obtain ⟨s1, i1⟩ := hS1
  have hd : Der N Bs false x := s.s2 x h2
  have s2 : Snd N Bs (rises S1 (S1.shut x)) := s1.mrises fun u hu => by
    obtain ⟨h, d1, d2, d3, d4⟩ := s1.ssh' x u hu
    rw [← d4]
    exact .sealed d1 d2 (by rw [d3]; exact hd)
  refine Snd.wake (S := { rises S1 (S1.shut x) with shut := up (rises S1 (S1.shut x)).shut x [] }) hN ⟨s2.s3, s2.s2, s2.ssh, fun k u hu => ?_⟩ (((i1.rises (i1.shut x)).clear0 x).waits x)
  have hu' : u ∈ up (rises S1 (S1.shut x)).shut x [] k := hu
  by_cases e : k = x
  · rw [e, up_same] at hu'; cases hu'
  · rw [up_other _ _ e] at hu'; exact s2.ssh' k u hu'
#print axioms Snd.spread
end Go.Proofs.Ytmplcibaoanlnaa
