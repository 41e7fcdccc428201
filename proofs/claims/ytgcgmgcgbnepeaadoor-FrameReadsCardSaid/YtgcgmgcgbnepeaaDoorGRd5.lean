/- frame.Read: ack: plain, what is taken so far. -/
import Derived.Test.YtgcgmgcgbnepeaaDoorGRd4
namespace Go.Proofs.YtgcgmgcgbnepeaaDoor
open Go Go.RowKit

theorem ok_bounds {S : List Sp} (h0 : numR (S.getD 0 (0, 0)).2) (h : ∀ k, k < S.length → okAt S k) : ∀ k, k < S.length → 0 ≤ (S.getD k (0, 0)).1 ∧ (S.getD k (0, 0)).1 ≤ (S.getD k (0, 0)).2 ∧ (S.getD k (0, 0)).2 < 4611686018427387904 := by
  intro k
  induction k with
  | zero =>
    intro hk
    have := h 0 hk
    unfold okAt at this
    exact ⟨this.1, this.2.1, h0.2⟩
  | succ k ih =>
    intro hk
    have h1 := h (k + 1) hk
    have h2 := ih (by omega)
    unfold okAt at h1
    have h3 := h1.2.2 (by omega)
    simp only [Nat.add_sub_cancel] at h3
    exact ⟨h1.1, h1.2.1, by omega⟩
theorem ok_app {S : List Sp} {p : Sp} {k : Nat} (hk : k < S.length) : okAt (S ++ [p]) k ↔ okAt S k := by
  have e1 : (S ++ [p]).getD k (0, 0) = S.getD k (0, 0) := by simp [List.getD, List.getElem?_append_left hk]
  have e2 : (S ++ [p]).getD (k - 1) (0, 0) = S.getD (k - 1) (0, 0) := by simp [List.getD, List.getElem?_append_left (show k - 1 < S.length by omega)]
  unfold okAt
  rw [e1, e2]
theorem ok_new {S : List Sp} {p : Sp} (hS : 0 < S.length) : okAt (S ++ [p]) S.length ↔ 0 ≤ p.1 ∧ p.1 ≤ p.2 ∧ p.2 ≤ (S.getD (S.length - 1) (0, 0)).1 - 2 := by
  have e1 : (S ++ [p]).getD S.length (0, 0) = p := by simp [List.getD]
  have e2 : (S ++ [p]).getD (S.length - 1) (0, 0) = S.getD (S.length - 1) (0, 0) := by simp [List.getD, List.getElem?_append_left (show S.length - 1 < S.length by omega)]
  unfold okAt
  rw [e1, e2]
  constructor
  · rintro ⟨a, b, c⟩; exact ⟨a, b, c hS⟩
  · rintro ⟨a, b, c⟩; exact ⟨a, b, fun _ => c⟩
/-- Where an ack stands behind i of its other spans. -/
def AckSt (zs : List Int) (t : Nat) (more : Int) (i : Nat) (S : List Sp) (ti : Nat) : Prop :=
  S.length = i + 1 ∧
  (((∀ k, k < S.length → okAt S k) ∧ numR (S.getD 0 (0, 0)).2 ∧ (more < 32 → gAck zs t = match gSpans zs (more.toNat - i) (S.getD i (0, 0)).1 ti with | some (l, t') => some (S ++ l, t') | none => none)) ∨
   ((∃ k, k < S.length ∧ ¬ okAt S k) ∧ (more < 32 → gAck zs t = none)))
theorem wrap_id {x : Int} (h : -9223372036854775808 ≤ x ∧ x ≤ 9223372036854775807) : IntKind.i64.wrap x = x := IntWalk.i64_in _ h
theorem ack_init {zs : List Int} {t t1 t2 t3 : Nat} {to more n : Int} (h1 : gVar zs t = some (to, t1)) (h2 : gVar zs t1 = some (more, t2)) (h3 : gVar zs t2 = some (n, t3)) (b1 : numR to) (b3 : numR n) :
    AckSt zs t more 0 [(IntKind.i64.wrap (to - n), to)] t3 := by
  have hw : IntKind.i64.wrap (to - n) = to - n := wrap_id (by have := b1.1; have := b1.2; have := b3.1; have := b3.2; omega)
  rw [hw]
  refine ⟨rfl, ?_⟩
  by_cases hc : to < n
  · refine .inr ⟨⟨0, by simp, fun h => ?_⟩, fun hm => ?_⟩
    · unfold okAt at h
      simp at h
      omega
    · simp only [gAck, h1, h2, h3]
      rw [if_neg (by omega), if_pos hc]
  · refine .inl ⟨fun k hk => ?_, by simpa using b1, fun hm => ?_⟩
    · have : k = 0 := by simp at hk; exact hk
      subst this
      have := b3.1
      unfold okAt
      simp
      omega
    · simp only [gAck, h1, h2, h3]
      rw [if_neg (by omega), if_neg hc]
      simp only [List.getD, Nat.sub_zero]
      simp
      cases gSpans zs more.toNat (to - n) t3 <;> rfl
theorem AckSt.none1 {zs : List Int} {t ti i : Nat} {more : Int} {S : List Sp} (h : AckSt zs t more i S ti) (hi : (i : Int) < more) (hv : gVar zs ti = none) (hm : more < 32) : gAck zs t = none := by
  obtain ⟨_, ⟨_, _, h3⟩ | ⟨_, h3⟩⟩ := h
  · rw [h3 hm]
    obtain ⟨m, hm'⟩ : ∃ m, more.toNat - i = m + 1 := ⟨more.toNat - i - 1, by omega⟩
    rw [hm']
    simp only [gSpans, hv]
  · exact h3 hm
theorem AckSt.none2 {zs : List Int} {t ti i t' : Nat} {more g : Int} {S : List Sp} (h : AckSt zs t more i S ti) (hi : (i : Int) < more) (hg : gVar zs ti = some (g, t')) (hv : gVar zs t' = none) (hm : more < 32) : gAck zs t = none := by
  obtain ⟨_, ⟨_, _, h3⟩ | ⟨_, h3⟩⟩ := h
  · rw [h3 hm]
    obtain ⟨m, hm'⟩ : ∃ m, more.toNat - i = m + 1 := ⟨more.toNat - i - 1, by omega⟩
    rw [hm']
    simp only [gSpans, hg, hv]
  · exact h3 hm
theorem AckSt.step {zs : List Int} {t ti i t' t'' : Nat} {more g n : Int} {S : List Sp} (h : AckSt zs t more i S ti) (hi : (i : Int) < more) (hg : gVar zs ti = some (g, t')) (hn : gVar zs t' = some (n, t'')) (bg : numR g) (bn : numR n) :
    AckSt zs t more (i + 1) (S ++ [(IntKind.i64.wrap (IntKind.i64.wrap (IntKind.i64.wrap ((S.getD i (0, 0)).1 - g) - 2) - n), IntKind.i64.wrap (IntKind.i64.wrap ((S.getD i (0, 0)).1 - g) - 2))]) t'' := by
  obtain ⟨hl, hc⟩ := h
  refine ⟨by simp [hl], ?_⟩
  rcases hc with ⟨h1, h2, h3⟩ | ⟨⟨k, hk, hnk⟩, h3⟩
  · have hb := ok_bounds h2 h1 i (by omega)
    have hbg0 := bg.1
    have hbg1 := bg.2
    have hbn0 := bn.1
    have hbn1 := bn.2
    have hSi : S.length - 1 = i := by omega
    have hnew := fun p => ok_new (S := S) (p := p) (by omega)
    rw [hSi] at hnew
    generalize hF : (S.getD i (0, 0)).1 = F at *
    have e1 : IntKind.i64.wrap (F - g) = F - g := wrap_id (by omega)
    have e2 : IntKind.i64.wrap (F - g - 2) = F - g - 2 := wrap_id (by omega)
    have e3 : IntKind.i64.wrap (F - g - 2 - n) = F - g - 2 - n := wrap_id (by omega)
    rw [e1, e2, e3]
    obtain ⟨m, hm'⟩ : ∃ m, more.toNat - i = m + 1 := ⟨more.toNat - i - 1, by omega⟩
    have hm2 : more.toNat - (i + 1) = m := by omega
    rw [hm'] at h3
    rw [hm2]
    simp only [gSpans, hg, hn] at h3
    by_cases hlt : F - g - 2 < n
    · refine .inr ⟨⟨S.length, by simp, fun h => ?_⟩, fun hm => by rw [h3 hm, if_pos hlt]⟩
      have := (hnew _).1 h
      simp only at this
      omega
    · refine .inl ⟨fun k hk => ?_, ?_, fun hm => ?_⟩
      · by_cases hkl : k < S.length
        · exact (ok_app hkl).2 (h1 k hkl)
        · have : k = S.length := by simp at hk; omega
          subst this
          exact (hnew _).2 ⟨by simp only; omega, by simp only; omega, by simp only; omega⟩
      · have : (S ++ [(F - g - 2 - n, F - g - 2)]).getD 0 (0, 0) = S.getD 0 (0, 0) := by
          unfold List.getD
          rw [List.getElem?_append_left (show 0 < S.length by omega)]
        rw [this]; exact h2
      · have e : ((S ++ [(F - g - 2 - n, F - g - 2)]).getD (i + 1) (0, 0)).1 = F - g - 2 - n := by
          rw [← hl]; simp [List.getD]
        rw [h3 hm, if_neg hlt, e]
        cases gSpans zs m (F - g - 2 - n) t'' with
        | none => rfl
        | some x => simp
  · exact .inr ⟨⟨k, by simp; omega, fun h => hnk ((ok_app hk).1 h)⟩, h3⟩
theorem AckSt.fin {zs : List Int} {t ti i : Nat} {more : Int} {S : List Sp} (h : AckSt zs t more i S ti) (hi : (i : Int) = more) : (rightB ⟨2, 0, S, 0, [], 0⟩ = true → gAck zs t = some (S, ti)) ∧ (rightB ⟨2, 0, S, 0, [], 0⟩ = false → more < 32 → gAck zs t = none) := by
  have e : rightB ⟨2, 0, S, 0, [], 0⟩ = decide (ackP S) := by simp [rightB, bareB]
  rw [e]
  obtain ⟨hl, ⟨h1, h2, h3⟩ | ⟨⟨k, hk, hnk⟩, h3⟩⟩ := h
  · refine ⟨fun hr => ?_, fun hr hm => ?_⟩
    · have hp := of_decide_eq_true hr
      have hm : more < 32 := by have := hp.2.1; omega
      rw [h3 hm, show more.toNat - i = 0 by omega]
      simp [gSpans]
    · exact absurd (⟨by omega, by omega, nmB_iff.2 h2, h1⟩ : ackP S) (of_decide_eq_false hr)
  · refine ⟨fun hr => ?_, fun _ hm => h3 hm⟩
    exact absurd ((of_decide_eq_true hr).2.2.2 k hk) hnk
theorem gack_big {zs : List Int} {t t1 t2 : Nat} {to more : Int} (h1 : gVar zs t = some (to, t1)) (h2 : gVar zs t1 = some (more, t2)) (hm : ¬ more < 32) : gAck zs t = none := by
  simp only [gAck, h1, h2]
  rw [if_pos (by omega)]
#print axioms AckSt.step
end Go.Proofs.YtgcgmgcgbnepeaaDoor
