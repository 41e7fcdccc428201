/- Frames, plain: which may be, decided; how they are told place by place. -/
import Derived.Test.YtgcgmgcgbnepeaaDoorGPure
import Derived.Test.YtgcgmgcgbnepeaaDoorGSp
namespace Go.Proofs.YtgcgmgcgbnepeaaDoor
open Go Go.RowKit

def nmB (n : Int) : Bool := decide (0 ≤ n ∧ n < 4611686018427387904)
def tmB (t : Int) : Bool := decide (1 ≤ t ∧ t ≤ 65536)
theorem nmB_iff {n : Int} : nmB n = true ↔ numR n := by simp [nmB, numR]
theorem sz_pos (n : Int) : decide (0 < sz n) = nmB n := by
  rcases sz_cases n with ⟨h, h2⟩ | ⟨h0, h1, k, h, hk, _⟩
  · rw [h]; unfold nmB
    rw [decide_eq_false (by omega), decide_eq_false (by omega)]
  · rw [h]; unfold nmB
    rw [decide_eq_true (by omega), decide_eq_true (by omega)]
/-- The span at a place may stand there. -/
def okAt (l : List Sp) (k : Nat) : Prop := 0 ≤ (l.getD k (0, 0)).1 ∧ (l.getD k (0, 0)).1 ≤ (l.getD k (0, 0)).2 ∧ (0 < k → (l.getD k (0, 0)).2 ≤ (l.getD (k - 1) (0, 0)).1 - 2)
instance (l : List Sp) (k : Nat) : Decidable (okAt l k) := by unfold okAt; infer_instance
def ackP (l : List Sp) : Prop := 1 ≤ l.length ∧ l.length ≤ 32 ∧ nmB (l.getD 0 (0, 0)).2 = true ∧ ∀ k, k < l.length → okAt l k
instance (l : List Sp) : Decidable (ackP l) := by unfold ackP; infer_instance
theorem spans_iff : ∀ (r : List Sp) (p : Sp), spansR r p.1 ↔ ∀ k, k < r.length → okAt (p :: r) (k + 1) := by
  intro r
  induction r with
  | nil => intro p; simp [spansR]
  | cons q r ih =>
    intro p
    obtain ⟨f, t⟩ := q
    simp only [spansR]
    rw [ih (f, t)]
    constructor
    · rintro ⟨h0, h1, h2, h3⟩ k hk
      cases k with
      | zero => exact ⟨by simpa using h0, by simpa using h1, fun _ => by simpa using h2⟩
      | succ k =>
        have := h3 k (by simpa using hk)
        unfold okAt at this ⊢
        simpa using this
    · intro h
      have h0 := h 0 (by simp)
      unfold okAt at h0
      simp at h0
      refine ⟨h0.1, h0.2.1, h0.2.2, fun k hk => ?_⟩
      have := h (k + 1) (by simpa using hk)
      unfold okAt at this ⊢
      simpa using this
theorem ack_iff (l : List Sp) : ackP l ↔ ackR l := by
  cases l with
  | nil => simp [ackP, ackR]
  | cons p r =>
    obtain ⟨f, t⟩ := p
    simp only [ackP, ackR]
    rw [spans_iff r (f, t), nmB_iff]
    constructor
    · rintro ⟨_, h2, h3, h4⟩
      have h0 := h4 0 (by simp)
      unfold okAt at h0
      simp at h0 h2 h3
      exact ⟨h0.1, h0.2, h3, h2, fun k hk => h4 (k + 1) (by simpa using hk)⟩
    · rintro ⟨h0, h1, h2, h3, h4⟩
      refine ⟨by simp, by simp; omega, by simpa using h2, fun k hk => ?_⟩
      cases k with
      | zero => exact ⟨by simpa using h0, by simpa using h1, fun h => absurd h (by simp)⟩
      | succ k => exact h4 k (by simpa using hk)
def bareB (f : Fv) : Bool := decide (f.c = 0) && decide (f.sp.length = 0) && decide (f.a = 0) && decide (f.d.length = 0) && decide (f.t = 0)
theorem bareB_iff {f : Fv} : bareB f = true ↔ f.c = 0 ∧ f.sp = [] ∧ f.a = 0 ∧ f.d = [] ∧ f.t = 0 := by
  simp [bareB, List.length_eq_zero_iff, and_assoc]
/-- May it be a frame? -/
def rightB (f : Fv) : Bool :=
  if f.k = 0 then decide (1 ≤ f.c ∧ f.c ≤ 1200) && bareB { f with c := 0 }
  else if f.k = 1 ∨ f.k = 30 then bareB f
  else if f.k = 2 then decide (ackP f.sp) && bareB { f with sp := [] }
  else if f.k = 6 then decide (0 ≤ f.a ∧ f.a ≤ 1048576 ∧ 1 ≤ f.d.length ∧ f.d.length ≤ 1000) && bareB { f with a := 0, d := [] }
  else if f.k = 7 then tmB f.t && bareB { f with t := 0 }
  else if f.k = 8 then (nmB f.c && tmB f.t) && bareB { f with c := 0, t := 0 }
  else if f.k = 28 then nmB f.c && bareB { f with c := 0 }
  else false
theorem right_iff (f : Fv) : rightB f = true ↔ rightF f := by
  obtain ⟨k, c, sp, a, d, t⟩ := f
  unfold rightB rightF
  simp only
  by_cases h0 : k = 0
  · subst h0; simp [bareB_iff, and_assoc]
  by_cases h1 : k = 1 ∨ k = 30
  · rw [if_neg h0, if_pos h1]
    rcases h1 with rfl | rfl <;> simp [bareB_iff, and_assoc]
  rw [if_neg h0, if_neg h1]
  by_cases h2 : k = 2
  · subst h2; simp [bareB_iff, ack_iff, and_assoc]
    constructor
    · rintro ⟨a, b, c, d, e⟩; exact ⟨b, a, c, d, e⟩
    · rintro ⟨a, b, c, d, e⟩; exact ⟨b, a, c, d, e⟩
  rw [if_neg h2]
  by_cases h6 : k = 6
  · subst h6; simp [bareB_iff, and_assoc]
    constructor
    · rintro ⟨a, b, c, d, e, f, g⟩; exact ⟨e, f, a, b, c, d, g⟩
    · rintro ⟨e, f, a, b, c, d, g⟩; exact ⟨a, b, c, d, e, f, g⟩
  rw [if_neg h6]
  by_cases h7 : k = 7
  · subst h7; simp [bareB_iff, tmB, and_assoc]
    constructor
    · rintro ⟨a, b, c, d, e, f⟩; exact ⟨c, d, e, f, a, b⟩
    · rintro ⟨c, d, e, f, a, b⟩; exact ⟨a, b, c, d, e, f⟩
  rw [if_neg h7]
  by_cases h8 : k = 8
  · subst h8; simp [bareB_iff, tmB, nmB_iff, and_assoc]
    intro _
    constructor
    · rintro ⟨a, b, d, e, f⟩; exact ⟨d, e, f, a, b⟩
    · rintro ⟨d, e, f, a, b⟩; exact ⟨a, b, d, e, f⟩
  rw [if_neg h8]
  by_cases h28 : k = 28
  · subst h28; simp [bareB_iff, nmB_iff, and_assoc]
  rw [if_neg h28]
  have h1' := not_or.1 h1
  simp [h0, h1'.1, h1'.2, h2, h6, h7, h8, h28]
theorem ack_yes {l : List Sp} (h : 1 ≤ l.length ∧ l.length ≤ 32) (h0 : nmB (l.getD 0 (0, 0)).2 = true) (hk : ∀ k, k < l.length → okAt l k) : decide (ackP l) = true := decide_eq_true ⟨h.1, h.2, h0, hk⟩
theorem ack_no {l : List Sp} (h : ¬ ackP l) : decide (ackP l) = false := decide_eq_false h
#print axioms right_iff
end Go.Proofs.YtgcgmgcgbnepeaaDoor
