/- Windows, as lists of what was marked, and as a number and 64 bits: both tell the same. -/
import Derived.Test.YthlmodhglldajaaProg
namespace Go.Proofs.Ythlmodhglldajaa

/-- The greatest of a list; -1 without. -/
def gr (L : List Int) : Int := L.foldl max (-1)
theorem foldl_max (L : List Int) : ∀ a : Int, L.foldl max a = max a (L.foldl max (-1)) ∨ a < -1 := by
  induction L with
  | nil => intro a; simp; omega
  | cons x r ih =>
    intro a
    simp only [List.foldl_cons]
    rcases ih (max a x) with h1 | h1
    · rcases ih (max (-1) x) with h2 | h2
      · rw [h1, h2]; omega
      · omega
    · omega
theorem gr_app (L : List Int) (n : Int) : gr (L ++ [n]) = max (gr L) n := by unfold gr; rw [List.foldl_append]; rfl
theorem gr_low (L : List Int) : -1 ≤ gr L := by
  have h : ∀ (L : List Int) (a : Int), a ≤ L.foldl max a := by
    intro L
    induction L with
    | nil => intro a; simp
    | cons x r ih => intro a; simp only [List.foldl_cons]; have := ih (max a x); omega
  exact h L (-1)
theorem gr_mem {L : List Int} {x : Int} (h : x ∈ L) : x ≤ gr L := by
  have hl : ∀ (L : List Int) (a : Int), a ≤ L.foldl max a := by
    intro L
    induction L with
    | nil => intro a; simp
    | cons x r ih => intro a; simp only [List.foldl_cons]; have := ih (max a x); omega
  have key : ∀ (L : List Int) (a : Int), x ∈ L → x ≤ L.foldl max a := by
    intro L
    induction L with
    | nil => intro a h; simp at h
    | cons y r ih =>
      intro a h
      simp only [List.foldl_cons]
      rcases List.mem_cons.1 h with rfl | h
      · have := hl r (max a x); omega
      · exact ih _ h
  exact key L _ h
/-- Is a number fresh? -/
def frB (L : List Int) (n : Int) : Bool := decide (0 ≤ n ∧ n ≤ 4611686018427387903 ∧ gr L - 64 < n) && !(L.contains n)
/-- What is marked, behind one more. -/
def mk (L : List Int) (n : Int) : List Int := if frB L n then L ++ [n] else L
theorem frB_iff (L : List Int) (n : Int) : frB L n = true ↔ 0 ≤ n ∧ n ≤ 4611686018427387903 ∧ gr L - 64 < n ∧ n ∉ L := by
  unfold frB; simp; exact ⟨fun ⟨⟨a, b, c⟩, d⟩ => ⟨a, b, c, d⟩, fun ⟨a, b, c, d⟩ => ⟨⟨a, b, c⟩, d⟩⟩
theorem mk_yes {L : List Int} {n : Int} (h : frB L n = true) : mk L n = L ++ [n] := if_pos h
theorem mk_no {L : List Int} {n : Int} (h : frB L n = false) : mk L n = L := by unfold mk; rw [h]; rfl
/-- All marked numbers may be. -/
def Ok (L : List Int) : Prop := ∀ x ∈ L, 0 ≤ x ∧ x ≤ 4611686018427387903
theorem Ok.nil : Ok [] := fun x h => by cases h
theorem Ok.mk {L : List Int} (h : Ok L) (n : Int) : Ok (mk L n) := by
  unfold Go.Proofs.Ythlmodhglldajaa.mk
  split
  · rename_i hf
    have := (frB_iff L n).1 hf
    intro x hx
    rcases List.mem_append.1 hx with hx | hx
    · exact h x hx
    · rw [List.mem_singleton.1 hx]; omega
  · exact h
theorem Ok.gr {L : List Int} (h : Ok L) : -1 ≤ gr L ∧ gr L ≤ 4611686018427387903 := by
  refine ⟨gr_low L, ?_⟩
  have key : ∀ (L : List Int) (a : Int), a ≤ 4611686018427387903 → (∀ x ∈ L, x ≤ 4611686018427387903) → L.foldl max a ≤ 4611686018427387903 := by
    intro L
    induction L with
    | nil => intro a h _; simpa using h
    | cons y r ih =>
      intro a h1 h2
      simp only [List.foldl_cons]
      exact ih _ (by have := h2 y (by simp); omega) (fun x hx => h2 x (by simp [hx]))
  exact key L _ (by omega) (fun x hx => (h x hx).2)
/-- The bits tell of the 64 up to the greatest. -/
def Bits (m : Nat) (L : List Int) : Prop := m < 18446744073709551616 ∧ ∀ k : Nat, k < 64 → m.testBit k = L.contains (gr L - k)
theorem Bits.nil : Bits 0 [] := by
  refine ⟨by decide, fun k hk => ?_⟩
  simp
/-- What the program reckons for a number behind: the bit. -/
theorem bit_at (m k : Nat) : (m / 2 ^ k) &&& 1 = if m.testBit k then 1 else 0 := by
  rw [Nat.testBit_eq_decide_div_mod_eq, Nat.and_one_is_mod]
  have : m / 2 ^ k % 2 = 0 ∨ m / 2 ^ k % 2 = 1 := by omega
  rcases this with h | h <;> simp [h]
/-- A number that is not above all: fresh just if it is within 64, and its bit is none. -/
theorem frB_back {m : Nat} {L : List Int} (hb : Bits m L) {n : Int} {k : Nat} (h0 : 0 ≤ n) (h1 : n ≤ 4611686018427387903) (hk : gr L - n = k) : frB L n = (decide (k < 64) && !m.testBit k) := by
  rw [Bool.eq_iff_iff, frB_iff]
  by_cases h : k < 64
  · rw [hb.2 k h, show gr L - (k : Int) = n by omega]
    constructor
    · rintro ⟨_, _, _, hm⟩; simp [h, hm]
    · intro hh; simp [h] at hh; exact ⟨h0, h1, by omega, hh⟩
  · simp [h]; omega
/-- A number above all is fresh. -/
theorem frB_above {L : List Int} {n : Int} (h0 : 0 ≤ n) (h1 : n ≤ 4611686018427387903) (hk : gr L < n) : frB L n = true := by
  rw [frB_iff]
  exact ⟨h0, h1, by omega, fun h => by have := gr_mem h; omega⟩
theorem frB_none {L : List Int} {n : Int} (h : n < 0 ∨ 4611686018427387903 < n) : frB L n = false := by
  rw [Bool.eq_false_iff]; intro h1; rw [frB_iff] at h1; omega
/-- The bits behind a mark that is not above all. -/
theorem Bits.low {m : Nat} {L : List Int} (hb : Bits m L) {n : Int} {k : Nat} (hk : k < 64) (hn : gr L - n = k) : Bits (m ||| 2 ^ k) (L ++ [n]) := by
  have h2 : 2 ^ k < 18446744073709551616 := by
    have := Nat.pow_lt_pow_of_lt (a := 2) (by decide) hk
    simpa using this
  refine ⟨Nat.or_lt_two_pow (n := 64) hb.1 h2, fun j hj => ?_⟩
  have hg : gr (L ++ [n]) = gr L := by rw [gr_app]; omega
  rw [Nat.testBit_or, hb.2 j hj, hg, Nat.testBit_two_pow]
  rw [Bool.eq_iff_iff]
  simp
  constructor
  · rintro (h | h)
    · exact Or.inl h
    · exact Or.inr (by omega)
  · rintro (h | h)
    · exact Or.inl h
    · exact Or.inr (by omega)
/-- The bits behind a mark above all: those ahead are moved. -/
theorem Bits.high {m : Nat} {L : List Int} (hb : Bits m L) {n : Int} {a : Nat} (ha : 0 < a) (hn : n - gr L = a) : Bits ((m * 2 ^ min a 64) % 18446744073709551616 ||| 1) (L ++ [n]) := by
  refine ⟨Nat.or_lt_two_pow (n := 64) (Nat.mod_lt _ (by decide)) (by decide), fun j hj => ?_⟩
  have hg : gr (L ++ [n]) = n := by rw [gr_app]; omega
  rw [Nat.testBit_or, hg]
  have e1 : (1 : Nat).testBit j = decide (j = 0) := by
    have := Nat.testBit_two_pow (n := 0) (m := j)
    simp only [Nat.pow_zero] at this
    rw [this]; exact decide_eq_decide.2 (by omega)
  rw [e1, show (18446744073709551616 : Nat) = 2 ^ 64 from rfl, Nat.testBit_mod_two_pow, ← Nat.shiftLeft_eq, Nat.testBit_shiftLeft]
  rw [Bool.eq_iff_iff]
  by_cases h : min a 64 ≤ j
  · have h3 : min a 64 = a := by omega
    rw [h3] at h ⊢
    have h4 := hb.2 (j - a) (by omega)
    have h5 : gr L - ((j - a : Nat) : Int) = n - j := by omega
    rw [h5] at h4
    simp [h4, hj, h]
    constructor
    · rintro (h | h)
      · exact Or.inl h
      · exact Or.inr (by omega)
    · rintro (h | h)
      · exact Or.inl h
      · exact Or.inr (by omega)
  · have h3 : ¬ (n - (j : Int)) ∈ L := fun hm => by have := gr_mem hm; omega
    simp [h, h3]
    omega
end Go.Proofs.Ythlmodhglldajaa
