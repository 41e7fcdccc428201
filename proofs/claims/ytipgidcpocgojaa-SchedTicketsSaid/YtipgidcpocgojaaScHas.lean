/- sched in plain words: which term a transcript, a secret, a mac is; unlike ones are unlike terms. -/
import Derived.Test.YtipgidcpocgojaaSc3
namespace Go.Proofs.Ytipgidcpocgojaa
open Go Go.RowKit

/-- c is the transcript of the messages ms, the last one first. -/
def IsTr (N : List Nd) : Int → List ByteArray → Prop
  | c, [] => Has N c (1, ByteArray.empty, [])
  | c, m :: ms => ∃ c' s r, IsTr N c' ms ∧ Has N s (1, m, []) ∧ Has N r (3, ByteArray.empty, [c', s]) ∧ Has N c (4, ByteArray.empty, [r])
theorem IsTr.ext {N : List Nd} {c : Int} {ms : List ByteArray} (h : IsTr N c ms) {M : List Nd} (hp : N <+: M) : IsTr M c ms := by
  induction ms generalizing c with
  | nil => exact Has.ext h hp
  | cons m ms ih =>
    obtain ⟨c', s, r, h1, h2, h3, h4⟩ := h
    exact ⟨c', s, r, ih h1, h2.ext hp, h3.ext hp, h4.ext hp⟩
theorem IsTr.rng {N : List Nd} {c : Int} {ms : List ByteArray} (h : IsTr N c ms) : 1 ≤ c ∧ c ≤ (N.length : Int) := by
  cases ms with
  | nil => exact ⟨Has.pos h, Has.le h⟩
  | cons m ms => obtain ⟨_, _, _, _, _, _, h4⟩ := h; exact ⟨h4.pos, h4.le⟩
theorem IsTr.inj {N : List Nd} {c : Int} {ms ms' : List ByteArray} (h : IsTr N c ms) (h' : IsTr N c ms') : ms = ms' := by
  induction ms generalizing c ms' with
  | nil =>
    cases ms' with
    | nil => rfl
    | cons m ms' =>
      obtain ⟨_, _, _, _, _, _, h4⟩ := h'
      have := Has.node h h4
      simp at this
  | cons m ms ih =>
    obtain ⟨c1, s1, r1, a1, a2, a3, a4⟩ := h
    cases ms' with
    | nil =>
      have := Has.node a4 h'
      simp at this
    | cons m' ms' =>
      obtain ⟨c2, s2, r2, b1, b2, b3, b4⟩ := h'
      have e1 := a4.node b4
      simp only [Prod.mk.injEq, List.cons.injEq, true_and, and_true] at e1
      subst e1
      have e2 := a3.node b3
      simp only [Prod.mk.injEq, List.cons.injEq, true_and, and_true] at e2
      obtain ⟨rfl, rfl⟩ := e2
      have e3 := a2.node b2
      simp only [Prod.mk.injEq, true_and, and_true] at e3
      rw [ih a1 b1, e3]
theorem IsTr.num {N : List Nd} {c c' : Int} {ms : List ByteArray} (h : IsTr N c ms) (h' : IsTr N c' ms) : c = c' := by
  induction ms generalizing c c' with
  | nil => exact Has.num h h'
  | cons m ms ih =>
    obtain ⟨c1, s1, r1, a1, a2, a3, a4⟩ := h
    obtain ⟨c2, s2, r2, b1, b2, b3, b4⟩ := h'
    obtain rfl := ih a1 b1
    obtain rfl := a2.num b2
    obtain rfl := a3.num b3
    exact a4.num b4
theorem IsTr.iff {N : List Nd} {c c' : Int} {ms ms' : List ByteArray} (h : IsTr N c ms) (h' : IsTr N c' ms') : c = c' ↔ ms = ms' :=
  ⟨fun e => by subst e; exact h.inj h', fun e => by subst e; exact h.num h'⟩

theorem fitsP {N : List Nd} {k : Int} {ps : List Int} (hk : k = 3 ∨ k = 5) (hl : ps.length = 2) (h : ∀ p ∈ ps, 1 ≤ p ∧ p ≤ (N.length : Int)) : fitsN N k ps = true := by
  obtain ⟨a, b, rfl⟩ : ∃ a b, ps = [a, b] := by
    match ps, hl with
    | [a, b], _ => exact ⟨a, b, rfl⟩
  have ha := h a (by simp)
  have hb := h b (by simp)
  have hask : askL k 2 = some [0, 0] := by rcases hk with rfl | rfl <;> rfl
  unfold fitsN
  simp only [List.length_cons, List.length_nil, Nat.zero_add, Nat.reduceAdd, hask]
  simp [List.range_succ, okN, ha, hb]
theorem fits4 {N : List Nd} {a : Int} (h : 1 ≤ a ∧ a ≤ (N.length : Int)) : fitsN N 4 [a] = true := by
  have hask : askL 4 1 = some [0] := rfl
  unfold fitsN
  simp only [List.length_cons, List.length_nil, Nat.zero_add, hask]
  simp [okN, h]
theorem pair_has {N : List Nd} (hN : GoodN N) {k a b : Int} (hk : k = 3 ∨ k = 5) (ha : 1 ≤ a ∧ a ≤ (N.length : Int)) (hb : 1 ≤ b ∧ b ≤ (N.length : Int)) :
    Has (makeN N k [a, b]).2 (makeN N k [a, b]).1 (k, ByteArray.empty, [a, b]) ∧ N <+: (makeN N k [a, b]).2 ∧ GoodN (makeN N k [a, b]).2 := by
  have hm : ∀ p ∈ [a, b], 1 ≤ p ∧ p ≤ (N.length : Int) := fun p hp => by
    simp only [List.mem_cons, List.not_mem_nil, or_false] at hp
    rcases hp with rfl | rfl
    · exact ha
    · exact hb
  exact make_has hN (by omega) (by omega) (fitsP hk rfl hm) fun p hp => (hm p hp).1
/-- A message more. -/
theorem next_has {N : List Nd} (hN : GoodN N) {c : Int} {ms : List ByteArray} (h : IsTr N c ms) (m : ByteArray) : IsTr (nextN N c m).2 (nextN N c m).1 (m :: ms) ∧ N <+: (nextN N c m).2 ∧ GoodN (nextN N c m).2 := by
  unfold nextN
  obtain ⟨a1, a2, a3⟩ := text_has hN m
  generalize textN N m = T at *
  have hT := a2.length_le
  have hr := h.rng
  obtain ⟨b1, b2, b3⟩ := pair_has a3 (k := 3) (.inl rfl) (a := c) (b := T.1) ⟨hr.1, by omega⟩ ⟨a1.pos, a1.le⟩
  generalize makeN T.2 3 [c, T.1] = U at *
  obtain ⟨d1, d2, d3⟩ := make_has b3 (k := 4) (ps := [U.1]) (by decide) (by decide) (fits4 ⟨b1.pos, b1.le⟩) (fun p hp => by rw [List.mem_singleton.1 hp]; exact b1.pos)
  exact ⟨⟨c, T.1, U.1, h.ext (a2.trans (b2.trans d2)), a1.ext (b2.trans d2), b1.ext d2, d1⟩, a2.trans (b2.trans d2), d3⟩

/-- c is derived of s by lab, with the context x. -/
def Der (M : List Nd) (c s : Int) (lab : ByteArray) (x : Int) : Prop := ∃ l, Has M l (1, lab, []) ∧ Has M c (6, ByteArray.empty, [s, l, x])
theorem Der.ext {N M : List Nd} {c s x : Int} {lab : ByteArray} (h : Der N c s lab x) (hp : N <+: M) : Der M c s lab x := by
  obtain ⟨l, h1, h2⟩ := h; exact ⟨l, h1.ext hp, h2.ext hp⟩
theorem Der.rng {N : List Nd} {c s x : Int} {lab : ByteArray} (h : Der N c s lab x) : 1 ≤ c ∧ c ≤ (N.length : Int) := by
  obtain ⟨l, h1, h2⟩ := h; exact ⟨h2.pos, h2.le⟩
theorem Der.iff {M : List Nd} {c d s s' x x' : Int} {lab lab' : ByteArray} (h : Der M c s lab x) (h' : Der M d s' lab' x') : c = d ↔ s = s' ∧ lab = lab' ∧ x = x' := by
  obtain ⟨l, h1, h2⟩ := h
  obtain ⟨l', h3, h4⟩ := h'
  constructor
  · intro e
    subst e
    have e1 := h2.node h4
    simp only [Prod.mk.injEq, List.cons.injEq, true_and, and_true] at e1
    obtain ⟨rfl, rfl, rfl⟩ := e1
    have e2 := h1.node h3
    simp only [Prod.mk.injEq, true_and, and_true] at e2
    exact ⟨rfl, e2, rfl⟩
  · rintro ⟨rfl, rfl, rfl⟩
    obtain rfl := h1.num h3
    exact h2.num h4
theorem derive_der {N : List Nd} (hN : GoodN N) {s x : Int} (hs : 1 ≤ s ∧ s ≤ (N.length : Int)) (hx : 1 ≤ x ∧ x ≤ (N.length : Int)) (l : ByteArray) : Der (deriveN N s l x).2 (deriveN N s l x).1 s l x ∧ N <+: (deriveN N s l x).2 ∧ GoodN (deriveN N s l x).2 := by
  obtain ⟨k, h1, h2, h3, h4⟩ := derive_has hN hs l hx
  exact ⟨⟨k, h1, h2⟩, h3, h4⟩
theorem at_der {N : List Nd} (hN : GoodN N) {s x : Int} (hs : 1 ≤ s ∧ s ≤ (N.length : Int)) (hx : 1 ≤ x ∧ x ≤ (N.length : Int)) (l : ByteArray) : Der (atN N l s x).2 (atN N l s x).1 s l x ∧ N <+: (atN N l s x).2 ∧ GoodN (atN N l s x).2 := by
  unfold atN
  rw [if_neg (by omega)]
  exact derive_der hN hs hx l
/-- With the empty text. -/
def Der0 (M : List Nd) (c s : Int) (lab : ByteArray) : Prop := ∃ e, Has M e (1, ByteArray.empty, []) ∧ Der M c s lab e
theorem Der0.ext {N M : List Nd} {c s : Int} {lab : ByteArray} (h : Der0 N c s lab) (hp : N <+: M) : Der0 M c s lab := by
  obtain ⟨l, h1, h2⟩ := h; exact ⟨l, h1.ext hp, h2.ext hp⟩
theorem Der0.rng {N : List Nd} {c s : Int} {lab : ByteArray} (h : Der0 N c s lab) : 1 ≤ c ∧ c ≤ (N.length : Int) := by
  obtain ⟨l, h1, h2⟩ := h; exact h2.rng
theorem Der0.iff {M : List Nd} {c d s s' : Int} {lab lab' : ByteArray} (h : Der0 M c s lab) (h' : Der0 M d s' lab') : c = d ↔ s = s' ∧ lab = lab' := by
  obtain ⟨e, h1, h2⟩ := h
  obtain ⟨e', h3, h4⟩ := h'
  obtain rfl := h1.num h3
  rw [h2.iff h4]
  simp
theorem derive_der0 {N : List Nd} (hN : GoodN N) {s : Int} (hs : 1 ≤ s ∧ s ≤ (N.length : Int)) (l : ByteArray) : Der0 (deriveN N s l 0).2 (deriveN N s l 0).1 s l ∧ N <+: (deriveN N s l 0).2 ∧ GoodN (deriveN N s l 0).2 := by
  obtain ⟨k, e, h1, h2, h3, h4, h5⟩ := derive0_has hN hs l
  exact ⟨⟨e, h1, k, h2, h3⟩, h4, h5⟩
/-- c is the mac of tr by the key that lab derives of s. -/
def IsMac (M : List Nd) (c s : Int) (lab : ByteArray) (tr : Int) : Prop := ∃ k, Der0 M k s lab ∧ Has M c (5, ByteArray.empty, [k, tr])
theorem IsMac.ext {N M : List Nd} {c s x : Int} {lab : ByteArray} (h : IsMac N c s lab x) (hp : N <+: M) : IsMac M c s lab x := by
  obtain ⟨l, h1, h2⟩ := h; exact ⟨l, h1.ext hp, h2.ext hp⟩
theorem IsMac.rng {N : List Nd} {c s x : Int} {lab : ByteArray} (h : IsMac N c s lab x) : 1 ≤ c ∧ c ≤ (N.length : Int) := by
  obtain ⟨l, h1, h2⟩ := h; exact ⟨h2.pos, h2.le⟩
theorem IsMac.iff {M : List Nd} {c d s s' x x' : Int} {lab lab' : ByteArray} (h : IsMac M c s lab x) (h' : IsMac M d s' lab' x') : c = d ↔ s = s' ∧ lab = lab' ∧ x = x' := by
  obtain ⟨l, h1, h2⟩ := h
  obtain ⟨l', h3, h4⟩ := h'
  constructor
  · intro e
    subst e
    have e1 := h2.node h4
    simp only [Prod.mk.injEq, List.cons.injEq, true_and, and_true] at e1
    obtain ⟨rfl, rfl⟩ := e1
    have := (h1.iff h3).1 rfl
    exact ⟨this.1, this.2, rfl⟩
  · rintro ⟨rfl, rfl, rfl⟩
    obtain rfl := (h1.iff h3).2 ⟨rfl, rfl⟩
    exact h2.num h4
theorem mac_has {N : List Nd} (hN : GoodN N) {s x : Int} (hs : 1 ≤ s ∧ s ≤ (N.length : Int)) (hx : 1 ≤ x ∧ x ≤ (N.length : Int)) (l : ByteArray) : IsMac (macN N l s x).2 (macN N l s x).1 s l x ∧ N <+: (macN N l s x).2 ∧ GoodN (macN N l s x).2 := by
  unfold macN
  obtain ⟨a1, a2, a3⟩ := derive_der0 hN hs l
  generalize deriveN N s l 0 = T at *
  have hT := a2.length_le
  obtain ⟨b1, b2, b3⟩ := pair_has a3 (k := 5) (.inr rfl) (a := T.1) (b := x) a1.rng ⟨hx.1, by omega⟩
  exact ⟨⟨T.1, a1.ext b2, b1⟩, a2.trans b2, b3⟩
theorem good_nil : GoodN [] := fun m hm => by cases hm
theorem good_secret {N : List Nd} (h : GoodN N) : GoodN (N ++ [secretNd]) := fun m hm p hp => by
  rcases List.mem_append.1 hm with hm | hm
  · exact h m hm p hp
  · rw [List.mem_singleton.1 hm] at hp; cases hp
#print axioms mac_has
end Go.Proofs.Ytipgidcpocgojaa
