/- The document's way to find what follows, in plain words: rows of bools that grow till nothing more comes. -/
import Derived.Test.YtinncmljffcobaaZKBl
namespace Go.Proofs.Ytinncmljffcobaa
open Go Go.RowKit

/-- Texts have no parts. -/
def Txt (N : List Nd) : Prop := ∀ m ∈ N, m.1 = 1 → m.2.2 = []
theorem Txt.nil : Txt [] := fun m h => by cases h
theorem Txt.put {N : List Nd} (h : Txt N) {n : Nd} (hn : n.1 = 1 → n.2.2 = []) : Txt (putN N n).2 := by
  cases hc : idxN 1 N n with
  | some c => rw [putN_old hc]; exact h
  | none =>
    rw [putN_new hc]
    intro m hm h1
    rcases List.mem_append.1 hm with e | e
    · exact h m e h1
    · rw [List.mem_singleton] at e; subst e; exact hn h1
theorem fits1 {N : List Nd} {k : Int} {ps : List Int} (hf : fitsN N k ps = true) : k ≠ 1 := by
  intro e
  subst e
  unfold fitsN at hf
  have : askL 1 ps.length = none := rfl
  rw [this] at hf
  cases hf
theorem Txt.do {N : List Nd} (h : Txt N) (k : Int) (t : ByteArray) (xs : List Int) : Txt (kdoN N k t xs) := by
  unfold kdoN
  split
  · exact h.put fun _ => rfl
  · split
    · exact h.put fun e => absurd (show (2 : Int) = 1 from e) (by decide)
    · unfold makeN
      split
      · rename_i hf
        exact h.put fun e => absurd e (fits1 hf)
      · exact h
theorem Txt.parts {N : List Nd} (h : Txt N) {x : Int} (h1 : kindN N x = 1) : partsN N x = [] := by
  have hin := kind_in (x := x) (by rw [h1]; decide)
  obtain ⟨q, n, rfl, hq, hk, hp⟩ := nds_at hin.1 hin.2
  rw [hp]
  exact h n (List.mem_of_getElem? hq) (by rw [← hk]; exact h1)

def SideP (N : List Nd) (f c : Nat → Bool) (a b : Int) : Prop := c a.toNat = true ∧ (c b.toNat = true ∨ ∃ q, kindN N q = 7 ∧ partsN N q = [b] ∧ f q.toNat = true)
/-- A term can be made, by what follows (f) and what can be made (c). -/
def Mk (N : List Nd) (f c : Nat → Bool) (x : Int) : Prop :=
  f x.toNat = true ∨ kindN N x = 1 ∨ (kindN N x ≠ 2 ∧ kindN N x ≠ 8 ∧ ∀ y ∈ partsN N x, c y.toNat = true) ∨
    (kindN N x = 8 ∧ (SideP N f c ((partsN N x).getD 0 0) ((partsN N x).getD 1 0) ∨ SideP N f c ((partsN N x).getD 1 0) ((partsN N x).getD 0 0)))
/-- What a term that follows opens at place i. -/
def Op (N : List Nd) (c : Nat → Bool) (x : Int) (i : Nat) : Prop := kindN N x = 3 ∨ (kindN N x = 9 ∧ i = 1) ∨ (kindN N x = 10 ∧ i = 2 ∧ c ((partsN N x).getD 0 0).toNat = true)
/-- The rows are right as far as they go. -/
structure Rt (N : List Nd) (Bs : Int → Prop) (f c : Nat → Bool) : Prop where
  f : ∀ y : Nat, f y = true → Der N Bs true (y : Int)
  c : ∀ y : Nat, c y = true → Der N Bs false (y : Int)
theorem Rt.fi {N : List Nd} {Bs : Int → Prop} {f c : Nat → Bool} (h : Rt N Bs f c) {x : Int} (h0 : 0 ≤ x) (hx : f x.toNat = true) : Der N Bs true x := by
  have := h.f _ hx; rwa [Int.toNat_of_nonneg h0] at this
theorem Rt.ci {N : List Nd} {Bs : Int → Prop} {f c : Nat → Bool} (h : Rt N Bs f c) {x : Int} (h0 : 0 ≤ x) (hx : c x.toNat = true) : Der N Bs false x := by
  have := h.c _ hx; rwa [Int.toNat_of_nonneg h0] at this
theorem Mk.sound {N : List Nd} (hN : Wf N) (ht : Txt N) {Bs : Int → Prop} {f c : Nat → Bool} (r : Rt N Bs f c) {x : Int} (h1 : 1 ≤ x) (h2 : x ≤ (N.length : Int)) (m : Mk N f c x) : Der N Bs false x := by
  have low := hN.low x h1 h2
  rcases m with m | m | ⟨k2, k8, m⟩ | ⟨k8, m⟩
  · exact .fo (r.fi (by omega) m)
  · exact .made h1 h2 (by rw [m]; decide) (by rw [m]; decide) fun y hy => by rw [ht.parts m] at hy; cases hy
  · exact .made h1 h2 k2 k8 fun y hy => r.ci (by have := low y hy; omega) (m y hy)
  · have ht2 := hN.two x k8
    have m0 : (partsN N x).getD 0 0 ∈ partsN N x := getD_mem (by omega)
    have m1 : (partsN N x).getD 1 0 ∈ partsN N x := getD_mem (by omega)
    have p0 := low _ m0
    have p1 := low _ m1
    have s0 := ht2.2 _ m0
    have s1 := ht2.2 _ m1
    rcases m with ⟨ma, mb⟩ | ⟨ma, mb⟩
    · have da := der_secret (r.ci (by omega) ma) s0
      rcases mb with mb | ⟨q, k7, hp, hq⟩
      · exact .both k8 da (der_secret (r.ci (by omega) mb) s1)
      · exact .left k8 da (r.fi (by have := kind_in (x := q) (by rw [k7]; decide); omega) hq) k7 hp
    · have da := der_secret (r.ci (by omega) ma) s1
      rcases mb with mb | ⟨q, k7, hp, hq⟩
      · exact .both k8 (der_secret (r.ci (by omega) mb) s0) da
      · exact .right k8 da (r.fi (by have := kind_in (x := q) (by rw [k7]; decide); omega) hq) k7 hp
theorem Op.sound {N : List Nd} (hN : Wf N) {Bs : Int → Prop} {f c : Nat → Bool} (r : Rt N Bs f c) {x : Int} (h1 : 1 ≤ x) (h2 : x ≤ (N.length : Int)) (hx : f x.toNat = true) {i : Nat} (hi : i < (partsN N x).length) (o : Op N c x i) : Der N Bs true ((partsN N x).getD i 0) := by
  have d := r.fi (by omega) hx
  have low := hN.low x h1 h2
  rcases o with k | ⟨k, rfl⟩ | ⟨k, rfl, hc⟩
  · exact .row d k (getD_mem hi)
  · exact .signed d k
  · exact .sealed d k (r.ci (by have := low _ (getD_mem (j := 0) (show 0 < (partsN N x).length by omega)); omega) hc)
/-- Nothing more comes of a term. -/
def Cl (N : List Nd) (f c : Nat → Bool) (x : Int) : Prop := (Mk N f c x → c x.toNat = true) ∧ (f x.toNat = true → ∀ i, i < (partsN N x).length → Op N c x i → f ((partsN N x).getD i 0).toNat = true)
theorem Cl.all {N : List Nd} (hN : Wf N) {Bs : Int → Prop} {f c : Nat → Bool} (h : ∀ x, 1 ≤ x → x ≤ (N.length : Int) → Cl N f c x) (hB : ∀ x, Bs x → 1 ≤ x → x ≤ (N.length : Int) → f x.toNat = true) {b : Bool} {x : Int} (d : Der N Bs b x) : (b = true → f x.toNat = true) ∧ c x.toNat = true := by
  have both : ∀ {x : Int}, 1 ≤ x ∧ x ≤ (N.length : Int) → f x.toNat = true → (true = true → f x.toNat = true) ∧ c x.toNat = true := fun hx hf => ⟨fun _ => hf, (h _ hx.1 hx.2).1 (.inl hf)⟩
  have mkd : ∀ {x : Int}, 1 ≤ x ∧ x ≤ (N.length : Int) → Mk N f c x → (false = true → f x.toNat = true) ∧ c x.toNat = true := fun hx m => ⟨fun e => (by cases e), (h _ hx.1 hx.2).1 m⟩
  induction d with
  | base h1 h2 h3 => exact both ⟨h2, h3⟩ (hB _ h1 h2 h3)
  | @row y z d k hx ih =>
    have hy := der_in hN d
    obtain ⟨i, hi, e⟩ := mem_at hx
    have := (h _ hy.1 hy.2).2 (ih.1 rfl) i hi (.inl k)
    rw [e] at this
    exact both (der_in hN (.row d k hx)) this
  | @signed y d k ih =>
    have hy := der_in hN d
    exact both (der_in hN (.signed d k)) ((h _ hy.1 hy.2).2 (ih.1 rfl) 1 (by rw [hN.sig _ k]; decide) (.inr (.inl ⟨k, rfl⟩)))
  | @sealed y d k d2 ih ih2 =>
    have hy := der_in hN d
    exact both (der_in hN (.sealed d k d2)) ((h _ hy.1 hy.2).2 (ih.1 rfl) 2 (by rw [hN.sea _ k]; decide) (.inr (.inr ⟨k, rfl, ih2.2⟩)))
  | fo d ih => exact ⟨fun e => (by cases e), ih.2⟩
  | made h1 h2 h3 h4 hp ih => exact mkd ⟨h1, h2⟩ (.inr (.inr (.inl ⟨h3, h4, fun y hy => (ih y hy).2⟩)))
  | both k d1 d2 i1 i2 => exact mkd (kind_in (by rw [k]; decide)) (.inr (.inr (.inr ⟨k, .inl ⟨i1.2, .inl i2.2⟩⟩)))
  | left k d1 d2 k7 hp i1 i2 => exact mkd (kind_in (by rw [k]; decide)) (.inr (.inr (.inr ⟨k, .inl ⟨i1.2, .inr ⟨_, k7, hp, i2.1 rfl⟩⟩⟩)))
  | right k d1 d2 k7 hp i1 i2 => exact mkd (kind_in (by rw [k]; decide)) (.inr (.inr (.inr ⟨k, .inr ⟨i1.2, .inr ⟨_, k7, hp, i2.1 rfl⟩⟩⟩)))
/-- How many are false. -/
def cntB : Nat → (Nat → Bool) → Nat
  | 0, _ => 0
  | n + 1, f => cntB n f + (if f n = true then 0 else 1)
theorem cntB_far (n : Nat) (f : Nat → Bool) {j : Nat} (h : n ≤ j) (b : Bool) : cntB n (upB f j b) = cntB n f := by
  induction n with
  | zero => rfl
  | succ n ih => unfold cntB; rw [ih (by omega), upB_other f b (by omega)]
theorem cntB_up {n : Nat} {f : Nat → Bool} {j : Nat} (hj : j < n) (hf : f j = false) : cntB n (upB f j true) + 1 = cntB n f := by
  induction n with
  | zero => omega
  | succ n ih =>
    unfold cntB
    by_cases e : j = n
    · subst e
      rw [cntB_far _ _ (Nat.le_refl _), upB_same, hf]
      simp
    · rw [upB_other f true (Ne.symm e)]
      have := ih (by omega)
      omega
#print axioms Cl.all
#print axioms Mk.sound
#print axioms cntB_up
end Go.Proofs.Ytinncmljffcobaa
