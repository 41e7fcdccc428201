/- SchedUnlike's walk. -/
import Derived.Test.YtipgidcpocgojaaScHas
import Derived.Test.YtipgidcpocgojaaRlIn
namespace Go.Proofs.Ytipgidcpocgojaa
open Go Go.RowKit

theorem below_drewN (w : World) : ∀ n, Below w.heap.size w (w.drewN n)
  | 0 => Below.refl _ _
  | n + 1 => (below_drewN w n).drew
/-- The first j messages, the last one first. -/
def msOf (qs : List (Value × List Int)) (j : Nat) : List ByteArray := ((qs.take j).map fun q => bstr q.2).reverse
theorem msOf_succ {qs : List (Value × List Int)} {j : Nat} {q : Value × List Int} (h : qs[j]? = some q) : msOf qs (j + 1) = bstr q.2 :: msOf qs j := by
  unfold msOf
  rw [List.take_add_one, h]
  simp
/-- The table and the transcript behind j messages. -/
structure Trs (w wr : World) (tb mb : Nat) (N : List Nd) (n : Nat) (x : Int) (ms : List ByteArray) : Prop where
  st : St w wr tb mb N []
  good : GoodN N
  len : N.length ≤ n
  tr : IsTr N x ms
set_option maxRecDepth 20000 in
theorem Trs.next {w wr : World} {tb mb n : Nat} {N : List Nd} {x : Int} {ms : List ByteArray} (h : Trs w wr tb mb N n x ms) {vb : Value} {zb : List Int} (hb : Rd .u8 w vb zb) (hl : zb.length ≤ 2048) (hn : n ≤ 60000) :
    Calls Try.prog 11 #[.pointer (some ⟨tb, 0, none⟩), .int .i64 x, vb] wr fun e w' => ∃ N' x', e = .returned (.int .i64 x') ∧ Trs w w' tb mb N' (n + 3) x' (bstr zb :: ms) ∧ N <+: N' := by
  have hlen := nextN_len N x (bstr zb)
  have := h.len
  obtain ⟨h1, h2, h3⟩ := next_has h.good h.tr (bstr zb)
  refine (h.st.nextS x (hb.below h.st.bel) hl (by omega)).mono fun e w' ⟨he, hs⟩ => ⟨_, _, he, ⟨hs, h3, by omega, h1⟩, h2⟩
/-- Are they alike so far? -/
def alk (qa qb : List (Value × List Int)) (j : Nat) : Bool := decide (qa.length = qb.length ∧ msOf qa j = msOf qb j)
theorem alk_no {qa qb : List (Value × List Int)} {j : Nat} {q : Value × List Int} (hj : qa[j]? = some q) (h : alk qa qb j = false) : alk qa qb (j + 1) = false := by
  unfold alk at *
  rw [decide_eq_false_iff_not] at h ⊢
  rintro ⟨h1, h2⟩
  have hlt := (List.getElem?_eq_some_iff.1 hj).1
  obtain ⟨q', hj'⟩ : ∃ q', qb[j]? = some q' := ⟨_, List.getElem?_eq_getElem (by omega)⟩
  rw [msOf_succ hj, msOf_succ hj'] at h2
  exact h ⟨h1, (List.cons.inj h2).2⟩
theorem alk_yes {qa qb : List (Value × List Int)} {j : Nat} {q q' : Value × List Int} (hj : qa[j]? = some q) (hj' : qb[j]? = some q') (h : alk qa qb j = true) : alk qa qb (j + 1) = ((bstr q.2).toList == (bstr q'.2).toList) := by
  unfold alk at *
  rw [decide_eq_true_eq] at h
  rw [msOf_succ hj, msOf_succ hj']
  by_cases e : bstr q.2 = bstr q'.2
  · rw [e]; simp [h.1, h.2]
  · have := str_ne e
    rw [Bool.not_eq_true'] at this
    rw [this, decide_eq_false_iff_not]
    rintro ⟨_, h2⟩
    exact e (List.cons.inj h2).1
theorem alk_end {qa qb : List (Value × List Int)} : alk qa qb qa.length = decide (msOf qa qa.length = msOf qb qb.length) := by
  unfold alk
  by_cases h : msOf qa qa.length = msOf qb qb.length
  · have hl := congrArg List.length h
    simp [msOf] at hl
    rw [← hl] at h
    simp [hl]
  · rw [decide_eq_false h, decide_eq_false_iff_not]
    rintro ⟨h1, h2⟩
    rw [h1] at h2
    exact h (by rw [h1]; exact h2)

/-- The last part: what is compared. -/
theorem un_end {N : List Nd} (hN : GoodN N) {x y : Int} {A B : List ByteArray} (hx : IsTr N x A) (hy : IsTr N y B) {m : Int} (hm : 1 ≤ m ∧ m ≤ (N.length : Int))
    {C S D R F G : Int × List Nd} (eC : C = atN N lClientApp m x) (eS : S = atN C.2 lServerApp m x) (eD : D = atN S.2 lClientApp m y) (eR : R = atN D.2 lServerApp m y) (eF : F = macN R.2 lFinished C.1 x) (eG : G = macN F.2 lFinished D.1 y) :
    ((x == y) = decide (A = B)) ∧ ((C.1 == D.1) = decide (A = B)) ∧ ((S.1 == R.1) = decide (A = B)) ∧ ((C.1 != S.1) = true) ∧ ((F.1 == G.1) = decide (A = B)) := by
  have key : ∀ {p q : Int} {P : Prop} [Decidable P], (p = q ↔ P) → (p == q) = decide P := fun {p q P} _ h => by
    by_cases hp : P
    · rw [decide_eq_true hp, h.2 hp]; simp
    · rw [decide_eq_false hp, beq_eq_false_iff_ne]; exact fun e => hp (h.1 e)
  have hxy := hx.iff hy
  obtain ⟨c1, c2, c3⟩ := at_der hN hm hx.rng lClientApp
  rw [← eC] at c1 c2 c3
  have l1 := c2.length_le
  have hx1 := hx.ext c2
  obtain ⟨s1, s2, s3⟩ := at_der c3 (s := m) (x := x) ⟨hm.1, by omega⟩ hx1.rng lServerApp
  rw [← eS] at s1 s2 s3
  have l2 := s2.length_le
  have hy2 := hy.ext (c2.trans s2)
  obtain ⟨d1, d2, d3⟩ := at_der s3 (s := m) (x := y) ⟨hm.1, by omega⟩ hy2.rng lClientApp
  rw [← eD] at d1 d2 d3
  have l3 := d2.length_le
  obtain ⟨r1, r2, r3⟩ := at_der d3 (s := m) (x := y) ⟨hm.1, by omega⟩ (hy2.ext d2).rng lServerApp
  rw [← eR] at r1 r2 r3
  have C4 := c1.ext (s2.trans (d2.trans r2))
  have S4 := s1.ext (d2.trans r2)
  have D4 := d1.ext r2
  have hx4 := hx1.ext (s2.trans (d2.trans r2))
  have hy4 := hy2.ext (d2.trans r2)
  obtain ⟨f1, f2, f3⟩ := mac_has r3 C4.rng hx4.rng lFinished
  rw [← eF] at f1 f2 f3
  obtain ⟨g1, g2, g3⟩ := mac_has f3 (D4.ext f2).rng (hy4.ext f2).rng lFinished
  rw [← eG] at g1 g2 g3
  have hCD : C.1 = D.1 ↔ A = B := by rw [C4.iff D4, ← hxy]; simp
  refine ⟨key hxy, key hCD, key ?_, ?_, key ?_⟩
  · rw [S4.iff r1, ← hxy]; simp
  · rw [bne_iff_ne]
    intro e
    have := ((C4.iff S4).1 e).2.1
    exact absurd this (by decide)
  · rw [(f1.ext g2).iff g1, hCD, ← hxy]; simp
#print axioms un_end
end Go.Proofs.Ytipgidcpocgojaa
