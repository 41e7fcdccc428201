/- What Mint tells of a token that may be or not. -/
import Derived.Test.YtepkhhpdpmhfaaaDoorZKAwk
namespace Go.Proofs.YtepkhhpdpmhfaaaDoor.TokenUnlike
open Go Go.RowKit

theorem bk {v v' : World} {k : Nat} {o : Obj} (hb : Below v.heap.size v v') (h : v.heap[k]? = some o) : v'.heap[k]? = some o := (hb.block _ (blkLt h)).trans h
/-- Two tokens' boxes since X. -/
def Tw (X : World) (B : Nat) (l : Bool) (a t : Int) (v : Value) (l' : Bool) (a' t' : Int) (v' : Value) (w : World) : Prop :=
  X.heap[B]? = some (.cells #[.bool l, .int .i64 a, .int .i64 t, v] 24 (0, 0)) ∧ X.heap[B + 1]? = some (.cells #[.bool l', .int .i64 a', .int .i64 t', v'] 24 (0, 0)) ∧ Below X.heap.size X w
abbrev TwC (X : World) (B : Nat) (l : Bool) (a t : Int) (v : Value) (l' : Bool) (a' t' : Int) (v' : Value) (w : World) : Prop :=
  w.cell? ⟨B, 0, none⟩ = some (.bool l) ∧ w.cell? ⟨B, 1, none⟩ = some (.int .i64 a) ∧ w.cell? ⟨B, 2, none⟩ = some (.int .i64 t) ∧ w.cell? ⟨B, 3, none⟩ = some v ∧ w.cell? ⟨B + 1, 0, none⟩ = some (.bool l') ∧ w.cell? ⟨B + 1, 1, none⟩ = some (.int .i64 a') ∧ w.cell? ⟨B + 1, 2, none⟩ = some (.int .i64 t') ∧ w.cell? ⟨B + 1, 3, none⟩ = some v' ∧ Tw X B l a t v l' a' t' v' w
theorem Tw.c {X w : World} {B : Nat} {l l' : Bool} {a t a' t' : Int} {v v' : Value} (h : Tw X B l a t v l' a' t' v' w) : TwC X B l a t v l' a' t' v' w := by
  obtain ⟨m0, m1, m2, m3, _⟩ := cells4 (bk h.2.2 h.1)
  obtain ⟨n0, n1, n2, n3, _⟩ := cells4 (bk h.2.2 h.2.1)
  exact ⟨m0, m1, m2, m3, n0, n1, n2, n3, h⟩
theorem Tw.at {X w w' : World} {B : Nat} {l l' : Bool} {a t a' t' : Int} {v v' : Value} (h : Tw X B l a t v l' a' t' v' w) (hb : Below X.heap.size X w') : TwC X B l a t v l' a' t' v' w' := Tw.c ⟨h.1, h.2.1, hb⟩
theorem keepT {X w1 w2 : World} {B : Nat} {l l' : Bool} {a t a' t' : Int} {v v' : Value} (hb : Below w1.heap.size w1 w2) (h : TwC X B l a t v l' a' t' v' w1) : TwC X B l a t v l' a' t' v' w2 := h.2.2.2.2.2.2.2.2.at (h.2.2.2.2.2.2.2.2.2.2.trans (hb.mono h.2.2.2.2.2.2.2.2.2.2.size))
theorem tok_iff {M : List T.Nd} {c d k : Int} {b b' : ByteArray} (h : T.IsTok M c k b) (h' : T.IsTok M d k b') : c = d ↔ b = b' := by
  obtain ⟨x, h1, h2⟩ := h
  obtain ⟨y, h3, h4⟩ := h'
  rw [h2.iff h4]
  constructor
  · rintro ⟨_, _, rfl⟩
    have := h1.node h3
    simp only [Prod.mk.injEq, true_and, and_true] at this
    exact this
  · rintro rfl
    exact ⟨rfl, rfl, h1.num h3⟩
/-- What Mint tells of a token that may be or not. -/
def Mt (X w' : World) (tb mb n : Nat) (N : List T.Nd) (e : Ending) (k a t : Int) (l : Bool) (nm : List Int) : Prop :=
  ∃ N' c, e = .returned (.int .i64 c) ∧ T.Gd X w' tb mb N' n [] ∧ N <+: N' ∧ (c = 0 ∨ c ≠ 0 ∧ tokOk a t nm.length = true ∧ T.IsTok N' c k (T.bstr (tokB l a t nm)))
theorem mint_any {X w : World} {tb mb n : Nat} {N : List T.Nd} (h : T.Gd X w tb mb N n []) {k a t : Int} {l : Bool} {ao : Option Addr} {cap : Nat} {nm : List Int} (hk : 1 ≤ k ∧ k ≤ (N.length : Int)) (hr : Rd w (.slice ao nm.length cap) nm) (ht : Tab X) (hw : 1 < X.heap.size) (hn : n ≤ 50000) :
    Calls Tryd.prog 7 #[.pointer (some ⟨tb, 0, none⟩), .int .i64 k, .agg #[.bool l, .int .i64 a, .int .i64 t, .slice ao nm.length cap]] w fun e w' => Mt X w' tb mb (n + 3) N e k a t l nm := by
  cases hok : tokOk a t nm.length with
  | false => exact (mint_no h hok).mono fun e w' ⟨he, g, _⟩ => ⟨N, 0, he, ⟨g.st, g.good, by have := g.len; omega⟩, List.prefix_refl _, .inl rfl⟩
  | true =>
    refine (mint_yes h hok hk hr ht hw hn).mono fun e w' ⟨N', c, he, g, p, f⟩ => ⟨N', c, he, g, p, .inr ⟨?_, hok, f⟩⟩
    obtain ⟨x, _, hx⟩ := f
    have := hx.rng
    omega
end Go.Proofs.YtepkhhpdpmhfaaaDoor.TokenUnlike
