/- special's tags as plain functions of the table's nodes. -/
import Derived.Test.YtkmjdpnbakcgcaaTSgB
namespace Go.Proofs.Ytkmjdpnbakcgcaa.T
open Go Go.RowKit

/-- The text retry. -/
abbrev lRetry : ByteArray := ⟨#[114, 101, 116, 114, 121]⟩
/-- c is the tag of the goal g and the bytes b. -/
def IsTag (M : List Nd) (c : Int) (g b : ByteArray) : Prop := ∃ k f s r, Has M k (1, lRetry, []) ∧ Has M f (1, g, []) ∧ Has M s (1, b, []) ∧ Has M r (3, ByteArray.empty, [f, s]) ∧ Has M c (5, ByteArray.empty, [k, r])
theorem IsTag.ext {N M : List Nd} {c : Int} {g b : ByteArray} (h : IsTag N c g b) (hp : N <+: M) : IsTag M c g b := by
  obtain ⟨k, f, s, r, h1, h2, h3, h4, h5⟩ := h
  exact ⟨k, f, s, r, h1.ext hp, h2.ext hp, h3.ext hp, h4.ext hp, h5.ext hp⟩
theorem IsTag.rng {N : List Nd} {c : Int} {g b : ByteArray} (h : IsTag N c g b) : 1 ≤ c ∧ c ≤ (N.length : Int) := by
  obtain ⟨k, f, s, r, h1, h2, h3, h4, h5⟩ := h
  exact ⟨h5.pos, h5.le⟩
theorem IsTag.iff {M : List Nd} {c d : Int} {g b g' b' : ByteArray} (h : IsTag M c g b) (h' : IsTag M d g' b') : c = d ↔ g = g' ∧ b = b' := by
  obtain ⟨k, f, s, r, h1, h2, h3, h4, h5⟩ := h
  obtain ⟨k', f', s', r', i1, i2, i3, i4, i5⟩ := h'
  constructor
  · intro e
    subst e
    have e1 := h5.node i5
    simp only [Prod.mk.injEq, List.cons.injEq, true_and, and_true] at e1
    obtain ⟨rfl, rfl⟩ := e1
    have e2 := h4.node i4
    simp only [Prod.mk.injEq, List.cons.injEq, true_and, and_true] at e2
    obtain ⟨rfl, rfl⟩ := e2
    have e3 := h2.node i2
    have e4 := h3.node i3
    simp only [Prod.mk.injEq, true_and, and_true] at e3 e4
    exact ⟨e3, e4⟩
  · rintro ⟨rfl, rfl⟩
    obtain rfl := h1.num i1
    obtain rfl := h2.num i2
    obtain rfl := h3.num i3
    obtain rfl := h4.num i4
    exact h5.num i5
/-- A table of at most n nodes, beside guests. -/
structure Gd (w0 w : World) (tb mb : Nat) (N : List Nd) (n : Nat) (rs : List (Nat × Obj)) : Prop where
  st : Sg w0 w tb mb N rs
  good : GoodN N
  len : N.length ≤ n
variable {w0 w : World} {tb mb n : Nat} {N : List Nd} {rs : List (Nat × Obj)}
theorem Gd.keep (h : Gd w0 w tb mb N n rs) {w' : World} (hb : Below w.heap.size w w') : Gd w0 w' tb mb N n rs := ⟨h.st.keep hb, h.good, h.len⟩
/-- What a call that tells a term leaves. -/
def Tells (w0 w' : World) (tb mb n : Nat) (N : List Nd) (rs : List (Nat × Obj)) (e : Ending) (K : List Nd → Int → Prop) : Prop := ∃ N' c, e = .returned (.int .i64 c) ∧ Gd w0 w' tb mb N' n rs ∧ N <+: N' ∧ K N' c
theorem Gd.textG (h : Gd w0 w tb mb N n rs) {vb : Value} {zb : List Int} (hb : Rd .u8 w vb zb) (hl : zb.length ≤ 2048) (hn : n ≤ 60000) :
    Calls Try.prog 14 #[.pointer (some ⟨tb, 0, none⟩), vb] w fun e w' => Tells w0 w' tb mb (n + 1) N rs e fun M c => Has M c (1, bstr zb, []) := by
  have := textN_len N (bstr zb)
  have := h.len
  obtain ⟨h1, h2, h3⟩ := text_has h.good (bstr zb)
  exact (h.st.text hb hl (by omega)).mono fun e w' ⟨he, hs⟩ => ⟨_, _, he, ⟨hs, h3, by omega⟩, h2, h1⟩
theorem Gd.pair (h : Gd w0 w tb mb N n rs) {k a b : Int} (hk : k = 3 ∨ k = 5) (ha : 1 ≤ a ∧ a ≤ (N.length : Int)) (hb : 1 ≤ b ∧ b ≤ (N.length : Int)) {pv : Value} (hp : Rd .i64 w pv [a, b]) (hn : n ≤ 60000) :
    Calls Try.prog 15 #[.pointer (some ⟨tb, 0, none⟩), .int .i64 k, pv] w fun e w' => Tells w0 w' tb mb (n + 1) N rs e fun M c => Has M c (k, ByteArray.empty, [a, b]) := by
  have := makeN_len N k [a, b]
  have := h.len
  obtain ⟨h1, h2, h3⟩ := pair_has h.good hk ha hb
  exact (h.st.makes k hp (by simp) (by omega)).mono fun e w' ⟨he, hs⟩ => ⟨_, _, he, ⟨hs, h3, by omega⟩, h2, h1⟩
theorem Gd.sizeG (h : Gd w0 w tb mb N n rs) : Calls Try.prog 12 #[.pointer (some ⟨tb, 0, none⟩)] w fun e w' => e = .returned (.int .i64 (N.length : Int)) ∧ w = w' := by
  obtain ⟨nv, ht, _⟩ := h.st.tab
  exact Tab.size ht.at
/-- A block that is there, of another type, is a guest. -/
theorem Sg.other (h : Sg w0 w tb mb N rs) {g : Nat} {c : Array Value} {e : TypeId} {fr : Nat × Nat} (hg : w.heap[g]? = some (.cells c e fr)) (h1 : e ≠ 44) (h2 : e ≠ 54) : Sg w0 w tb mb N ((g, .cells c e fr) :: rs) := by
  obtain ⟨nv, ht, hr⟩ := h.tab
  obtain ⟨L, hL, _, _⟩ := ht.ex
  refine ⟨⟨nv, ht, fun r hm => ?_⟩, fun r hm => ?_, h.bel⟩
  · rcases List.mem_cons.1 hm with rfl | hm
    · refine ⟨fun e1 => ?_, fun e1 => ?_, fun e1 => ?_⟩
      · simp only at e1; subst e1
        rw [hL.tab] at hg; cases hg; exact h1 rfl
      · simp only at e1; subst e1
        obtain ⟨D, ⟨es, clock, hb, _⟩, _⟩ := hL.map
        rw [hb] at hg; cases hg
      · obtain ⟨cur, hc⟩ := own_blk hL.nodes e1.symm
        simp only at hc
        rw [hc] at hg; cases hg; exact h2 rfl
    · exact hr r hm
  · rcases List.mem_cons.1 hm with rfl | hm
    · exact hg
    · exact h.own r hm
#print axioms Gd.pair
end Go.Proofs.Ytkmjdpnbakcgcaa.T
