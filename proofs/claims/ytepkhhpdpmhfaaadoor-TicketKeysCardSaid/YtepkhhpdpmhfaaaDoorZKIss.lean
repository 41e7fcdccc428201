/- ticket's Issue: the ticket's term; none, if it may not be. -/
import Derived.Test.YtepkhhpdpmhfaaaDoorZKKW
import Derived.Test.YtepkhhpdpmhfaaaDoorZTMgR
import Derived.Deep.RegionHeld3
namespace Go.Proofs.YtepkhhpdpmhfaaaDoor
open Go Go.RowKit

variable {w0 w : World} {tb mb n : Nat} {rs : List (Nat × Obj)}
/-- The head of a ticket. -/
abbrev tickH : List Int := [116, 105, 99, 107, 101, 116]
/-- c is a ticket with the key k, of the text b and the secret s. -/
def T.IsTick (M : List T.Nd) (c k : Int) (b : ByteArray) (s : Int) : Prop := ∃ x r, T.Has M x (1, b, []) ∧ T.Has M r (3, ByteArray.empty, [x, s]) ∧ T.IsSeal M c k (T.bstr tickH) r
theorem T.IsTick.ext {M M' : List T.Nd} {c k s : Int} {b : ByteArray} (h : T.IsTick M c k b s) (hp : M <+: M') : T.IsTick M' c k b s := by
  obtain ⟨x, r, h1, h2, h3⟩ := h; exact ⟨x, r, h1.ext hp, h2.ext hp, h3.ext hp⟩
theorem T.IsTick.ne {M : List T.Nd} {c k s : Int} {b : ByteArray} (h : T.IsTick M c k b s) : c ≠ 0 := by
  obtain ⟨x, r, _, _, h3⟩ := h
  have := h3.rng
  omega
set_option maxRecDepth 20000 in
set_option maxHeartbeats 2000000 in
theorem issue_no {N : List T.Nd} (h : T.Gd w0 w tb mb N n rs) {k v t l s : Int} (hok : tickOk v t l = false) (ht : Tab w0) (hw : 1 < w0.heap.size) :
    Calls Tryd.prog 13 #[.pointer (some ⟨tb, 0, none⟩), .int .i64 k, .agg #[.int .i64 v, .int .i64 t, .int .i64 l, .int .i64 s]] w fun e w' => e = .returned (.int .i64 0) ∧ T.Gd w0 w' tb mb N n rs ∧ Below w.heap.size w w' := by
  have hb := below_alloc w (.cells #[.int .i64 v, .int .i64 t, .int .i64 l, .int .i64 s] 44)
  have g1 := h.keep hb
  have c1 := kwrite_any (v := v) (t := t) (l := l) (ht.below g1.st.bel) (by have := g1.st.bel.size; omega)
  rw [hok] at c1
  have H := Lib.hid (And.intro h hb)
  clear h hok ht hw hb g1
  go_enter Tryd.func13, Tryd.ntmps13
  go_wp2_with fail
  refine c1.mono ?_
  rintro e w1 ⟨v1, rfl, h1, b1⟩
  have B1 := Lib.hid (H.out.2.trans (b1.mono H.out.2.size))
  simp only [Bool.false_eq_true, if_false] at h1
  subst h1
  clear c1 b1
  go_wp2_with fail
  go_ret
  exact ⟨rfl, H.out.1.keep B1.out, B1.out⟩
set_option maxRecDepth 20000 in
set_option maxHeartbeats 2000000 in
theorem issue_yes {N : List T.Nd} (h : T.Gd w0 w tb mb N n rs) {k v t l s : Int} (hok : tickOk v t l = true) (hk : 1 ≤ k ∧ k ≤ (N.length : Int)) (hs : 1 ≤ s ∧ s ≤ (N.length : Int)) (ht : Tab w0) (hw : 1 < w0.heap.size) (hn : n ≤ 50000) :
    Calls Tryd.prog 13 #[.pointer (some ⟨tb, 0, none⟩), .int .i64 k, .agg #[.int .i64 v, .int .i64 t, .int .i64 l, .int .i64 s]] w fun e w' => T.Tells w0 w' tb mb (n + 4) N rs e fun M c => T.IsTick M c k (T.bstr (tickB v t l)) s := by
  have g1 : T.Gd w0 (w.alloc (.cells #[.int .i64 v, .int .i64 t, .int .i64 l, .int .i64 s] 44)) tb mb N n ((w.heap.size, (.cells #[.int .i64 v, .int .i64 t, .int .i64 l, .int .i64 s] 44)) :: rs) := ⟨h.st.guest _ _ rfl, h.good, h.len⟩
  have c1 := kwrite_any (v := v) (t := t) (l := l) (ht.below g1.st.bel) (by have := g1.st.bel.size; omega)
  rw [hok] at c1
  have hcv := T.conv_const
  have H := Lib.hid (And.intro g1 (And.intro hk (And.intro hs (And.intro hn (And.intro (tickB_len v t l) (tickB_byt v t l))))))
  clear h hok ht hw g1 hk hs hn
  go_enter Tryd.func13, Tryd.ntmps13
  go_wp2_with fail
  refine c1.mono ?_
  rintro e w1 ⟨v1, rfl, o1, b1⟩
  simp only [if_true] at o1
  have r1 := (Rd.of_own o1 H.out.2.2.2.2.2).1
  obtain ⟨a1, p1, rfl⟩ := r1.shape'
  have g2 := H.out.1.keep b1
  have G2 := Lib.hid (And.intro g2 r1)
  have hC : w1.drew.cell? ⟨w.heap.size, 3, none⟩ = some (.int .i64 s) := (cells4 (w := w1) (g2.st.own _ List.mem_cons_self)).2.2.2.1
  clear c1 o1 b1 g2 r1
  go_wp2_with fail
  go_region_held3 (fun w' => w'.cell? ⟨w.heap.size, 3, none⟩ = some (.int .i64 s))
    (first | (have _t := g4; exact (cells4 (g4.st.own _ List.mem_cons_self)).2.2.2.1) | (have _t := g3; exact (cells4 ((g3.keep (below_alloc _ _)).st.own _ List.mem_cons_self)).2.2.2.1) | (have _t := g3; exact (cells4 (g3.st.own _ List.mem_cons_self)).2.2.2.1) | exact hC)
    (first
      | (have _t := g3; (go_at_call 28; refine (T.Gd.pair (g3.keep (below_alloc _ _)) (k := 3) (.inl rfl) ⟨f3.pos, f3.le⟩ ⟨H.out.2.2.1.1, by have := H.out.2.2.1.2; have := p3.length_le; omega⟩ (T.Rd.lit .i64 27 _ [x, s] (by simp)) (by have := H.out.2.2.2.1; omega)).mono ?_; rintro e w4 ⟨N4, r, rfl, g4, p4, f4⟩))
      | (go_at_call 19; refine ((G2.out.1.keep (Below.refl _ _).drew).textG (G2.out.2.below (Below.refl _ _).drew).toT (by have := H.out.2.2.2.2.1; omega) (by have := H.out.2.2.2.1; omega)).mono ?_; rintro e w3 ⟨N3, x, rfl, g3, p3, f3⟩))
  all_goals
    have F4 := Lib.hid (And.intro p3 (And.intro f3 (And.intro p4 f4)))
    have c5 := (g4.keep (below_alloc w4 (.cells (T.cs .u8 tickH).toArray 5 ((T.cs .u8 tickH).toArray.size, (T.cs .u8 tickH).toArray.size + 1)))).sealG (key := k) ⟨H.out.2.1.1, by have := H.out.2.1.2; have := p3.length_le; have := p4.length_le; omega⟩ ⟨f4.pos, f4.le⟩ (T.Rd.litM w4 tickH 6 rfl (by simp)) (by simp) (by have := H.out.2.2.2.1; omega)
    clear g3 p3 f3 g4 p4 f4 hC
    go_wp2_with fail
    refine c5.mono ?_
    rintro e w6 ⟨N6, c, rfl, g6, p6, f6⟩
    have H6 : Hid (T.Gd w0 w6 tb mb N6 (n + 4) rs ∧ N <+: N6 ∧ T.IsTick N6 c k (T.bstr (tickB v t l)) s) := Lib.hid ⟨⟨g6.st.sub fun u hu => List.mem_cons_of_mem _ hu, g6.good, g6.len⟩, F4.out.1.trans (F4.out.2.2.1.trans p6), x, r, F4.out.2.1.ext (F4.out.2.2.1.trans p6), F4.out.2.2.2.ext p6, f6⟩
    clear c5 g6 p6 f6
    go_wp2_with fail
    go_ret
    exact ⟨N6, c, rfl, H6.out⟩
#print axioms issue_yes
end Go.Proofs.YtepkhhpdpmhfaaaDoor
