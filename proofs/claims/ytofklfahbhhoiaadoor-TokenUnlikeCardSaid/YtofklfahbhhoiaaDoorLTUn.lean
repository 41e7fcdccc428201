/- TokenUnlike, for every input. -/
import Derived.Test.YtofklfahbhhoiaaDoorKAwk
namespace Go.Proofs.YtofklfahbhhoiaaDoor.TokenUnlike
open Go Go.RowKit

theorem bk {v v' : World} {k : Nat} {o : Obj} (hb : Below v.heap.size v v') (h : v.heap[k]? = some o) : v'.heap[k]? = some o := (hb.block _ (blkLt h)).trans h
/-- Two tokens' boxes since X. -/
def Tw (X : World) (B : Nat) (l : Bool) (a t : Int) (v : Value) (l' : Bool) (a' t' : Int) (v' : Value) (w : World) : Prop :=
  X.heap[B]? = some (.cells #[.bool l, .int .i64 a, .int .i64 t, v] 24 (0, 0)) ∧ X.heap[B + 1]? = some (.cells #[.bool l', .int .i64 a', .int .i64 t', v'] 24 (0, 0)) ∧ Below X.heap.size X w
abbrev TwC (X : World) (B : Nat) (l : Bool) (a t : Int) (v : Value) (l' : Bool) (a' t' : Int) (v' : Value) (w : World) : Prop :=
  w.cell? ⟨B, 0, none⟩ = some (.bool l) ∧ w.cell? ⟨B, 1, none⟩ = some (.int .i64 a) ∧ w.cell? ⟨B, 2, none⟩ = some (.int .i64 t) ∧ w.cell? ⟨B, 3, none⟩ = some v ∧ w.cell? ⟨B + 1, 0, none⟩ = some (.bool l') ∧ w.cell? ⟨B + 1, 1, none⟩ = some (.int .i64 a') ∧ w.cell? ⟨B + 1, 2, none⟩ = some (.int .i64 t') ∧ w.cell? ⟨B + 1, 3, none⟩ = some v' ∧ Tw X B l a t v l' a' t' v' w
theorem Tw.c {X w : World} {B : Nat} {l l' : Bool} {a t a' t' : Int} {v v' : Value} (h : Tw X B l a t v l' a' t' v' w) : TwC X B l a t v l' a' t' v' w := by
  obtain ⟨m0, m1, m2, m3, _⟩ := cells4 (bk h.2.2 h.1)
  obtain ⟨n0, n1, n2, n3, _⟩ := cells4 (bk h.2.2 h.2.1)
  exact ⟨m0, m1, m2, m3, n0, n1, n2, n3, h⟩
theorem Tw.at {X w w' : World} {B : Nat} {l l' : Bool} {a t a' t' : Int} {v v' : Value} (h : Tw X B l a t v l' a' t' v' w) (hb : Below X.heap.size X w') : TwC X B l a t v l' a' t' v' w' := Tw.c ⟨h.1, h.2.1, hb⟩
theorem keepT {X w1 w2 : World} {B : Nat} {l l' : Bool} {a t a' t' : Int} {v v' : Value} (hb : Below w1.heap.size w1 w2) (h : TwC X B l a t v l' a' t' v' w1) : TwC X B l a t v l' a' t' v' w2 := h.2.2.2.2.2.2.2.2.at (h.2.2.2.2.2.2.2.2.2.2.trans (hb.mono h.2.2.2.2.2.2.2.2.2.2.size))
theorem tok_iff {M : List T.Nd} {c d k : Int} {b b' : ByteArray} (h : T.IsTok M c k b) (h' : T.IsTok M d k b') : c = d ↔ b = b' := by
  obtain ⟨x, h1, h2⟩ := h
  obtain ⟨y, h3, h4⟩ := h'
  rw [h2.iff h4]
  constructor
  · rintro ⟨_, _, rfl⟩
    have := h1.node h3
    simp only [Prod.mk.injEq, true_and, and_true] at this
    exact this
  · rintro rfl
    exact ⟨rfl, rfl, h1.num h3⟩
/-- What Mint tells of a token that may be or not. -/
def Mt (X w' : World) (tb mb n : Nat) (N : List T.Nd) (e : Ending) (k a t : Int) (l : Bool) (nm : List Int) : Prop :=
  ∃ N' c, e = .returned (.int .i64 c) ∧ T.Gd X w' tb mb N' n [] ∧ N <+: N' ∧ (c = 0 ∨ c ≠ 0 ∧ tokOk a t nm.length = true ∧ T.IsTok N' c k (T.bstr (tokB l a t nm)))
theorem mint_any {X w : World} {tb mb n : Nat} {N : List T.Nd} (h : T.Gd X w tb mb N n []) {k a t : Int} {l : Bool} {ao : Option Addr} {cap : Nat} {nm : List Int} (hk : 1 ≤ k ∧ k ≤ (N.length : Int)) (hr : Rd w (.slice ao nm.length cap) nm) (ht : Tab X) (hw : 1 < X.heap.size) (hn : n ≤ 50000) :
    Calls Tryd.prog 13 #[.pointer (some ⟨tb, 0, none⟩), .int .i64 k, .agg #[.bool l, .int .i64 a, .int .i64 t, .slice ao nm.length cap]] w fun e w' => Mt X w' tb mb (n + 3) N e k a t l nm := by
  cases hok : tokOk a t nm.length with
  | false => exact (mint_no h hok).mono fun e w' ⟨he, g, _⟩ => ⟨N, 0, he, ⟨g.st, g.good, by have := g.len; omega⟩, List.prefix_refl _, .inl rfl⟩
  | true =>
    refine (mint_yes h hok hk hr ht hw hn).mono fun e w' ⟨N', c, he, g, p, f⟩ => ⟨N', c, he, g, p, .inr ⟨?_, hok, f⟩⟩
    obtain ⟨x, _, hx⟩ := f
    have := hx.rng
    omega
set_option maxRecDepth 20000 in
set_option maxHeartbeats 4000000 in
theorem walk {w : World} {ao ao' : Option Addr} {cap cap' : Nat} {nm nm' : List Int} {l l' : Bool} {a t a' t' : Int} (hr : Rd w (.slice ao nm.length cap) nm) (hr' : Rd w (.slice ao' nm'.length cap') nm') (ht : Tab w) (hw : 1 < w.heap.size) :
    Calls Tryd.prog 5 #[.agg #[.bool l, .int .i64 a, .int .i64 t, .slice ao nm.length cap], .agg #[.bool l', .int .i64 a', .int .i64 t', .slice ao' nm'.length cap']] w fun e w' => e = .returned (.bool true) ∧ Below w.heap.size w w' := by
  obtain ⟨X, hX⟩ : ∃ X, (w.alloc (.cells #[.bool l, .int .i64 a, .int .i64 t, .slice ao nm.length cap] 24)).alloc (.cells #[.bool l', .int .i64 a', .int .i64 t', .slice ao' nm'.length cap'] 24) = X := ⟨_, rfl⟩
  have hbX : Below w.heap.size w X := by rw [← hX]; exact ((Below.refl _ _).alloc (Nat.le_refl _) _).alloc (by simp) _
  have hA : X.heap[w.heap.size]? = some (.cells #[.bool l, .int .i64 a, .int .i64 t, .slice ao nm.length cap] 24 (0, 0)) := by rw [← hX]; exact bk (below_alloc _ _) (heap_alloc_new w _)
  have hB : X.heap[w.heap.size + 1]? = some (.cells #[.bool l', .int .i64 a', .int .i64 t', .slice ao' nm'.length cap'] 24 (0, 0)) := by
    rw [← hX]
    have := heap_alloc_new (w.alloc (.cells #[.bool l, .int .i64 a, .int .i64 t, .slice ao nm.length cap] 24)) (.cells #[.bool l', .int .i64 a', .int .i64 t', .slice ao' nm'.length cap'] 24)
    rw [World.size_alloc] at this
    exact this
  have tX := ht.below hbX
  have wX : 1 < X.heap.size := by have := hbX.size; omega
  have rX := hr.below hbX
  have rX' := hr'.below hbX
  have hTw : Tw X w.heap.size l a t (.slice ao nm.length cap) l' a' t' (.slice ao' nm'.length cap') X := ⟨hA, hB, Below.refl _ _⟩
  have H := Lib.hid (And.intro hbX (And.intro hTw (And.intro tX (And.intro wX (And.intro rX rX')))))
  obtain ⟨x0, x1, x2, x3, y0, y1, y2, y3, -⟩ := hTw.c
  clear hr hr' ht hw hbX hA hB tX wX rX rX' hTw
  by_cases hlen : 50 < nm.length
  · have hl : 50 < (nm.length : Int) := by omega
    go_enter Tryd.func5, Tryd.ntmps5
    go_wp2_with fail
    go_ret
    exact ⟨rfl, H.out.1⟩
  · have hl : ¬ 50 < (nm.length : Int) := by omega
    by_cases hlen' : 50 < nm'.length
    · have hl' : 50 < (nm'.length : Int) := by omega
      go_enter Tryd.func5, Tryd.ntmps5
      go_wp2_with fail
      go_ret
      exact ⟨rfl, H.out.1⟩
    · have hl' : ¬ 50 < (nm'.length : Int) := by omega
      have HL := Lib.hid (And.intro hlen hlen')
      clear hlen hlen'
      go_enter Tryd.func5, Tryd.ntmps5
      go_wp2_with fail
      refine (T.St.new X).mono ?_
      rintro e w1 ⟨tb, mb, rfl, s1⟩
      have g1 : T.Gd X w1 tb mb [] 0 [] := ⟨T.Sg.of_st s1, T.good_nil, Nat.le_refl _⟩
      have c1 := g1.secretG (by omega)
      clear s1 g1 x0 x1 x2 x3 y0 y1 y2 y3
      go_wp2_with fail
      refine c1.mono ?_
      rintro e w2 ⟨N2, k, rfl, g2, -, f2, -⟩
      have hC : TwC X w.heap.size l a t (.slice ao nm.length cap) l' a' t' (.slice ao' nm'.length cap') w2.drew := H.out.2.1.at g2.st.bel.drew
      have G2 := Lib.hid (And.intro g2 f2)
      clear c1 g2 f2 hX
      go_wp2_with fail
      go_region_held3 (fun w' => TwC X w.heap.size l a t (.slice ao nm.length cap) l' a' t' (.slice ao' nm'.length cap') w')
        (first | (with_reducible exact H.out.2.1.at g6.st.bel) | (with_reducible exact keepT b5 (by assumption)) | (with_reducible exact H.out.2.1.at g4.st.bel) | (with_reducible exact keepT b3 (by assumption)) | with_reducible exact hC)
        (first
          | (have _t := g4; (go_at_call 14; refine (of_any (H.out.2.2.2.2.2.below g4.st.bel) (by have := HL.out; omega)).mono ?_; rintro e w5 ⟨v5, rfl, r5, b5⟩; obtain ⟨a5, p5, rfl⟩ := r5.shape'; have g5 := g4.keep b5))
          | (have _t := g5; (go_at_call 13; refine (mint_any g5 (G2.out.2.ext p4).2 r5 H.out.2.2.1 H.out.2.2.2.1 (by omega)).mono ?_; rintro e w6 ⟨N6, d, rfl, g6, p6, f6⟩))
          | (go_at_call 14; refine (of_any (H.out.2.2.2.2.1.below G2.out.1.st.bel.drew) (by have := HL.out; omega)).mono ?_; rintro e w3 ⟨v3, rfl, r3, b3⟩; obtain ⟨a3, p3, rfl⟩ := r3.shape'; have g3 := G2.out.1.keep ((Below.refl _ _).drew.trans b3))
          | (go_at_call 13; refine (mint_any g3 G2.out.2.2 r3 H.out.2.2.1 H.out.2.2.2.1 (by omega)).mono ?_; rintro e w4 ⟨N4, c, rfl, g4, p4, f4⟩))
      all_goals
        have hb6 := g6.st.bel
        have F4 := Lib.hid f4
        have F6 := Lib.hid f6
        have P6 := Lib.hid (And.intro p6 hb6)
        have hD : TwC X w.heap.size l a t (.slice ao nm.length cap) l' a' t' (.slice ao' nm'.length cap') w6.drew := H.out.2.1.at hb6.drew
        clear f4 f6 p6 p4 g6 g5 g4 g3 b3 b5 r3 r5 hC hb6
        rcases F4.out with hc | ⟨hc, ok1, tk1⟩
        · have q1 : (c == 0) = true := by simp [hc]
          clear hc hD
          go_wp2_with fail
          refine (awake16_any (H.out.2.2.1.below P6.out.2) (by have := P6.out.2.size; have := H.out.2.2.2.1; omega)).mono ?_
          rintro e w7 ⟨rfl, b7⟩
          have B7 := Lib.hid (P6.out.2.trans (b7.mono P6.out.2.size))
          clear b7
          go_wp2_with fail
          go_ret
          exact ⟨rfl, H.out.1.trans (B7.out.mono H.out.1.size)⟩
        · have q1 : (c == 0) = false := by simp [hc]
          rcases F6.out with hd | ⟨hd, ok2, tk2⟩
          · have q2 : (d == 0) = true := by simp [hd]
            clear hc hd hD ok1 tk1
            go_wp2_with fail
            refine (awake16_any (H.out.2.2.1.below P6.out.2) (by have := P6.out.2.size; have := H.out.2.2.2.1; omega)).mono ?_
            rintro e w7 ⟨rfl, b7⟩
            have B7 := Lib.hid (P6.out.2.trans (b7.mono P6.out.2.size))
            clear b7
            go_wp2_with fail
            go_ret
            exact ⟨rfl, H.out.1.trans (B7.out.mono H.out.1.size)⟩
          · have q2 : (d == 0) = false := by simp [hd]
            have hiff : c = d ↔ toldB l a t nm l' a' t' nm' = true := by
              rw [tok_iff (tk1.ext P6.out.1) tk2, toldB_iff]
              obtain ⟨i1, i2, i3⟩ := tokOk_num ok1
              obtain ⟨j1, j2, j3⟩ := tokOk_num ok2
              constructor
              · intro e
                exact tokB_inj i1 i2 i3 j1 j2 j3 (bstr_inj (tokB_byt l a t H.out.2.2.2.2.1.byt) (tokB_byt l' a' t' H.out.2.2.2.2.2.byt) e)
              · rintro ⟨rfl, rfl, rfl, rfl⟩; rfl
            obtain ⟨R, hR⟩ : ∃ R, toldB l a t nm l' a' t' nm' = R := ⟨_, rfl⟩
            have q3 : (c == d) = R := by
              rw [hR] at hiff
              cases R with
              | true => simp [hiff]
              | false => simp at hiff; simp [hiff]
            have HR := Lib.hid hR
            clear hc hd hiff ok1 ok2 tk1 tk2 hR
            have TD : ∀ (wx : World) (vx vy : Value), Rd wx vx nm → Rd wx vy nm' → Calls Tryd.prog 22 #[.agg #[.bool l, .int .i64 a, .int .i64 t, vx], .agg #[.bool l', .int .i64 a', .int .i64 t', vy]] wx fun e w' => e = .returned (.bool R) ∧ Below wx.heap.size wx w' := fun wx vx vy h1 h2 => by
              have := told_any (l := l) (a := a) (t := t) (l' := l') (a' := a') (t' := t') h1 h2
              rw [HR.out] at this
              exact this
            have HTD := Lib.hid TD
            clear TD
            cases R
            all_goals
              go_wp2_with fail
              go_region_held3 (fun w' => TwC X w.heap.size l a t (.slice ao nm.length cap) l' a' t' (.slice ao' nm'.length cap') w')
                (first | (with_reducible exact keepT b9 (by assumption)) | (with_reducible exact keepT b8 (by assumption)) | (with_reducible exact keepT b7 (by assumption)) | with_reducible exact hD)
                (first
                  | (have _t := u8; (go_at_call 16; refine (awake16_any (H.out.2.2.1.below u8) (by have := u8.size; have := H.out.2.2.2.1; omega)).mono ?_; rintro e w9 ⟨rfl, b9⟩; have u9 := u8.trans (b9.mono u8.size)))
                  | (have _t := u7; (go_at_call 22; refine (HTD.out _ _ _ r7 (H.out.2.2.2.2.2.below u7)).mono ?_; rintro e w8 ⟨rfl, b8⟩; have u8 := u7.trans (b8.mono u7.size)))
                  | (go_at_call 14; refine (of_any (H.out.2.2.2.2.1.below P6.out.2.drew) (by have := HL.out; omega)).mono ?_; rintro e w7 ⟨v7, rfl, r7, b7⟩; obtain ⟨a7, p7, rfl⟩ := r7.shape'; have u7 := P6.out.2.drew.trans (b7.mono P6.out.2.drew.size)))
              all_goals
                go_wp2_with fail
                go_ret
                exact ⟨rfl, H.out.1.trans (u9.mono H.out.1.size)⟩
#print axioms walk
end Go.Proofs.YtofklfahbhhoiaaDoor.TokenUnlike
