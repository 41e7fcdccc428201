/- TicketReads, for every input. -/
import Derived.Test.YtofklfahbhhoiaaDoorKRdm
import Derived.Test.YtofklfahbhhoiaaDoorKRR17
namespace Go.Proofs.YtofklfahbhhoiaaDoor.TicketReads
open Go Go.RowKit

theorem bk {v v' : World} {k : Nat} {o : Obj} (hb : Below v.heap.size v v') (h : v.heap[k]? = some o) : v'.heap[k]? = some o := (hb.block _ (blkLt h)).trans h
set_option maxRecDepth 20000 in
set_option maxHeartbeats 2000000 in
theorem walk {w : World} {ao : Option Addr} {cap : Nat} {zs : List Int} (hr : Rd w (.slice ao zs.length cap) zs) (hp : Plain (.slice ao zs.length cap)) (ht : Tab w) (hw : 1 < w.heap.size) :
    Calls Tryd.prog 8 #[.slice ao zs.length cap] w fun e w' => e = .returned (.bool true) ∧ Below w.heap.size w w' := by
  by_cases hlen : 200 < zs.length
  · have hl : 200 < (zs.length : Int) := by omega
    clear hr hp ht hw
    go_enter Tryd.func8, Tryd.ntmps8
    go_wp2_with fail
    go_ret
    exact ⟨rfl, Below.refl _ _⟩
  · have hl : ¬ 200 < (zs.length : Int) := by omega
    obtain ⟨r, hq⟩ : ∃ r, tickR zs = r := ⟨_, rfl⟩
    have HQ := Lib.hid hq
    have H := Lib.hid (And.intro hr (And.intro hp (And.intro ht (And.intro hw hlen))))
    have hcv := T.conv_const
    clear hr hp ht hw hlen hq
    go_enter Tryd.func8, Tryd.ntmps8
    go_wp2_with fail
    refine (T.St.new w).mono ?_
    rintro e w1 ⟨tb, mb, rfl, s1⟩
    have g1 : T.Gd w w1 tb mb [] 0 [] := ⟨T.Sg.of_st s1, T.good_nil, Nat.le_refl _⟩
    have c1 := g1.secretG (by omega)
    clear s1 g1
    go_wp2_with fail
    refine c1.mono ?_
    rintro e w2 ⟨N2, k, rfl, g2, -, f2, -⟩
    have c2 := g2.secretG (by omega)
    have H2 := Lib.hid f2
    clear c1 g2 f2
    go_wp2_with fail
    refine c2.mono ?_
    rintro e w3 ⟨N3, s, rfl, g3, p3, f3, -⟩
    have G3 : T.Gd w (w3.alloc (.cells (T.cs .u8 tickH).toArray 5 ((T.cs .u8 tickH).toArray.size, (T.cs .u8 tickH).toArray.size + 1))) tb mb N3 (0 + 1 + 1) ((w3.heap.size, (.cells (T.cs .u8 tickH).toArray 5 ((T.cs .u8 tickH).toArray.size, (T.cs .u8 tickH).toArray.size + 1))) :: []) := ⟨g3.st.guest _ _ rfl, g3.good, g3.len⟩
    have R3 := Lib.hid (And.intro (T.Rd.litM w3 tickH 6 rfl (by simp)) (heap_alloc_new w3 (.cells (T.cs .u8 tickH).toArray 5 ((T.cs .u8 tickH).toArray.size, (T.cs .u8 tickH).toArray.size + 1))))
    have c3 := G3.textG (H.out.1.below G3.st.bel).toT (by have := H.out.2.2.2.2; omega) (by omega)
    have H3 := Lib.hid (And.intro (H2.out.ext p3) f3)
    clear c2 g3 p3 f3 G3
    go_wp2_with fail
    refine c3.mono ?_
    rintro e w4 ⟨N4, x, rfl, g4, p4, f4⟩
    have F4 := H3.out.2.ext p4
    have c4 := (g4.keep (below_alloc w4 (.cells (T.cs .i64 [x, s]).toArray 29))).pair (k := 3) (.inl rfl) ⟨f4.pos, f4.le⟩ F4.2 (T.Rd.lit .i64 29 w4 [x, s] (by simp)) (by omega)
    have H4 := Lib.hid (And.intro (H3.out.1.ext p4) f4)
    clear c3 g4 p4 f4 F4 hcv
    go_wp2_with fail
    refine c4.mono ?_
    rintro e w5 ⟨N5, rw', rfl, g5, p5, f5⟩
    have r5 := TRd.same R3.out.1 ((g5.st.own _ List.mem_cons_self).trans R3.out.2.symm)
    have c5 := g5.sealG (H4.out.1.ext p5).2 ⟨f5.pos, f5.le⟩ r5 (by simp) (by omega)
    have H5 := Lib.hid (And.intro (H4.out.2.ext p5) f5)
    clear c4 g5 p5 f5 r5
    go_wp2_with fail
    refine c5.mono ?_
    rintro e w6 ⟨N6, m, rfl, g6, p6, f6⟩
    have H6 := Lib.hid (And.intro (H5.out.1.ext p6) (And.intro (H5.out.2.ext p6) f6))
    have c6 := rkread_any (H.out.1.below g6.st.bel) H.out.2.1 (by have := H.out.2.2.2.2; omega)
    have G6 := Lib.hid g6
    clear c5 g6 p6 f6
    go_wp2_with fail
    refine c6.mono ?_
    intro e w7 h7
    clear c6
    have LK : Hid (∀ w1, ∀ rs, T.Gd w w1 tb mb N6 (0 + 1 + 1 + 1 + 1 + 2) rs → Calls Tryd.prog 45 #[.pointer (some ⟨tb, 0, none⟩), .int .i64 k, .int .i64 m] w1 fun e w' => KlV (r.map fun q => (q.1, q.2.1, q.2.2, s)) e ∧ T.Gd w w' tb mb N6 (0 + 1 + 1 + 1 + 1 + 2) rs ∧ Below w1.heap.size w1 w') := Lib.hid (fun w1 rs g => by
      have := klook_row g H6.out.2.2 H6.out.2.1 H6.out.1.pos H6.out.1.at' (by rw [T.bstr_size]; have := H.out.2.2.2.2; omega)
      rw [show sayK (1, T.bstr zs, []) s = r.map fun q => (q.1, q.2.1, q.2.2, s) by unfold sayK; rw [if_pos rfl, sbytes_bstr' H.out.1.byt, HQ.out]] at this
      exact this)
    cases r with
    | none =>
      unfold RkP at h7
      rw [HQ.out] at h7
      obtain ⟨rfl, b7⟩ := h7
      have g8 : T.Gd w (w7.alloc (.cells #[.int .i64 0, .int .i64 0, .int .i64 0] 58)) tb mb N6 (0 + 1 + 1 + 1 + 1 + 2) ((w7.heap.size, (.cells #[.int .i64 0, .int .i64 0, .int .i64 0] 58)) :: (w3.heap.size, (.cells (T.cs .u8 tickH).toArray 5 ((T.cs .u8 tickH).toArray.size, (T.cs .u8 tickH).toArray.size + 1))) :: []) := ⟨(G6.out.keep b7).st.guest _ _ rfl, G6.out.good, G6.out.len⟩
      have c8 := redeem_any g8 (r := none) (fun w1 g => LK.out w1 _ g) (now := 0) (by omega) (fun x hx => by cases hx)
      rw [show rdm none 0 = (14, none) from rfl] at c8
      clear g8 b7
      go_wp2_with fail
      refine c8.mono ?_
      rintro e w9 ⟨rfl, g9, -⟩
      have b9 := g9.st.bel
      have B9 := Lib.hid (fun o => b9.trans ((below_alloc w9 o).mono b9.size))
      clear c8 g9 b9
      go_wp2_with fail
      refine (awake17_any (H.out.2.2.1.below (B9.out _)) (Nat.lt_of_lt_of_le H.out.2.2.2.1 (B9.out _).size)).mono ?_
      rintro e w10 ⟨rfl, b10⟩
      have B10 := Lib.hid ((B9.out _).trans (b10.mono (B9.out _).size))
      clear b10
      go_wp2_with fail
      go_ret
      exact ⟨rfl, B10.out⟩
    | some q =>
      obtain ⟨a, b, c⟩ := q
      have hbd := tickR_some H.out.1.byt HQ.out
      simp only at hbd
      unfold RkP at h7
      rw [HQ.out] at h7
      obtain ⟨rfl, b7⟩ := h7
      have g8 : T.Gd w (w7.alloc (.cells #[.int .i64 a, .int .i64 b, .int .i64 c] 58)) tb mb N6 (0 + 1 + 1 + 1 + 1 + 2) ((w7.heap.size, (.cells #[.int .i64 a, .int .i64 b, .int .i64 c] 58)) :: (w3.heap.size, (.cells (T.cs .u8 tickH).toArray 5 ((T.cs .u8 tickH).toArray.size, (T.cs .u8 tickH).toArray.size + 1))) :: []) := ⟨(G6.out.keep b7).st.guest _ _ rfl, G6.out.good, G6.out.len⟩
      have c8 := redeem_any g8 (r := some (a, b, c, s)) (fun w1 g => LK.out w1 _ g) (now := b) (by omega) (fun x hx => by cases hx; simp only; omega)
      rw [show rdm (some (a, b, c, s)) b = (0, some (a, b, c, s)) by unfold rdm; simp only; rw [if_neg (by omega)]] at c8
      clear g8 b7 hbd
      go_wp2_with fail
      refine c8.mono ?_
      rintro e w9 ⟨rfl, g9, -⟩
      have u9 := g9.st.own _ List.mem_cons_self
      simp only at u9
      obtain ⟨y0, y1, y2, -⟩ := cells3 (bk (below_alloc w9 (.cells #[.int .i64 a, .int .i64 b, .int .i64 c, .int .i64 s] 60)) u9)
      have b9 := g9.st.bel
      have B9 := Lib.hid (fun o => b9.trans ((below_alloc w9 o).mono b9.size))
      clear c8 g9 b9 u9
      go_wp2_with fail
      refine (awake17_any (H.out.2.2.1.below (B9.out _)) (Nat.lt_of_lt_of_le H.out.2.2.2.1 (B9.out _).size)).mono ?_
      rintro e w10 ⟨rfl, b10⟩
      have B10 := Lib.hid ((B9.out _).trans (b10.mono (B9.out _).size))
      clear b10
      go_wp2_with fail
      go_ret
      exact ⟨rfl, B10.out⟩
#print axioms walk
end Go.Proofs.YtofklfahbhhoiaaDoor.TicketReads
