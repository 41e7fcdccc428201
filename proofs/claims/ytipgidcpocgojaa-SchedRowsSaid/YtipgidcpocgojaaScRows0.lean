/- SchedRows' walk, without a ticket. -/
import Derived.Test.YtipgidcpocgojaaScRk
namespace Go.Proofs.Ytipgidcpocgojaa
open Go Go.RowKit

set_option maxRecDepth 30000 in
set_option maxHeartbeats 16000000 in
theorem srows_walk0 {w : World} {gv av : Value} {zg : List Int} {qa : List (Value × List Int)} (hg : Rd .u8 w gv zg) (ha : Rl w av qa) (hlg : zg.length ≤ 50) (hla : qa.length ≤ 10) :
    Calls Try.prog 3 #[gv, av, .bool false] w fun e w' => e = .returned (.bool true) ∧ Below w.heap.size w w' := by
  obtain ⟨aa, ac, rfl, hac⟩ := ha.shape
  have HGV := Lib.hid hg
  obtain ⟨ga, gc, rfl, _⟩ := hg
  have t0 : decide ((50 : Int) < (zg.length : Int)) = false := decide_eq_false (by omega)
  have t1 : decide ((10 : Int) < (qa.length : Int)) = false := decide_eq_false (by omega)
  have HA := Lib.hid (And.intro ha.rd hac)
  have HL := Lib.hid (And.intro hla hlg)
  clear ha hac hla hlg
  go_enter Try.func3, Try.ntmps3
  go_wp2_with fail
  refine (St.new w).mono ?_
  rintro e w1 ⟨tb, mb, rfl, s1⟩
  have c1 := s1.beginS (by simp)
  obtain ⟨p1, p2, p3⟩ := text_has good_nil ByteArray.empty
  have p4 := textN_len [] ByteArray.empty
  go_wp2_with fail
  refine c1.mono ?_
  rintro e w2 ⟨rfl, s2⟩
  clear c1 s1
  generalize textN [] ByteArray.empty = T at *
  have H3 := Lib.hid (show Gd w w2 tb mb T.2 1 [] ∧ IsTr T.2 T.1 [] from ⟨⟨Sg.of_st s2, p3, by simpa using p4⟩, p1⟩)
  clear s2 p1 p2 p3 p4
  go_wp2_with fail
  go_loopw [8, 9] (fun xv i wr => ∃ (j : Nat) (N : List Nd) (x : Int), xv = .int .i64 x ∧ i = .int .i64 j ∧ j ≤ qa.length ∧ Hid (Gd w wr tb mb N (1 + 5 * j) [] ∧ IsTr N x (msOf qa j))) (fun _ i _ => qa.length - (intOf i).toNat)
  case atStart => exact ⟨0, T.2, T.1, rfl, rfl, Nat.zero_le _, H3⟩
  case round =>
    obtain ⟨j, N, x, rfl, rfl, hj, hT⟩ := hrel
    by_cases hlt : j < qa.length
    · obtain ⟨q, hq⟩ : ∃ q, qa[j]? = some q := ⟨_, List.getElem?_eq_getElem hlt⟩
      obtain ⟨b, off, rfl, hc⟩ := HA.out.2 j q hq
      have hr := HA.out.1 q (List.mem_of_getElem? hq)
      have HQ := Lib.hid hq
      obtain ⟨v, zs⟩ := q
      simp only at hr hc
      obtain ⟨za, zc, rfl, _⟩ := hr
      have HR := Lib.hid (HA.out.1 _ (List.mem_of_getElem? hq))
      have HC := Lib.hid hc
      have hc1 : wr.cell? ⟨b, off + j, none⟩ = some (.slice za zs.length zc) := by rw [hT.out.1.st.bel.cell (cell_lt hc)]; exact hc
      have hi : (j : Int) < (qa.length : Int) := by omega
      have hi9 : (j : Int) < 10 := by have := HL.out; omega
      clear hc hq
      by_cases hz : 200 < zs.length
      · have hz' : decide ((200 : Int) < (zs.length : Int)) = true := decide_eq_true (by omega)
        have HBel := Lib.hid hT.out.1.st.bel
        clear hT hz
        go_wp2_with fail
        go_ret
        exact ⟨rfl, HBel.out⟩
      · have hz' : decide ((200 : Int) < (zs.length : Int)) = false := decide_eq_false (by omega)
        have HZ := Lib.hid hz
        have c1 := hT.out.1.nextG hT.out.2 (HR.out.below hT.out.1.st.bel) (by show zs.length ≤ 2048; omega) (by have := HL.out; omega)
        clear hz
        go_wp2_with fail
        refine c1.mono ?_
        rintro e w4 ⟨N4, x4, rfl, g4, p4, f4⟩
        have d1 : w4.cell? ⟨b, off + j, none⟩ = some (.slice za zs.length zc) := by rw [g4.st.bel.cell (cell_lt HC.out)]; exact HC.out
        have c2 := g4.textG (HR.out.below g4.st.bel) (by have := HZ.out; show zs.length ≤ 2048; omega) (by have := HL.out; omega)
        have H4 := Lib.hid (And.intro p4 f4)
        clear c1 hc1 g4 p4 f4
        go_wp2_with fail
        refine c2.mono ?_
        rintro e w5 ⟨N5, y5, rfl, g5, p5, f5⟩
        have htr := hT.out.2.ext (H4.out.1.trans p5)
        have g5' := g5.keep (below_alloc w5 (.cells (cs .i64 [x, y5]).toArray 26))
        have c3 := g5'.pair (k := 3) (.inl rfl) htr.rng ⟨f5.pos, f5.le⟩ (Rd.lit .i64 26 w5 [x, y5] (by simp)) (by have := HL.out; omega)
        have H5 := Lib.hid (And.intro p5 f5)
        clear c2 g5 g5' p5 f5 htr d1
        go_wp2_with fail
        refine c3.mono ?_
        rintro e w6 ⟨N6, y6, rfl, g6, p6, f6⟩
        have hx4 := H4.out.2.ext (H5.out.1.trans p6)
        have h4 : Has N6 x4 (4, ByteArray.empty, [y6]) := by
          obtain ⟨c', s', r', k1, k2, k3, k4⟩ := hx4
          obtain rfl := k1.num (hT.out.2.ext (H4.out.1.trans (H5.out.1.trans p6)))
          obtain rfl := k2.num (H5.out.2.ext p6)
          obtain rfl := k3.num f6
          exact k4
        have g6' := g6.keep (below_alloc w6 (.cells (cs .i64 [y6]).toArray 26))
        have c4 := is_true g6'.st.st h4 (Rd.lit .i64 26 w6 [y6] (by simp)) (by simp) (by simp)
        have H6 := Lib.hid (And.intro g6' hx4)
        clear c3 g6 g6' p6 f6 hx4 h4
        go_wp2_with fail
        refine c4.mono ?_
        rintro e w7 ⟨rfl, b7⟩
        have H7 := Lib.hid (H6.out.1.keep b7)
        clear c4 b7
        go_wp2_with fail
        go_roundw
        case rel =>
          refine ⟨j + 1, N6, x4, rfl, by go_num, by omega, Lib.hid ⟨H7.out.mono (by omega), ?_⟩⟩
          rw [msOf_succ HQ.out]; exact H6.out.2
        case measure => have := HL.out; simp [intOf]; omega
    · obtain rfl : j = qa.length := by omega
      have g : Gd w wr tb mb N 60 [] := hT.out.1.mono (by have := HL.out; omega)
      have F0 := Lib.hid hT.out.2
      obtain ⟨xT, hxT⟩ : ∃ y, y = x := ⟨_, rfl⟩
      rw [← hxT] at F0 ⊢
      clear hxT
      generalize msOf qa qa.length = ms at *
      have P0 : Hid (N <+: N) := Lib.hid List.prefix_rfl
      clear hT hlt hj H3
      have hcv := conv_const
      have c := g.secretG (by omega)
      clear g
      go_wp2_with fail
      refine c.mono ?_
      rintro e w1 ⟨N1, vx, rfl, g, p, f⟩
      replace P0 := Lib.hid (P0.out.trans p)
      have P1 : Hid (N1 <+: N1) := Lib.hid List.prefix_rfl
      have F1 := Lib.hid f
      clear c p f
      have c := g.secretG (by omega)
      clear g
      go_wp2_with fail
      refine c.mono ?_
      rintro e w2 ⟨N2, vy, rfl, g, p, f⟩
      replace P0 := Lib.hid (P0.out.trans p)
      replace P1 := Lib.hid (P1.out.trans p)
      have P2 : Hid (N2 <+: N2) := Lib.hid List.prefix_rfl
      have F2 := Lib.hid f
      clear c p f
      replace g := g.keep (below_alloc w2 (.cells (cs .i64 [vy]).toArray 26))
      have c := g.publicG (sec_ext F2.out.1 P2.out) (rng_ext (F2.out.2) P2.out) (Rd.lit .i64 26 w2 [vy] (by simp)) (by omega)
      clear g
      go_wp2_with fail
      refine c.mono ?_
      rintro e w3 ⟨N3, vp, rfl, g, p, f⟩
      replace P0 := Lib.hid (P0.out.trans p)
      replace P1 := Lib.hid (P1.out.trans p)
      replace P2 := Lib.hid (P2.out.trans p)
      have P3 : Hid (N3 <+: N3) := Lib.hid List.prefix_rfl
      have F3 := Lib.hid f
      clear c p f
      replace g := g.keep (below_alloc w3 (.cells (cs .i64 [vx, vp]).toArray 26))
      have c := g.sharedG (sec_ext F1.out.1 P1.out) (rng_ext (F1.out.2) P1.out) F2.out.2.1 (F3.out.ext P3.out) (Rd.lit .i64 26 w3 [vx, vp] (by simp)) (by omega)
      clear g
      go_wp2_with fail
      refine c.mono ?_
      rintro e w4 ⟨N4, vs, rfl, g, p, f⟩
      replace P0 := Lib.hid (P0.out.trans p)
      replace P1 := Lib.hid (P1.out.trans p)
      replace P2 := Lib.hid (P2.out.trans p)
      replace P3 := Lib.hid (P3.out.trans p)
      have P4 : Hid (N4 <+: N4) := Lib.hid List.prefix_rfl
      have F4 := Lib.hid f
      clear c p f
      replace g := g.keep (below_alloc w4 (.cells (cs .u8 [110, 111, 110, 101]).toArray 5 ((cs .u8 [110, 111, 110, 101]).toArray.size, (cs .u8 [110, 111, 110, 101]).toArray.size + 1)))
      have c := g.textG (Rd.litM w4 [110, 111, 110, 101] 4 rfl (by simp)) (by simp) (by omega)
      clear g
      go_wp2_with fail
      refine c.mono ?_
      rintro e w5 ⟨N5, vo, rfl, g, p, f⟩
      replace P0 := Lib.hid (P0.out.trans p)
      replace P1 := Lib.hid (P1.out.trans p)
      replace P2 := Lib.hid (P2.out.trans p)
      replace P3 := Lib.hid (P3.out.trans p)
      replace P4 := Lib.hid (P4.out.trans p)
      have P5 : Hid (N5 <+: N5) := Lib.hid List.prefix_rfl
      have F5 := Lib.hid f
      clear c p f
      replace F5 : Hid (Has N5 vo (1, lNone, [])) := Lib.hid F5.out
      have c := g.firstG (HGV.out.below g.st.bel) (by have := HL.out; omega) (by omega)
      clear g
      go_wp2_with fail
      refine c.mono ?_
      rintro e w7 ⟨N7, va, vb, rfl, g, p, f⟩
      replace P0 := Lib.hid (P0.out.trans p)
      replace P1 := Lib.hid (P1.out.trans p)
      replace P2 := Lib.hid (P2.out.trans p)
      replace P3 := Lib.hid (P3.out.trans p)
      replace P4 := Lib.hid (P4.out.trans p)
      replace P5 := Lib.hid (P5.out.trans p)
      have P7 : Hid (N7 <+: N7) := Lib.hid List.prefix_rfl
      have F7 := Lib.hid f
      clear c p f
      have c := g.textG (HGV.out.below g.st.bel) (by have := HL.out; omega) (by omega)
      clear g
      go_wp2_with fail
      refine c.mono ?_
      rintro e w8 ⟨N8, vg, rfl, g, p, f⟩
      replace P0 := Lib.hid (P0.out.trans p)
      replace P1 := Lib.hid (P1.out.trans p)
      replace P2 := Lib.hid (P2.out.trans p)
      replace P3 := Lib.hid (P3.out.trans p)
      replace P4 := Lib.hid (P4.out.trans p)
      replace P5 := Lib.hid (P5.out.trans p)
      replace P7 := Lib.hid (P7.out.trans p)
      have P8 : Hid (N8 <+: N8) := Lib.hid List.prefix_rfl
      have F8 := Lib.hid f
      clear c p f
      replace F7 : Hid (Der0 N8 va vg lClientIn ∧ Der0 N8 vb vg lServerIn) := Lib.hid (by obtain ⟨g2, h1, h2, h3⟩ := F7.out; obtain rfl := (h1.ext P7.out).num F8.out; exact ⟨h2.ext P7.out, h3.ext P7.out⟩)
      have c := g.earlyG 0 (.inl rfl) (by omega)
      clear g
      go_wp2_with fail
      refine c.mono ?_
      rintro e w9 ⟨N9, ve, rfl, g, p, f⟩
      replace P0 := Lib.hid (P0.out.trans p)
      replace P1 := Lib.hid (P1.out.trans p)
      replace P2 := Lib.hid (P2.out.trans p)
      replace P3 := Lib.hid (P3.out.trans p)
      replace P4 := Lib.hid (P4.out.trans p)
      replace P5 := Lib.hid (P5.out.trans p)
      replace P7 := Lib.hid (P7.out.trans p)
      replace P8 := Lib.hid (P8.out.trans p)
      have P9 : Hid (N9 <+: N9) := Lib.hid List.prefix_rfl
      have F9 := Lib.hid f
      clear c p f
      replace F9 : Hid (Der0 N9 ve vo lEarly) := Lib.hid (by
        obtain ⟨o, ho, hd⟩ := F9.out
        rcases ho with ⟨_, ho⟩ | ⟨h0, _⟩
        · rw [(F5.out.ext P5.out).num ho]; exact hd
        · exact absurd rfl h0)
      have c := g.shakenG (rng_ext (F9.out.rng) P9.out) (rng_ext (⟨F4.out.pos, F4.out.le⟩) P4.out) (by omega)
      clear g
      go_wp2_with fail
      refine c.mono ?_
      rintro e w10 ⟨N10, vk, rfl, g, p, f⟩
      replace P0 := Lib.hid (P0.out.trans p)
      replace P1 := Lib.hid (P1.out.trans p)
      replace P2 := Lib.hid (P2.out.trans p)
      replace P3 := Lib.hid (P3.out.trans p)
      replace P4 := Lib.hid (P4.out.trans p)
      replace P5 := Lib.hid (P5.out.trans p)
      replace P7 := Lib.hid (P7.out.trans p)
      replace P8 := Lib.hid (P8.out.trans p)
      replace P9 := Lib.hid (P9.out.trans p)
      have P10 : Hid (N10 <+: N10) := Lib.hid List.prefix_rfl
      have F10 := Lib.hid f
      clear c p f
      have c := g.shakenTrafficG (rng_ext ((by obtain ⟨r, _, hd⟩ := F10.out; exact hd.rng)) P10.out) (rng_ext (F0.out.rng) P0.out) (by omega)
      clear g
      go_wp2_with fail
      refine c.mono ?_
      rintro e w11 ⟨N11, vc, vd, rfl, g, p, f⟩
      replace P0 := Lib.hid (P0.out.trans p)
      replace P1 := Lib.hid (P1.out.trans p)
      replace P2 := Lib.hid (P2.out.trans p)
      replace P3 := Lib.hid (P3.out.trans p)
      replace P4 := Lib.hid (P4.out.trans p)
      replace P5 := Lib.hid (P5.out.trans p)
      replace P7 := Lib.hid (P7.out.trans p)
      replace P8 := Lib.hid (P8.out.trans p)
      replace P9 := Lib.hid (P9.out.trans p)
      replace P10 := Lib.hid (P10.out.trans p)
      have P11 : Hid (N11 <+: N11) := Lib.hid List.prefix_rfl
      have F11 := Lib.hid f
      clear c p f
      have c := g.mainG (rng_ext ((by obtain ⟨r, _, hd⟩ := F10.out; exact hd.rng)) P10.out) (by omega)
      clear g
      go_wp2_with fail
      refine c.mono ?_
      rintro e w12 ⟨N12, vm, rfl, g, p, f⟩
      replace P0 := Lib.hid (P0.out.trans p)
      replace P1 := Lib.hid (P1.out.trans p)
      replace P2 := Lib.hid (P2.out.trans p)
      replace P3 := Lib.hid (P3.out.trans p)
      replace P4 := Lib.hid (P4.out.trans p)
      replace P5 := Lib.hid (P5.out.trans p)
      replace P7 := Lib.hid (P7.out.trans p)
      replace P8 := Lib.hid (P8.out.trans p)
      replace P9 := Lib.hid (P9.out.trans p)
      replace P10 := Lib.hid (P10.out.trans p)
      replace P11 := Lib.hid (P11.out.trans p)
      have P12 : Hid (N12 <+: N12) := Lib.hid List.prefix_rfl
      have F12 := Lib.hid f
      clear c p f
      have c := g.mainTrafficG (rng_ext (F12.out.rng) P12.out) (rng_ext (F0.out.rng) P0.out) (by omega)
      clear g
      go_wp2_with fail
      refine c.mono ?_
      rintro e w13 ⟨N13, vq, vr, rfl, g, p, f⟩
      replace P0 := Lib.hid (P0.out.trans p)
      replace P1 := Lib.hid (P1.out.trans p)
      replace P2 := Lib.hid (P2.out.trans p)
      replace P3 := Lib.hid (P3.out.trans p)
      replace P4 := Lib.hid (P4.out.trans p)
      replace P5 := Lib.hid (P5.out.trans p)
      replace P7 := Lib.hid (P7.out.trans p)
      replace P8 := Lib.hid (P8.out.trans p)
      replace P9 := Lib.hid (P9.out.trans p)
      replace P10 := Lib.hid (P10.out.trans p)
      replace P11 := Lib.hid (P11.out.trans p)
      replace P12 := Lib.hid (P12.out.trans p)
      have P13 : Hid (N13 <+: N13) := Lib.hid List.prefix_rfl
      have F13 := Lib.hid f
      clear c p f
      have c := g.finishedG (rng_ext (F11.out.1.rng) P11.out) (rng_ext (F0.out.rng) P0.out) (by omega)
      clear g
      go_wp2_with fail
      refine c.mono ?_
      rintro e w14 ⟨N14, vf, rfl, g, p, f⟩
      replace P0 := Lib.hid (P0.out.trans p)
      replace P1 := Lib.hid (P1.out.trans p)
      replace P2 := Lib.hid (P2.out.trans p)
      replace P3 := Lib.hid (P3.out.trans p)
      replace P4 := Lib.hid (P4.out.trans p)
      replace P5 := Lib.hid (P5.out.trans p)
      replace P7 := Lib.hid (P7.out.trans p)
      replace P8 := Lib.hid (P8.out.trans p)
      replace P9 := Lib.hid (P9.out.trans p)
      replace P10 := Lib.hid (P10.out.trans p)
      replace P11 := Lib.hid (P11.out.trans p)
      replace P12 := Lib.hid (P12.out.trans p)
      replace P13 := Lib.hid (P13.out.trans p)
      have P14 : Hid (N14 <+: N14) := Lib.hid List.prefix_rfl
      have F14 := Lib.hid f
      clear c p f
      have c := g.binderG (rng_ext (F9.out.rng) P9.out) (rng_ext (F0.out.rng) P0.out) (by omega)
      clear g
      go_wp2_with fail
      refine c.mono ?_
      rintro e w15 ⟨N15, vi, rfl, g, p, f⟩
      replace P0 := Lib.hid (P0.out.trans p)
      replace P1 := Lib.hid (P1.out.trans p)
      replace P2 := Lib.hid (P2.out.trans p)
      replace P3 := Lib.hid (P3.out.trans p)
      replace P4 := Lib.hid (P4.out.trans p)
      replace P5 := Lib.hid (P5.out.trans p)
      replace P7 := Lib.hid (P7.out.trans p)
      replace P8 := Lib.hid (P8.out.trans p)
      replace P9 := Lib.hid (P9.out.trans p)
      replace P10 := Lib.hid (P10.out.trans p)
      replace P11 := Lib.hid (P11.out.trans p)
      replace P12 := Lib.hid (P12.out.trans p)
      replace P13 := Lib.hid (P13.out.trans p)
      replace P14 := Lib.hid (P14.out.trans p)
      have P15 : Hid (N15 <+: N15) := Lib.hid List.prefix_rfl
      have F15 := Lib.hid f
      clear c p f
      have c := g.signedG (rng_ext (F0.out.rng) P0.out) (by omega)
      clear g
      go_wp2_with fail
      refine c.mono ?_
      rintro e w16 ⟨N16, vz, rfl, g, p, f⟩
      replace P0 := Lib.hid (P0.out.trans p)
      replace P1 := Lib.hid (P1.out.trans p)
      replace P2 := Lib.hid (P2.out.trans p)
      replace P3 := Lib.hid (P3.out.trans p)
      replace P4 := Lib.hid (P4.out.trans p)
      replace P5 := Lib.hid (P5.out.trans p)
      replace P7 := Lib.hid (P7.out.trans p)
      replace P8 := Lib.hid (P8.out.trans p)
      replace P9 := Lib.hid (P9.out.trans p)
      replace P10 := Lib.hid (P10.out.trans p)
      replace P11 := Lib.hid (P11.out.trans p)
      replace P12 := Lib.hid (P12.out.trans p)
      replace P13 := Lib.hid (P13.out.trans p)
      replace P14 := Lib.hid (P14.out.trans p)
      replace P15 := Lib.hid (P15.out.trans p)
      have P16 : Hid (N16 <+: N16) := Lib.hid List.prefix_rfl
      have F16 := Lib.hid f
      clear c p f
      obtain ⟨kf, hk, h5⟩ := F14.out
      have c := g.lookM (h5.ext P14.out)
      have Df := Lib.hid hk
      clear g hk h5
      go_wp2_with fail
      refine c.mono ?_
      rintro e w17 ⟨gf, capf, curf, rfl, cmf, cxf, g, e0, e1⟩
      have Cf := Lib.hid (And.intro e0 e1)
      replace g := Gd.mk (g.st.guest (.cells #[.int .i64 5, .string ByteArray.empty, .slice (some ⟨gf, 0, none⟩) 2 capf] 40) w17.heap.size rfl) g.good g.len
      clear c e0 e1
      obtain ⟨ki, hk, h5⟩ := F15.out
      have c := g.lookM (h5.ext P15.out)
      have Di := Lib.hid hk
      clear g hk h5
      go_wp2_with fail
      refine c.mono ?_
      rintro e w18 ⟨gi, capi, curi, rfl, cmi, cxi, g, e0, e1⟩
      have Ci := Lib.hid (And.intro e0 e1)
      have x0 := guest_cell (j := 0) (e := 40) g (g := w17.heap.size) (List.mem_cons_of_mem _ List.mem_cons_self) rfl
      have x2 := guest_cell (j := 2) (e := 40) g (g := w17.heap.size) (List.mem_cons_of_mem _ List.mem_cons_self) rfl
      have x3 := guest_cell (j := 1) g (List.mem_cons_of_mem _ (List.mem_cons_of_mem _ List.mem_cons_self)) Cf.out.2
      have x4 := guest_cell (j := 1) g List.mem_cons_self Ci.out.2
      have x5 := blk_lt (g.st.own _ (List.mem_cons_of_mem _ List.mem_cons_self))
      have x6 := blk_lt (g.st.own _ (List.mem_cons_of_mem _ (List.mem_cons_of_mem _ List.mem_cons_self)))
      have x7 := blk_lt (g.st.own _ List.mem_cons_self)
      simp only at x5 x6 x7
      replace g := Gd.mk (g.st.guest (.cells #[.int .i64 5, .string ByteArray.empty, .slice (some ⟨gi, 0, none⟩) 2 capi] 40) w18.heap.size rfl) g.good g.len
      clear c e0 e1
      have c := derived_main g (r := 0) (x := xT) rfl (der0_hm (F7.out.1.ext P8.out)) (by omega)
      clear g
      go_wp2_with fail
      refine c.mono ?_
      rintro e w20 ⟨N20, rfl, g, p⟩
      replace P0 := Lib.hid (P0.out.trans p)
      replace P1 := Lib.hid (P1.out.trans p)
      replace P2 := Lib.hid (P2.out.trans p)
      replace P3 := Lib.hid (P3.out.trans p)
      replace P4 := Lib.hid (P4.out.trans p)
      replace P5 := Lib.hid (P5.out.trans p)
      replace P7 := Lib.hid (P7.out.trans p)
      replace P8 := Lib.hid (P8.out.trans p)
      replace P9 := Lib.hid (P9.out.trans p)
      replace P10 := Lib.hid (P10.out.trans p)
      replace P11 := Lib.hid (P11.out.trans p)
      replace P12 := Lib.hid (P12.out.trans p)
      replace P13 := Lib.hid (P13.out.trans p)
      replace P14 := Lib.hid (P14.out.trans p)
      replace P15 := Lib.hid (P15.out.trans p)
      replace P16 := Lib.hid (P16.out.trans p)
      have P20 : Hid (N20 <+: N20) := Lib.hid List.prefix_rfl
      clear c p
      try clear x0 x2 x3 x4 x5 x6 x7
      have c := derived_main g (r := 1) (x := xT) rfl (der0_hm (F7.out.2.ext P8.out)) (by omega)
      clear g
      go_wp2_with fail
      refine c.mono ?_
      rintro e w21 ⟨N21, rfl, g, p⟩
      replace P0 := Lib.hid (P0.out.trans p)
      replace P1 := Lib.hid (P1.out.trans p)
      replace P2 := Lib.hid (P2.out.trans p)
      replace P3 := Lib.hid (P3.out.trans p)
      replace P4 := Lib.hid (P4.out.trans p)
      replace P5 := Lib.hid (P5.out.trans p)
      replace P7 := Lib.hid (P7.out.trans p)
      replace P8 := Lib.hid (P8.out.trans p)
      replace P9 := Lib.hid (P9.out.trans p)
      replace P10 := Lib.hid (P10.out.trans p)
      replace P11 := Lib.hid (P11.out.trans p)
      replace P12 := Lib.hid (P12.out.trans p)
      replace P13 := Lib.hid (P13.out.trans p)
      replace P14 := Lib.hid (P14.out.trans p)
      replace P15 := Lib.hid (P15.out.trans p)
      replace P16 := Lib.hid (P16.out.trans p)
      replace P20 := Lib.hid (P20.out.trans p)
      have P21 : Hid (N21 <+: N21) := Lib.hid List.prefix_rfl
      clear c p
      have c := derived_main g (r := 2) (x := xT) rfl (der0_hm (F9.out.ext P9.out)) (by omega)
      clear g
      go_wp2_with fail
      refine c.mono ?_
      rintro e w22 ⟨N22, rfl, g, p⟩
      replace P0 := Lib.hid (P0.out.trans p)
      replace P1 := Lib.hid (P1.out.trans p)
      replace P2 := Lib.hid (P2.out.trans p)
      replace P3 := Lib.hid (P3.out.trans p)
      replace P4 := Lib.hid (P4.out.trans p)
      replace P5 := Lib.hid (P5.out.trans p)
      replace P7 := Lib.hid (P7.out.trans p)
      replace P8 := Lib.hid (P8.out.trans p)
      replace P9 := Lib.hid (P9.out.trans p)
      replace P10 := Lib.hid (P10.out.trans p)
      replace P11 := Lib.hid (P11.out.trans p)
      replace P12 := Lib.hid (P12.out.trans p)
      replace P13 := Lib.hid (P13.out.trans p)
      replace P14 := Lib.hid (P14.out.trans p)
      replace P15 := Lib.hid (P15.out.trans p)
      replace P16 := Lib.hid (P16.out.trans p)
      replace P20 := Lib.hid (P20.out.trans p)
      replace P21 := Lib.hid (P21.out.trans p)
      have P22 : Hid (N22 <+: N22) := Lib.hid List.prefix_rfl
      clear c p
      have c := g.earlyTrafficG (rng_ext (F9.out.rng) P9.out) (rng_ext (F0.out.rng) P0.out) (by omega)
      clear g
      go_wp2_with fail
      refine c.mono ?_
      rintro e w23 ⟨N23, v23, rfl, g, p, f⟩
      replace P0 := Lib.hid (P0.out.trans p)
      replace P1 := Lib.hid (P1.out.trans p)
      replace P2 := Lib.hid (P2.out.trans p)
      replace P3 := Lib.hid (P3.out.trans p)
      replace P4 := Lib.hid (P4.out.trans p)
      replace P5 := Lib.hid (P5.out.trans p)
      replace P7 := Lib.hid (P7.out.trans p)
      replace P8 := Lib.hid (P8.out.trans p)
      replace P9 := Lib.hid (P9.out.trans p)
      replace P10 := Lib.hid (P10.out.trans p)
      replace P11 := Lib.hid (P11.out.trans p)
      replace P12 := Lib.hid (P12.out.trans p)
      replace P13 := Lib.hid (P13.out.trans p)
      replace P14 := Lib.hid (P14.out.trans p)
      replace P15 := Lib.hid (P15.out.trans p)
      replace P16 := Lib.hid (P16.out.trans p)
      replace P20 := Lib.hid (P20.out.trans p)
      replace P21 := Lib.hid (P21.out.trans p)
      replace P22 := Lib.hid (P22.out.trans p)
      have P23 : Hid (N23 <+: N23) := Lib.hid List.prefix_rfl
      have F23 := Lib.hid f
      clear c p f
      have c := derived_main g (r := 3) (x := xT) rfl (der_hm (F23.out.ext P23.out)) (by omega)
      clear g
      go_wp2_with fail
      refine c.mono ?_
      rintro e w24 ⟨N24, rfl, g, p⟩
      replace P0 := Lib.hid (P0.out.trans p)
      replace P1 := Lib.hid (P1.out.trans p)
      replace P2 := Lib.hid (P2.out.trans p)
      replace P3 := Lib.hid (P3.out.trans p)
      replace P4 := Lib.hid (P4.out.trans p)
      replace P5 := Lib.hid (P5.out.trans p)
      replace P7 := Lib.hid (P7.out.trans p)
      replace P8 := Lib.hid (P8.out.trans p)
      replace P9 := Lib.hid (P9.out.trans p)
      replace P10 := Lib.hid (P10.out.trans p)
      replace P11 := Lib.hid (P11.out.trans p)
      replace P12 := Lib.hid (P12.out.trans p)
      replace P13 := Lib.hid (P13.out.trans p)
      replace P14 := Lib.hid (P14.out.trans p)
      replace P15 := Lib.hid (P15.out.trans p)
      replace P16 := Lib.hid (P16.out.trans p)
      replace P20 := Lib.hid (P20.out.trans p)
      replace P21 := Lib.hid (P21.out.trans p)
      replace P22 := Lib.hid (P22.out.trans p)
      replace P23 := Lib.hid (P23.out.trans p)
      have P24 : Hid (N24 <+: N24) := Lib.hid List.prefix_rfl
      clear c p
      replace g := g.keep (below_alloc w24 (.cells (cs .i64 [ve, vs]).toArray 26))
      have c := g.pair (k := 3) (.inl rfl) (rng_ext (F9.out.rng) P9.out) (rng_ext (⟨F4.out.pos, F4.out.le⟩) P4.out) (Rd.lit .i64 26 w24 [ve, vs] (by simp)) (by omega)
      clear g
      go_wp2_with fail
      refine c.mono ?_
      rintro e w25 ⟨N25, v25, rfl, g, p, f⟩
      replace P0 := Lib.hid (P0.out.trans p)
      replace P1 := Lib.hid (P1.out.trans p)
      replace P2 := Lib.hid (P2.out.trans p)
      replace P3 := Lib.hid (P3.out.trans p)
      replace P4 := Lib.hid (P4.out.trans p)
      replace P5 := Lib.hid (P5.out.trans p)
      replace P7 := Lib.hid (P7.out.trans p)
      replace P8 := Lib.hid (P8.out.trans p)
      replace P9 := Lib.hid (P9.out.trans p)
      replace P10 := Lib.hid (P10.out.trans p)
      replace P11 := Lib.hid (P11.out.trans p)
      replace P12 := Lib.hid (P12.out.trans p)
      replace P13 := Lib.hid (P13.out.trans p)
      replace P14 := Lib.hid (P14.out.trans p)
      replace P15 := Lib.hid (P15.out.trans p)
      replace P16 := Lib.hid (P16.out.trans p)
      replace P20 := Lib.hid (P20.out.trans p)
      replace P21 := Lib.hid (P21.out.trans p)
      replace P22 := Lib.hid (P22.out.trans p)
      replace P23 := Lib.hid (P23.out.trans p)
      replace P24 := Lib.hid (P24.out.trans p)
      have P25 : Hid (N25 <+: N25) := Lib.hid List.prefix_rfl
      have F25 := Lib.hid f
      clear c p f
      replace F10 : Hid (Der0 N25 vk v25 lHandshake) := Lib.hid (by obtain ⟨r, h1, h2⟩ := F10.out; obtain rfl := (h1.ext P10.out).num F25.out; exact h2.ext P10.out)
      have c := derived_main g (r := 4) (x := xT) rfl (der0_hm (F10.out.ext P25.out)) (by omega)
      clear g
      go_wp2_with fail
      refine c.mono ?_
      rintro e w26 ⟨N26, rfl, g, p⟩
      replace P0 := Lib.hid (P0.out.trans p)
      replace P1 := Lib.hid (P1.out.trans p)
      replace P2 := Lib.hid (P2.out.trans p)
      replace P3 := Lib.hid (P3.out.trans p)
      replace P4 := Lib.hid (P4.out.trans p)
      replace P5 := Lib.hid (P5.out.trans p)
      replace P7 := Lib.hid (P7.out.trans p)
      replace P8 := Lib.hid (P8.out.trans p)
      replace P9 := Lib.hid (P9.out.trans p)
      replace P10 := Lib.hid (P10.out.trans p)
      replace P11 := Lib.hid (P11.out.trans p)
      replace P12 := Lib.hid (P12.out.trans p)
      replace P13 := Lib.hid (P13.out.trans p)
      replace P14 := Lib.hid (P14.out.trans p)
      replace P15 := Lib.hid (P15.out.trans p)
      replace P16 := Lib.hid (P16.out.trans p)
      replace P20 := Lib.hid (P20.out.trans p)
      replace P21 := Lib.hid (P21.out.trans p)
      replace P22 := Lib.hid (P22.out.trans p)
      replace P23 := Lib.hid (P23.out.trans p)
      replace P24 := Lib.hid (P24.out.trans p)
      replace P25 := Lib.hid (P25.out.trans p)
      have P26 : Hid (N26 <+: N26) := Lib.hid List.prefix_rfl
      clear c p
      have c := derived_main g (r := 5) (x := xT) rfl (der_hm (F11.out.1.ext P11.out)) (by omega)
      clear g
      go_wp2_with fail
      refine c.mono ?_
      rintro e w27 ⟨N27, rfl, g, p⟩
      replace P0 := Lib.hid (P0.out.trans p)
      replace P1 := Lib.hid (P1.out.trans p)
      replace P2 := Lib.hid (P2.out.trans p)
      replace P3 := Lib.hid (P3.out.trans p)
      replace P4 := Lib.hid (P4.out.trans p)
      replace P5 := Lib.hid (P5.out.trans p)
      replace P7 := Lib.hid (P7.out.trans p)
      replace P8 := Lib.hid (P8.out.trans p)
      replace P9 := Lib.hid (P9.out.trans p)
      replace P10 := Lib.hid (P10.out.trans p)
      replace P11 := Lib.hid (P11.out.trans p)
      replace P12 := Lib.hid (P12.out.trans p)
      replace P13 := Lib.hid (P13.out.trans p)
      replace P14 := Lib.hid (P14.out.trans p)
      replace P15 := Lib.hid (P15.out.trans p)
      replace P16 := Lib.hid (P16.out.trans p)
      replace P20 := Lib.hid (P20.out.trans p)
      replace P21 := Lib.hid (P21.out.trans p)
      replace P22 := Lib.hid (P22.out.trans p)
      replace P23 := Lib.hid (P23.out.trans p)
      replace P24 := Lib.hid (P24.out.trans p)
      replace P25 := Lib.hid (P25.out.trans p)
      replace P26 := Lib.hid (P26.out.trans p)
      have P27 : Hid (N27 <+: N27) := Lib.hid List.prefix_rfl
      clear c p
      have c := derived_main g (r := 6) (x := xT) rfl (der_hm (F11.out.2.ext P11.out)) (by omega)
      clear g
      go_wp2_with fail
      refine c.mono ?_
      rintro e w28 ⟨N28, rfl, g, p⟩
      replace P0 := Lib.hid (P0.out.trans p)
      replace P1 := Lib.hid (P1.out.trans p)
      replace P2 := Lib.hid (P2.out.trans p)
      replace P3 := Lib.hid (P3.out.trans p)
      replace P4 := Lib.hid (P4.out.trans p)
      replace P5 := Lib.hid (P5.out.trans p)
      replace P7 := Lib.hid (P7.out.trans p)
      replace P8 := Lib.hid (P8.out.trans p)
      replace P9 := Lib.hid (P9.out.trans p)
      replace P10 := Lib.hid (P10.out.trans p)
      replace P11 := Lib.hid (P11.out.trans p)
      replace P12 := Lib.hid (P12.out.trans p)
      replace P13 := Lib.hid (P13.out.trans p)
      replace P14 := Lib.hid (P14.out.trans p)
      replace P15 := Lib.hid (P15.out.trans p)
      replace P16 := Lib.hid (P16.out.trans p)
      replace P20 := Lib.hid (P20.out.trans p)
      replace P21 := Lib.hid (P21.out.trans p)
      replace P22 := Lib.hid (P22.out.trans p)
      replace P23 := Lib.hid (P23.out.trans p)
      replace P24 := Lib.hid (P24.out.trans p)
      replace P25 := Lib.hid (P25.out.trans p)
      replace P26 := Lib.hid (P26.out.trans p)
      replace P27 := Lib.hid (P27.out.trans p)
      have P28 : Hid (N28 <+: N28) := Lib.hid List.prefix_rfl
      clear c p
      have c := derived_main g (r := 7) (x := xT) rfl (der0_hm (F12.out.ext P12.out)) (by omega)
      clear g
      go_wp2_with fail
      refine c.mono ?_
      rintro e w29 ⟨N29, rfl, g, p⟩
      replace P0 := Lib.hid (P0.out.trans p)
      replace P1 := Lib.hid (P1.out.trans p)
      replace P2 := Lib.hid (P2.out.trans p)
      replace P3 := Lib.hid (P3.out.trans p)
      replace P4 := Lib.hid (P4.out.trans p)
      replace P5 := Lib.hid (P5.out.trans p)
      replace P7 := Lib.hid (P7.out.trans p)
      replace P8 := Lib.hid (P8.out.trans p)
      replace P9 := Lib.hid (P9.out.trans p)
      replace P10 := Lib.hid (P10.out.trans p)
      replace P11 := Lib.hid (P11.out.trans p)
      replace P12 := Lib.hid (P12.out.trans p)
      replace P13 := Lib.hid (P13.out.trans p)
      replace P14 := Lib.hid (P14.out.trans p)
      replace P15 := Lib.hid (P15.out.trans p)
      replace P16 := Lib.hid (P16.out.trans p)
      replace P20 := Lib.hid (P20.out.trans p)
      replace P21 := Lib.hid (P21.out.trans p)
      replace P22 := Lib.hid (P22.out.trans p)
      replace P23 := Lib.hid (P23.out.trans p)
      replace P24 := Lib.hid (P24.out.trans p)
      replace P25 := Lib.hid (P25.out.trans p)
      replace P26 := Lib.hid (P26.out.trans p)
      replace P27 := Lib.hid (P27.out.trans p)
      replace P28 := Lib.hid (P28.out.trans p)
      have P29 : Hid (N29 <+: N29) := Lib.hid List.prefix_rfl
      clear c p
      have c := derived_main g (r := 8) (x := xT) rfl (der_hm (F13.out.1.ext P13.out)) (by omega)
      clear g
      go_wp2_with fail
      refine c.mono ?_
      rintro e w30 ⟨N30, rfl, g, p⟩
      replace P0 := Lib.hid (P0.out.trans p)
      replace P1 := Lib.hid (P1.out.trans p)
      replace P2 := Lib.hid (P2.out.trans p)
      replace P3 := Lib.hid (P3.out.trans p)
      replace P4 := Lib.hid (P4.out.trans p)
      replace P5 := Lib.hid (P5.out.trans p)
      replace P7 := Lib.hid (P7.out.trans p)
      replace P8 := Lib.hid (P8.out.trans p)
      replace P9 := Lib.hid (P9.out.trans p)
      replace P10 := Lib.hid (P10.out.trans p)
      replace P11 := Lib.hid (P11.out.trans p)
      replace P12 := Lib.hid (P12.out.trans p)
      replace P13 := Lib.hid (P13.out.trans p)
      replace P14 := Lib.hid (P14.out.trans p)
      replace P15 := Lib.hid (P15.out.trans p)
      replace P16 := Lib.hid (P16.out.trans p)
      replace P20 := Lib.hid (P20.out.trans p)
      replace P21 := Lib.hid (P21.out.trans p)
      replace P22 := Lib.hid (P22.out.trans p)
      replace P23 := Lib.hid (P23.out.trans p)
      replace P24 := Lib.hid (P24.out.trans p)
      replace P25 := Lib.hid (P25.out.trans p)
      replace P26 := Lib.hid (P26.out.trans p)
      replace P27 := Lib.hid (P27.out.trans p)
      replace P28 := Lib.hid (P28.out.trans p)
      replace P29 := Lib.hid (P29.out.trans p)
      have P30 : Hid (N30 <+: N30) := Lib.hid List.prefix_rfl
      clear c p
      have c := derived_main g (r := 9) (x := xT) rfl (der_hm (F13.out.2.ext P13.out)) (by omega)
      clear g
      go_wp2_with fail
      refine c.mono ?_
      rintro e w31 ⟨N31, rfl, g, p⟩
      replace P0 := Lib.hid (P0.out.trans p)
      replace P1 := Lib.hid (P1.out.trans p)
      replace P2 := Lib.hid (P2.out.trans p)
      replace P3 := Lib.hid (P3.out.trans p)
      replace P4 := Lib.hid (P4.out.trans p)
      replace P5 := Lib.hid (P5.out.trans p)
      replace P7 := Lib.hid (P7.out.trans p)
      replace P8 := Lib.hid (P8.out.trans p)
      replace P9 := Lib.hid (P9.out.trans p)
      replace P10 := Lib.hid (P10.out.trans p)
      replace P11 := Lib.hid (P11.out.trans p)
      replace P12 := Lib.hid (P12.out.trans p)
      replace P13 := Lib.hid (P13.out.trans p)
      replace P14 := Lib.hid (P14.out.trans p)
      replace P15 := Lib.hid (P15.out.trans p)
      replace P16 := Lib.hid (P16.out.trans p)
      replace P20 := Lib.hid (P20.out.trans p)
      replace P21 := Lib.hid (P21.out.trans p)
      replace P22 := Lib.hid (P22.out.trans p)
      replace P23 := Lib.hid (P23.out.trans p)
      replace P24 := Lib.hid (P24.out.trans p)
      replace P25 := Lib.hid (P25.out.trans p)
      replace P26 := Lib.hid (P26.out.trans p)
      replace P27 := Lib.hid (P27.out.trans p)
      replace P28 := Lib.hid (P28.out.trans p)
      replace P29 := Lib.hid (P29.out.trans p)
      replace P30 := Lib.hid (P30.out.trans p)
      have P31 : Hid (N31 <+: N31) := Lib.hid List.prefix_rfl
      clear c p
      have c := g.resumeG (rng_ext (F12.out.rng) P12.out) (rng_ext (F0.out.rng) P0.out) (by omega)
      clear g
      go_wp2_with fail
      refine c.mono ?_
      rintro e w32 ⟨N32, v32, rfl, g, p, f⟩
      replace P0 := Lib.hid (P0.out.trans p)
      replace P1 := Lib.hid (P1.out.trans p)
      replace P2 := Lib.hid (P2.out.trans p)
      replace P3 := Lib.hid (P3.out.trans p)
      replace P4 := Lib.hid (P4.out.trans p)
      replace P5 := Lib.hid (P5.out.trans p)
      replace P7 := Lib.hid (P7.out.trans p)
      replace P8 := Lib.hid (P8.out.trans p)
      replace P9 := Lib.hid (P9.out.trans p)
      replace P10 := Lib.hid (P10.out.trans p)
      replace P11 := Lib.hid (P11.out.trans p)
      replace P12 := Lib.hid (P12.out.trans p)
      replace P13 := Lib.hid (P13.out.trans p)
      replace P14 := Lib.hid (P14.out.trans p)
      replace P15 := Lib.hid (P15.out.trans p)
      replace P16 := Lib.hid (P16.out.trans p)
      replace P20 := Lib.hid (P20.out.trans p)
      replace P21 := Lib.hid (P21.out.trans p)
      replace P22 := Lib.hid (P22.out.trans p)
      replace P23 := Lib.hid (P23.out.trans p)
      replace P24 := Lib.hid (P24.out.trans p)
      replace P25 := Lib.hid (P25.out.trans p)
      replace P26 := Lib.hid (P26.out.trans p)
      replace P27 := Lib.hid (P27.out.trans p)
      replace P28 := Lib.hid (P28.out.trans p)
      replace P29 := Lib.hid (P29.out.trans p)
      replace P30 := Lib.hid (P30.out.trans p)
      replace P31 := Lib.hid (P31.out.trans p)
      have P32 : Hid (N32 <+: N32) := Lib.hid List.prefix_rfl
      have F32 := Lib.hid f
      clear c p f
      have c := derived_main g (r := 10) (x := xT) rfl (der_hm (F32.out.ext P32.out)) (by omega)
      clear g
      go_wp2_with fail
      refine c.mono ?_
      rintro e w33 ⟨N33, rfl, g, p⟩
      replace P0 := Lib.hid (P0.out.trans p)
      replace P1 := Lib.hid (P1.out.trans p)
      replace P2 := Lib.hid (P2.out.trans p)
      replace P3 := Lib.hid (P3.out.trans p)
      replace P4 := Lib.hid (P4.out.trans p)
      replace P5 := Lib.hid (P5.out.trans p)
      replace P7 := Lib.hid (P7.out.trans p)
      replace P8 := Lib.hid (P8.out.trans p)
      replace P9 := Lib.hid (P9.out.trans p)
      replace P10 := Lib.hid (P10.out.trans p)
      replace P11 := Lib.hid (P11.out.trans p)
      replace P12 := Lib.hid (P12.out.trans p)
      replace P13 := Lib.hid (P13.out.trans p)
      replace P14 := Lib.hid (P14.out.trans p)
      replace P15 := Lib.hid (P15.out.trans p)
      replace P16 := Lib.hid (P16.out.trans p)
      replace P20 := Lib.hid (P20.out.trans p)
      replace P21 := Lib.hid (P21.out.trans p)
      replace P22 := Lib.hid (P22.out.trans p)
      replace P23 := Lib.hid (P23.out.trans p)
      replace P24 := Lib.hid (P24.out.trans p)
      replace P25 := Lib.hid (P25.out.trans p)
      replace P26 := Lib.hid (P26.out.trans p)
      replace P27 := Lib.hid (P27.out.trans p)
      replace P28 := Lib.hid (P28.out.trans p)
      replace P29 := Lib.hid (P29.out.trans p)
      replace P30 := Lib.hid (P30.out.trans p)
      replace P31 := Lib.hid (P31.out.trans p)
      replace P32 := Lib.hid (P32.out.trans p)
      have P33 : Hid (N33 <+: N33) := Lib.hid List.prefix_rfl
      clear c p
      have y0 := guest_cell (j := 2) (e := 40) g (g := w17.heap.size) (List.mem_cons_of_mem _ (List.mem_cons_of_mem _ List.mem_cons_self)) rfl
      have y1 := guest_cell (j := 0) g (List.mem_cons_of_mem _ (List.mem_cons_of_mem _ (List.mem_cons_of_mem _ List.mem_cons_self))) Cf.out.1
      have c := derived_main g (r := 11) (x := xT) rfl (der0_hm (Df.out.ext P14.out)) (by omega)
      clear g
      go_wp2_with fail
      refine c.mono ?_
      rintro e w34 ⟨N34, rfl, g, p⟩
      replace P0 := Lib.hid (P0.out.trans p)
      replace P1 := Lib.hid (P1.out.trans p)
      replace P2 := Lib.hid (P2.out.trans p)
      replace P3 := Lib.hid (P3.out.trans p)
      replace P4 := Lib.hid (P4.out.trans p)
      replace P5 := Lib.hid (P5.out.trans p)
      replace P7 := Lib.hid (P7.out.trans p)
      replace P8 := Lib.hid (P8.out.trans p)
      replace P9 := Lib.hid (P9.out.trans p)
      replace P10 := Lib.hid (P10.out.trans p)
      replace P11 := Lib.hid (P11.out.trans p)
      replace P12 := Lib.hid (P12.out.trans p)
      replace P13 := Lib.hid (P13.out.trans p)
      replace P14 := Lib.hid (P14.out.trans p)
      replace P15 := Lib.hid (P15.out.trans p)
      replace P16 := Lib.hid (P16.out.trans p)
      replace P20 := Lib.hid (P20.out.trans p)
      replace P21 := Lib.hid (P21.out.trans p)
      replace P22 := Lib.hid (P22.out.trans p)
      replace P23 := Lib.hid (P23.out.trans p)
      replace P24 := Lib.hid (P24.out.trans p)
      replace P25 := Lib.hid (P25.out.trans p)
      replace P26 := Lib.hid (P26.out.trans p)
      replace P27 := Lib.hid (P27.out.trans p)
      replace P28 := Lib.hid (P28.out.trans p)
      replace P29 := Lib.hid (P29.out.trans p)
      replace P30 := Lib.hid (P30.out.trans p)
      replace P31 := Lib.hid (P31.out.trans p)
      replace P32 := Lib.hid (P32.out.trans p)
      replace P33 := Lib.hid (P33.out.trans p)
      have P34 : Hid (N34 <+: N34) := Lib.hid List.prefix_rfl
      clear c p
      clear y0 y1
      have y0 := guest_cell (j := 2) (e := 40) g (g := w18.heap.size) List.mem_cons_self rfl
      have y1 := guest_cell (j := 0) g (List.mem_cons_of_mem _ List.mem_cons_self) Ci.out.1
      have c := derived_main g (r := 12) (x := xT) rfl (der0_hm (Di.out.ext P15.out)) (by omega)
      clear g
      go_wp2_with fail
      refine c.mono ?_
      rintro e w35 ⟨N35, rfl, g, p⟩
      replace P0 := Lib.hid (P0.out.trans p)
      replace P1 := Lib.hid (P1.out.trans p)
      replace P2 := Lib.hid (P2.out.trans p)
      replace P3 := Lib.hid (P3.out.trans p)
      replace P4 := Lib.hid (P4.out.trans p)
      replace P5 := Lib.hid (P5.out.trans p)
      replace P7 := Lib.hid (P7.out.trans p)
      replace P8 := Lib.hid (P8.out.trans p)
      replace P9 := Lib.hid (P9.out.trans p)
      replace P10 := Lib.hid (P10.out.trans p)
      replace P11 := Lib.hid (P11.out.trans p)
      replace P12 := Lib.hid (P12.out.trans p)
      replace P13 := Lib.hid (P13.out.trans p)
      replace P14 := Lib.hid (P14.out.trans p)
      replace P15 := Lib.hid (P15.out.trans p)
      replace P16 := Lib.hid (P16.out.trans p)
      replace P20 := Lib.hid (P20.out.trans p)
      replace P21 := Lib.hid (P21.out.trans p)
      replace P22 := Lib.hid (P22.out.trans p)
      replace P23 := Lib.hid (P23.out.trans p)
      replace P24 := Lib.hid (P24.out.trans p)
      replace P25 := Lib.hid (P25.out.trans p)
      replace P26 := Lib.hid (P26.out.trans p)
      replace P27 := Lib.hid (P27.out.trans p)
      replace P28 := Lib.hid (P28.out.trans p)
      replace P29 := Lib.hid (P29.out.trans p)
      replace P30 := Lib.hid (P30.out.trans p)
      replace P31 := Lib.hid (P31.out.trans p)
      replace P32 := Lib.hid (P32.out.trans p)
      replace P33 := Lib.hid (P33.out.trans p)
      replace P34 := Lib.hid (P34.out.trans p)
      have P35 : Hid (N35 <+: N35) := Lib.hid List.prefix_rfl
      clear c p
      clear y0 y1
      replace g := g.keep (below_alloc w35 (.cells (cs .u8 [115, 101, 114, 118, 101, 114, 32, 112, 114, 111, 111, 102]).toArray 5 ((cs .u8 [115, 101, 114, 118, 101, 114, 32, 112, 114, 111, 111, 102]).toArray.size, (cs .u8 [115, 101, 114, 118, 101, 114, 32, 112, 114, 111, 111, 102]).toArray.size + 1)))
      have c := g.textG (Rd.litM w35 [115, 101, 114, 118, 101, 114, 32, 112, 114, 111, 111, 102] 12 rfl (by simp)) (by simp) (by omega)
      clear g
      go_wp2_with fail
      refine c.mono ?_
      rintro e w36 ⟨N36, vw, rfl, g, p, f⟩
      replace P0 := Lib.hid (P0.out.trans p)
      replace P1 := Lib.hid (P1.out.trans p)
      replace P2 := Lib.hid (P2.out.trans p)
      replace P3 := Lib.hid (P3.out.trans p)
      replace P4 := Lib.hid (P4.out.trans p)
      replace P5 := Lib.hid (P5.out.trans p)
      replace P7 := Lib.hid (P7.out.trans p)
      replace P8 := Lib.hid (P8.out.trans p)
      replace P9 := Lib.hid (P9.out.trans p)
      replace P10 := Lib.hid (P10.out.trans p)
      replace P11 := Lib.hid (P11.out.trans p)
      replace P12 := Lib.hid (P12.out.trans p)
      replace P13 := Lib.hid (P13.out.trans p)
      replace P14 := Lib.hid (P14.out.trans p)
      replace P15 := Lib.hid (P15.out.trans p)
      replace P16 := Lib.hid (P16.out.trans p)
      replace P20 := Lib.hid (P20.out.trans p)
      replace P21 := Lib.hid (P21.out.trans p)
      replace P22 := Lib.hid (P22.out.trans p)
      replace P23 := Lib.hid (P23.out.trans p)
      replace P24 := Lib.hid (P24.out.trans p)
      replace P25 := Lib.hid (P25.out.trans p)
      replace P26 := Lib.hid (P26.out.trans p)
      replace P27 := Lib.hid (P27.out.trans p)
      replace P28 := Lib.hid (P28.out.trans p)
      replace P29 := Lib.hid (P29.out.trans p)
      replace P30 := Lib.hid (P30.out.trans p)
      replace P31 := Lib.hid (P31.out.trans p)
      replace P32 := Lib.hid (P32.out.trans p)
      replace P33 := Lib.hid (P33.out.trans p)
      replace P34 := Lib.hid (P34.out.trans p)
      replace P35 := Lib.hid (P35.out.trans p)
      have P36 : Hid (N36 <+: N36) := Lib.hid List.prefix_rfl
      have F36 := Lib.hid f
      clear c p f
      replace F36 : Hid (Has N36 vw (1, lProof, [])) := Lib.hid F36.out
      have hz : Has N36 vz (3, ByteArray.empty, [vw, xT]) := by obtain ⟨p0, h1, h2⟩ := F16.out; obtain rfl := (h1.ext P16.out).num F36.out; exact h2.ext P16.out
      replace g := g.keep (below_alloc w36 (.cells (cs .i64 [vw, xT]).toArray 26))
      have c := is_true g.st.st hz (Rd.lit .i64 26 w36 [vw, xT] (by simp)) (by simp) (by simp)
      have HB := Lib.hid g.st.bel
      clear g hz
      go_wp2_with fail
      refine c.mono ?_
      rintro e w37 ⟨rfl, b37⟩
      have HB2 := Lib.hid (HB.out.trans (b37.mono HB.out.size))
      clear c b37
      go_wp2_with fail
      refine (awake15 w37).mono ?_
      rintro e w38 ⟨rfl, b38⟩
      go_wp2_with fail
      go_ret
      exact ⟨rfl, HB2.out.trans (b38.mono HB2.out.size)⟩
#print axioms srows_walk0
end Go.Proofs.Ytipgidcpocgojaa
