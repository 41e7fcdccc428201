/- The document's Read of messages: 4. -/
import Derived.Test.YtefcjggmlhoebaaDoorHQR
namespace Go.Proofs.YtefcjggmlhoebaaDoor
open Go Go.RowKit

set_option maxRecDepth 20000 in
set_option maxHeartbeats 16000000 in
theorem rread_no {ok : List Int → Bool} {w : World} {v : Value} {zs : List Int} (hr : Rd w v zs) (hpl : Plain v) (hl : zs.length ≤ 1000) (ho : ¬ oneH zs) :
    Calls Tryd.prog 17 #[v] w (HRR ok zs w) := by
  have hbt := hr.byt
  have hX0 := below_alloc w (.cells (mcl 0 0 0 0 0 false (.slice none 0 0) ⟨#[]⟩ 0 0) 24)
  have N0 := rbox_new w 0 0 0 0 0 false (.slice none 0 0) ⟨#[]⟩ 0 0
  have hms := rmsgs_any (hr.below hX0) hpl (by omega)
  have HNO : Hid (hRead ok zs = none) := Lib.hid (hread_no ho)
  obtain ⟨ao, cap, rfl⟩ := hr.shape
  have HN := Lib.hid N0
  have HX := Lib.hid hX0
  unfold mcl at hms HX
  clear hr hpl N0 hX0
  go_enter Tryd.func17, Tryd.ntmps17
  go_wp2_with fail
  refine hms.mono ?_
  rintro e w1 hpost
  obtain ⟨a, c, n, okb, rfl, hb1, hcase⟩ := hpost.one hbt
  rcases hcase with ⟨_, _, h, _⟩ | ⟨hx, hn, _⟩
  · exact absurd h ho
  have HB1 := Lib.hid (HX.out.trans (hb1.mono HX.out.size))
  have HN1 := Lib.hid (HN.out.below hb1)
  obtain ⟨⟨n0, n1, n2, n3, n4, n5, n6, n7, n8, n9⟩, nf⟩ := RBox.cells HN1.out
  have hne : ((n : Int) != 1) = true := by simp [bne, hn]
  clear hms hpost hb1
  cases okb with
  | false =>
    clear hx hn hne
    go_wp2_with fail
    refine rr_end (x := hNew 0) (pv := .slice none 0 0) false _ HN1.out (Rd.nil _) HB1.out (.inl ⟨rfl, HNO.out, rfl⟩) rfl rfl
  | true =>
    clear hx
    go_wp2_with fail
    refine rr_end (x := hNew 0) (pv := .slice none 0 0) false _ HN1.out (Rd.nil _) HB1.out (.inl ⟨rfl, HNO.out, rfl⟩) rfl rfl
#print axioms rread_no
end Go.Proofs.YtefcjggmlhoebaaDoor
namespace Go.Proofs.YtefcjggmlhoebaaDoor
open Go Go.RowKit

set_option maxRecDepth 20000 in
set_option maxHeartbeats 16000000 in
theorem rread_8 {ok : List Int → Bool} (hp : RqOk ok) {w : World} {v : Value} {zs : List Int} (hr : Rd w v zs) (hpl : Plain v) (hl : zs.length ≤ 1000) (ho : oneH zs) (hk : zs.getD 0 0 = 8) :
    Calls Tryd.prog 17 #[v] w (HRR ok zs w) := by
  have hbt := hr.byt
  have h4 := ho.1
  have hX0 := below_alloc w (.cells (mcl 0 0 0 0 0 false (.slice none 0 0) ⟨#[]⟩ 0 0) 24)
  have N0 := rbox_new w 0 0 0 0 0 false (.slice none 0 0) ⟨#[]⟩ 0 0
  have hms := rmsgs_any (hr.below hX0) hpl (by omega)
  have HC := Lib.hid (hj_cases ok hbt ho)
  rcases hr.cases with ⟨rfl, _⟩ | ⟨b, off, cap, rfl, hpos, hlc, hcap, _, hcell⟩
  · simp at h4
  have k0 : w.cell? ⟨b, off, none⟩ = some (.int .u8 8) := by have := hcell 0 hpos; rwa [hk] at this
  have HD := Lib.hid (jrd_cut (t := 0) hr hpl 4 h4)
  have HN := Lib.hid N0
  have HX := Lib.hid hX0
  have HO := Lib.hid ho
  have HK := Lib.hid hk
  unfold mcl at hms HX
  clear hr hpl hcell ho hk N0 hX0
  go_enter Tryd.func17, Tryd.ntmps17
  go_wp2_with fail
  refine hms.mono ?_
  rintro e w1 hpost
  obtain ⟨a, c, n, okb, rfl, hb1, hcase⟩ := hpost.one hbt
  rcases hcase with ⟨rfl, rfl, _, g, x, b2, q, rfl, -, -⟩ | ⟨_, _, hno⟩
  case inr => exact absurd HO.out hno
  have HB1 := Lib.hid (HX.out.trans (hb1.mono HX.out.size))
  have HN1 := Lib.hid (HN.out.below hb1)
  have k1 : w1.cell? ⟨b, off, none⟩ = some (.int .u8 8) := keepH HB1.out k0
  clear hms hpost hb1 k0
  have hn4 : ((4 : Nat) : Int) ≤ (zs.length : Int) := by omega
  have hcapi : (cap : Int) ≤ 9223372036854775807 := by omega
  have hnc : (zs.length : Int) ≤ (cap : Int) := by omega
  have h0i : (0 : Int) < (zs.length : Int) := by omega
  go_wp2_with fail
  all_goals first
    | (have Q0 := qm_start 8 _ HB1.out HN1.out (HD.out.2.2 (by first | rfl | omega)).1.1 (HD.out.2.2 (by first | rfl | omega)).1.2 h4 (by omega); unfold mcl at Q0; change Calls Tryd.prog _ _ ((w1.alloc (.cells #[.int .i64 8, .int .i64 0, .int .i64 0, .int .i64 0, .int .i64 0, .bool false, .slice none 0 0, .string ⟨#[]⟩, .int .i64 0, .int .i64 0] 24)).alloc (.cells #[.slice (some ⟨b, off, none⟩) (zs.length - 4) 0, .bool false] 63)) _; generalize (w1.alloc (.cells #[.int .i64 8, .int .i64 0, .int .i64 0, .int .i64 0, .int .i64 0, .bool false, .slice none 0 0, .string ⟨#[]⟩, .int .i64 0, .int .i64 0] 24)).alloc (.cells #[.slice (some ⟨b, off, none⟩) (zs.length - 4) 0, .bool false] 63) = Y0 at Q0 ⊢)
    | (have Q0 := qm_start 8 _ HB1.out HN1.out HD.out.2.1.1 HD.out.2.1.2 h4 (by omega); simp only [Option.map_some, Addr.add_lit] at Q0; unfold mcl at Q0; change Calls Tryd.prog _ _ ((w1.alloc (.cells #[.int .i64 8, .int .i64 0, .int .i64 0, .int .i64 0, .int .i64 0, .bool false, .slice none 0 0, .string ⟨#[]⟩, .int .i64 0, .int .i64 0] 24)).alloc (.cells #[.slice (some ⟨b, off + 4, none⟩) (zs.length - 4) (cap - 4), .bool false] 63)) _; generalize (w1.alloc (.cells #[.int .i64 8, .int .i64 0, .int .i64 0, .int .i64 0, .int .i64 0, .bool false, .slice none 0 0, .string ⟨#[]⟩, .int .i64 0, .int .i64 0] 24)).alloc (.cells #[.slice (some ⟨b, off + 4, none⟩) (zs.length - 4) (cap - 4), .bool false] 63) = Y0 at Q0 ⊢)
  all_goals
    clear k1 hn4 hcapi hnc h0i
    obtain ⟨fb, s1, e1⟩ : ∃ a b, jFlag zs ⟨4, false⟩ = (a, b) := ⟨_, _, rfl⟩
    have E1 := Lib.hid e1
    have k1 := jflag_any Q0.jq hbt
    rw [e1] at k1
    dsimp only at k1
    clear e1
    have A1 := Lib.hid Q0
    clear Q0
    refine k1.mono ?_
    rintro e W1 ⟨rfl, hj1, hb1⟩
    have P1 := A1.out.call hj1 hb1
    clear k1 A1 hj1 hb1
    obtain ⟨⟨c0, c1, c2, c3, c4, c5, c6, c7, c8, c9⟩, cf⟩ := P1.box.cells
    try dsimp only at c0 c1 c2 c3 c4 c5 c6 c7 c8 c9
    have Q1 := P1.set 5 (.bool fb) (x' := ⟨8, 0, 0, 0, 0, fb, [], [], 0, 0⟩) rfl P1.d P1.pl
    clear P1
    go_wp2_with fail
    clear c0 c1 c2 c3 c4 c5 c6 c7 c8 c9 cf
    generalize W1.setCell ⟨w1.heap.size, 5, none⟩ (.bool fb) = Y1 at *
    obtain ⟨p, s2, e2⟩ : ∃ a b, jGive zs s1 = (a, b) := ⟨_, _, rfl⟩
    have E2 := Lib.hid e2
    have k2 := jgive_any Q1.jq hbt (by omega)
    rw [e2] at k2
    dsimp only at k2
    clear e2
    have A2 := Lib.hid Q1
    clear Q1
    refine k2.mono ?_
    rintro e W2 ⟨pv, rfl, ⟨hrp, hpp⟩, hj2, hb2⟩
    obtain ⟨ap, cp, rfl⟩ := hrp.shape
    have P2 := A2.out.call hj2 hb2
    clear k2 A2 hj2 hb2
    obtain ⟨⟨c0, c1, c2, c3, c4, c5, c6, c7, c8, c9⟩, cf⟩ := P2.box.cells
    try dsimp only at c0 c1 c2 c3 c4 c5 c6 c7 c8 c9
    have Q2 := P2.set 6 (.slice ap p.length cp) (x' := ⟨8, 0, 0, 0, 0, fb, p, [], 0, 0⟩) rfl hrp hpp
    clear P2
    have HJ : Hid (jMsg zs (zs.getD 0 0) 4 = (⟨8, 0, 0, 0, 0, fb, p, [], 0, 0⟩, s2)) := Lib.hid (by rw [HK.out]; simp [jMsg, E1.out, E2.out])
    obtain ⟨g1, g2, g3, g4⟩ := HC.out
    rw [HJ.out] at g1 g2 g3 g4
    dsimp only at g1 g2 g3 g4
    have G1 := Lib.hid g1
    have G2 := Lib.hid g2
    have G3 := Lib.hid g3
    have G4 := Lib.hid g4
    clear g1 g2 g3 g4
    obtain ⟨ao, nn, cp2, hnn, hrr, _, hlc2, hcp2, ic0, ic1, icf⟩ := Q2.jq.cells
    obtain ⟨⟨d0, d1, d2, d3, d4, d5, d6, d7, d8, d9⟩, df⟩ := Q2.box.cells
    try dsimp only at d0 d1 d2 d3 d4 d5 d6 d7 d8 d9
    have BW := Lib.hid Q2.bel
    have NW := Lib.hid Q2.res
    obtain ⟨⟨n0, n1, n2, n3, n4, n5, n6, n7, n8, n9⟩, nf⟩ := RBox.cells NW.out
    have hrt := rright_any hp ⟨8, 0, 0, 0, 0, fb, p, [], 0, 0⟩ (vp := (.slice ap p.length cp)) (Q2.d.below Q2.bel) (by have := jgive_len zs s1; rw [E2.out] at this; dsimp only at this ⊢; omega)
    dsimp only at hrt
    unfold mcl at hrt
    have AQ := Lib.hid Q2
    clear Q2 hrr
    cases hb : s2.b with
    | true =>
      rw [hb] at ic1
      have HNO := Lib.hid (G1.out hb)
      clear hb
      go_wp2_with fail
      refine rr_end (x := hNew 0) (pv := .slice none 0 0) false _ NW.out (Rd.nil _) BW.out (.inl ⟨rfl, HNO.out, rfl⟩) rfl rfl
    | false =>
      rw [hb] at ic1
      by_cases hlft : s2.t < zs.length
      · have HNO := Lib.hid (G2.out hlft)
        have hd1 : decide ((0 : Int) < (nn : Int)) = true := decide_eq_true (by omega)
        have hd2 : decide (0 < nn) = true := decide_eq_true (by omega)
        clear hb hlft
        go_wp2_with fail
        refine rr_end (x := hNew 0) (pv := .slice none 0 0) false _ NW.out (Rd.nil _) BW.out (.inl ⟨rfl, HNO.out, rfl⟩) rfl rfl
      have hd1 : decide ((0 : Int) < (nn : Int)) = false := decide_eq_false (by omega)
      have hd2 : decide (0 < nn) = false := decide_eq_false (by omega)
      have hteq : s2.t = zs.length := by have := AQ.out.jq.tl; omega
      cases hrb : rightB (ok p) ⟨8, 0, 0, 0, 0, fb, p, [], 0, 0⟩ with
      | false =>
        have HNO := Lib.hid (G3.out hrb)
        rw [hrb] at hrt
        clear hb hlft hrb hteq
        go_wp2_with (go_at_call 11; refine hrt.mono ?_; rintro e wr ⟨rfl, hbr⟩; have BR := Lib.hid (BW.out.trans (hbr.mono BW.out.size)); have HQ := Lib.hid (AQ.out.box.below hbr); have NR := Lib.hid (NW.out.below hbr); clear hbr c0 c1 c2 c3 c4 c5 c6 c7 c8 c9 cf d0 d1 d2 d3 d4 d5 d6 d7 d8 d9 df n0 n1 n2 n3 n4 n5 n6 n7 n8 n9 nf; obtain ⟨⟨c0, c1, c2, c3, c4, c5, c6, c7, c8, c9⟩, cf⟩ := HQ.out.cells; try dsimp only at c0 c1 c2 c3 c4 c5 c6 c7 c8 c9; obtain ⟨⟨n0, n1, n2, n3, n4, n5, n6, n7, n8, n9⟩, nf⟩ := RBox.cells NR.out)
        refine rr_end (x := hNew 0) (pv := .slice none 0 0) false _ NR.out (Rd.nil _) BR.out (.inl ⟨rfl, HNO.out, rfl⟩) rfl rfl
      | true =>
        have HY := Lib.hid (G4.out hb hteq hrb)
        rw [hrb] at hrt
        clear hb hlft hrb hteq
        go_wp2_with (go_at_call 11; refine hrt.mono ?_; rintro e wr ⟨rfl, hbr⟩; have BR := Lib.hid (BW.out.trans (hbr.mono BW.out.size)); have HQ := Lib.hid (AQ.out.box.below hbr); have NR := Lib.hid (NW.out.below hbr); clear hbr c0 c1 c2 c3 c4 c5 c6 c7 c8 c9 cf d0 d1 d2 d3 d4 d5 d6 d7 d8 d9 df n0 n1 n2 n3 n4 n5 n6 n7 n8 n9 nf; obtain ⟨⟨c0, c1, c2, c3, c4, c5, c6, c7, c8, c9⟩, cf⟩ := HQ.out.cells; try dsimp only at c0 c1 c2 c3 c4 c5 c6 c7 c8 c9; obtain ⟨⟨n0, n1, n2, n3, n4, n5, n6, n7, n8, n9⟩, nf⟩ := RBox.cells NR.out)
        refine rr_end (x := ⟨8, 0, 0, 0, 0, fb, p, [], 0, 0⟩) (pv := (.slice ap p.length cp)) true _ NR.out AQ.out.d BR.out (.inr ⟨rfl, HY.out⟩) rfl rfl
end Go.Proofs.YtefcjggmlhoebaaDoor
namespace Go.Proofs.YtefcjggmlhoebaaDoor
open Go Go.RowKit

set_option maxRecDepth 20000 in
set_option maxHeartbeats 16000000 in
theorem rread_other {ok : List Int → Bool} (hp : RqOk ok) {w : World} {v : Value} {zs : List Int} (hr : Rd w v zs) (hpl : Plain v) (hl : zs.length ≤ 1000) (ho : oneH zs) (k : Int) (h1 : ¬ k = 1) (h2 : ¬ k = 2) (h4k : ¬ k = 4) (h8 : ¬ k = 8) (h11 : ¬ k = 11) (h15 : ¬ k = 15) (h20 : ¬ k = 20) (hk : zs.getD 0 0 = k) :
    Calls Tryd.prog 17 #[v] w (HRR ok zs w) := by
  have hbt := hr.byt
  have h4 := ho.1
  have hX0 := below_alloc w (.cells (mcl 0 0 0 0 0 false (.slice none 0 0) ⟨#[]⟩ 0 0) 24)
  have N0 := rbox_new w 0 0 0 0 0 false (.slice none 0 0) ⟨#[]⟩ 0 0
  have hms := rmsgs_any (hr.below hX0) hpl (by omega)
  have HC := Lib.hid (hj_cases ok hbt ho)
  rcases hr.cases with ⟨rfl, _⟩ | ⟨b, off, cap, rfl, hpos, hlc, hcap, _, hcell⟩
  · simp at h4
  have k0 : w.cell? ⟨b, off, none⟩ = some (.int .u8 k) := by have := hcell 0 hpos; rwa [hk] at this
  have HD := Lib.hid (jrd_cut (t := 0) hr hpl 4 h4)
  have HN := Lib.hid N0
  have HX := Lib.hid hX0
  have HO := Lib.hid ho
  have HK := Lib.hid hk
  unfold mcl at hms HX
  clear hr hpl hcell ho hk N0 hX0
  go_enter Tryd.func17, Tryd.ntmps17
  go_wp2_with fail
  refine hms.mono ?_
  rintro e w1 hpost
  obtain ⟨a, c, n, okb, rfl, hb1, hcase⟩ := hpost.one hbt
  rcases hcase with ⟨rfl, rfl, _, g, x, b2, q, rfl, -, -⟩ | ⟨_, _, hno⟩
  case inr => exact absurd HO.out hno
  have HB1 := Lib.hid (HX.out.trans (hb1.mono HX.out.size))
  have HN1 := Lib.hid (HN.out.below hb1)
  have k1 : w1.cell? ⟨b, off, none⟩ = some (.int .u8 k) := keepH HB1.out k0
  clear hms hpost hb1 k0
  have hn4 : ((4 : Nat) : Int) ≤ (zs.length : Int) := by omega
  have hcapi : (cap : Int) ≤ 9223372036854775807 := by omega
  have hnc : (zs.length : Int) ≤ (cap : Int) := by omega
  have h0i : (0 : Int) < (zs.length : Int) := by omega
  have hkb : 0 ≤ k ∧ k ≤ 255 := by have := hbt.get 0; rw [HK.out] at this; exact this
  have hwk : wrap64 k = k := by unfold wrap64; omega
  have z1 : (k == 1) = false := by simp [h1]
  have z2 : (k == 2) = false := by simp [h2]
  have z4 : (k == 4) = false := by simp [h4k]
  have z8 : (k == 8) = false := by simp [h8]
  have z11 : (k == 11) = false := by simp [h11]
  have z15 : (k == 15) = false := by simp [h15]
  have z20 : (k == 20) = false := by simp [h20]
  have hjm : jMsg zs k 4 = (⟨k, 0, 0, 0, 0, false, [], [], 0, 0⟩, ⟨4, false⟩) := by simp [jMsg, h1, h2, h4k, h8, h11, h15, h20]
  have hrb : rightB (ok []) ⟨k, 0, 0, 0, 0, false, [], [], 0, 0⟩ = false := by simp [rightB, h1, h2, h4k, h8, h11, h15, h20]
  have HNO : Hid (hRead ok zs = none) := Lib.hid (by
    obtain ⟨g1, g2, g3, g4⟩ := HC.out
    rw [HK.out, hjm] at g3
    exact g3 hrb)
  have hrt := fun W => rright_any hp (w := W) ⟨k, 0, 0, 0, 0, false, [], [], 0, 0⟩ (vp := .slice none 0 0) (Rd.nil W) (by simp)
  dsimp only at hrt
  rw [hrb] at hrt
  unfold mcl at hrt
  clear h1 h2 h4k h8 h11 h15 h20 hjm hrb hkb
  have NN : ∀ rv, RBox ((w1.alloc (.cells (mcl k 0 0 0 0 false (.slice none 0 0) ⟨#[]⟩ 0 0) 24)).alloc (.cells #[rv, .bool false] 63)) w.heap.size 0 0 0 0 0 false (.slice none 0 0) ⟨#[]⟩ 0 0 ∧ Below w.heap.size w ((w1.alloc (.cells (mcl k 0 0 0 0 false (.slice none 0 0) ⟨#[]⟩ 0 0) 24)).alloc (.cells #[rv, .bool false] 63)) := fun rv => by
    have b1 := below_alloc w1 (.cells (mcl k 0 0 0 0 false (.slice none 0 0) ⟨#[]⟩ 0 0) 24)
    have b2 := below_alloc (w1.alloc (.cells (mcl k 0 0 0 0 false (.slice none 0 0) ⟨#[]⟩ 0 0) 24)) (.cells #[rv, .bool false] 63)
    have b12 := b1.trans (b2.mono b1.size)
    exact ⟨HN1.out.below b12, HB1.out.trans (b12.mono HB1.out.size)⟩
  unfold mcl at NN
  have n0 := fun rv => (NN rv).1.cells.1.1
  have n1 := fun rv => (NN rv).1.cells.1.2.1
  have n2 := fun rv => (NN rv).1.cells.1.2.2.1
  have n3 := fun rv => (NN rv).1.cells.1.2.2.2.1
  have n4 := fun rv => (NN rv).1.cells.1.2.2.2.2.1
  have n5 := fun rv => (NN rv).1.cells.1.2.2.2.2.2.1
  have n6 := fun rv => (NN rv).1.cells.1.2.2.2.2.2.2.1
  have n7 := fun rv => (NN rv).1.cells.1.2.2.2.2.2.2.2.1
  have n8 := fun rv => (NN rv).1.cells.1.2.2.2.2.2.2.2.2.1
  have n9 := fun rv => (NN rv).1.cells.1.2.2.2.2.2.2.2.2.2
  have nf := fun rv => (NN rv).1.cells.2
  have HNN := Lib.hid NN
  clear NN
  by_cases hz4 : zs.length = 4
  · have hd0 : decide ((0 : Int) < ((zs.length - 4 : Nat) : Int)) = false := decide_eq_false (by omega)
    have hd1 : decide (0 < zs.length - 4) = false := decide_eq_false (by omega)
    have hd2 : decide (4 < zs.length) = false := decide_eq_false (by omega)
    go_wp2_with (go_at_call 11; refine (hrt _).mono ?_; rintro e wr ⟨rfl, hbr⟩; have HR := Lib.hid hbr; have HQ := Lib.hid ((HNN.out _).1.below hbr); have HQB := Lib.hid ((HNN.out _).2.trans (hbr.mono (HNN.out _).2.size)); clear hbr n0 n1 n2 n3 n4 n5 n6 n7 n8 n9 nf; obtain ⟨⟨n0, n1, n2, n3, n4, n5, n6, n7, n8, n9⟩, nf⟩ := HQ.out.cells)
    all_goals
      refine rr_end (x := hNew 0) (pv := .slice none 0 0) false _ HQ.out (Rd.nil _) HQB.out (.inl ⟨rfl, HNO.out, rfl⟩) ?_ ?_
      all_goals rfl
  · have hd0 : decide ((0 : Int) < ((zs.length - 4 : Nat) : Int)) = true := decide_eq_true (by omega)
    have hd1 : decide (0 < zs.length - 4) = true := decide_eq_true (by omega)
    have hd2 : decide (4 < zs.length) = true := decide_eq_true (by omega)
    go_wp2_with fail
    all_goals
      refine rr_end (x := hNew 0) (pv := .slice none 0 0) false _ (HNN.out _).1 (Rd.nil _) (HNN.out _).2 (.inl ⟨rfl, HNO.out, rfl⟩) ?_ ?_
      all_goals rfl
end Go.Proofs.YtefcjggmlhoebaaDoor
namespace Go.Proofs.YtefcjggmlhoebaaDoor
open Go Go.RowKit

set_option maxRecDepth 20000 in
set_option maxHeartbeats 16000000 in
theorem rread_4 {ok : List Int → Bool} (hp : RqOk ok) {w : World} {v : Value} {zs : List Int} (hr : Rd w v zs) (hpl : Plain v) (hl : zs.length ≤ 1000) (ho : oneH zs) (hk : zs.getD 0 0 = 4) :
    Calls Tryd.prog 17 #[v] w (HRR ok zs w) := by
  have hbt := hr.byt
  have h4 := ho.1
  have hX0 := below_alloc w (.cells (mcl 0 0 0 0 0 false (.slice none 0 0) ⟨#[]⟩ 0 0) 24)
  have N0 := rbox_new w 0 0 0 0 0 false (.slice none 0 0) ⟨#[]⟩ 0 0
  have hms := rmsgs_any (hr.below hX0) hpl (by omega)
  have HC := Lib.hid (hj_cases ok hbt ho)
  rcases hr.cases with ⟨rfl, _⟩ | ⟨b, off, cap, rfl, hpos, hlc, hcap, _, hcell⟩
  · simp at h4
  have k0 : w.cell? ⟨b, off, none⟩ = some (.int .u8 4) := by have := hcell 0 hpos; rwa [hk] at this
  have HD := Lib.hid (jrd_cut (t := 0) hr hpl 4 h4)
  have HN := Lib.hid N0
  have HX := Lib.hid hX0
  have HO := Lib.hid ho
  have HK := Lib.hid hk
  unfold mcl at hms HX
  clear hr hpl hcell ho hk N0 hX0
  go_enter Tryd.func17, Tryd.ntmps17
  go_wp2_with fail
  refine hms.mono ?_
  rintro e w1 hpost
  obtain ⟨a, c, n, okb, rfl, hb1, hcase⟩ := hpost.one hbt
  rcases hcase with ⟨rfl, rfl, _, g, x, b2, q, rfl, -, -⟩ | ⟨_, _, hno⟩
  case inr => exact absurd HO.out hno
  have HB1 := Lib.hid (HX.out.trans (hb1.mono HX.out.size))
  have HN1 := Lib.hid (HN.out.below hb1)
  have k1 : w1.cell? ⟨b, off, none⟩ = some (.int .u8 4) := keepH HB1.out k0
  clear hms hpost hb1 k0
  have hn4 : ((4 : Nat) : Int) ≤ (zs.length : Int) := by omega
  have hcapi : (cap : Int) ≤ 9223372036854775807 := by omega
  have hnc : (zs.length : Int) ≤ (cap : Int) := by omega
  have h0i : (0 : Int) < (zs.length : Int) := by omega
  go_wp2_with fail
  all_goals first
    | (have Q0 := qm_start 4 _ HB1.out HN1.out (HD.out.2.2 (by first | rfl | omega)).1.1 (HD.out.2.2 (by first | rfl | omega)).1.2 h4 (by omega); unfold mcl at Q0; change Calls Tryd.prog _ _ ((w1.alloc (.cells #[.int .i64 4, .int .i64 0, .int .i64 0, .int .i64 0, .int .i64 0, .bool false, .slice none 0 0, .string ⟨#[]⟩, .int .i64 0, .int .i64 0] 24)).alloc (.cells #[.slice (some ⟨b, off, none⟩) (zs.length - 4) 0, .bool false] 63)) _; generalize (w1.alloc (.cells #[.int .i64 4, .int .i64 0, .int .i64 0, .int .i64 0, .int .i64 0, .bool false, .slice none 0 0, .string ⟨#[]⟩, .int .i64 0, .int .i64 0] 24)).alloc (.cells #[.slice (some ⟨b, off, none⟩) (zs.length - 4) 0, .bool false] 63) = Y0 at Q0 ⊢)
    | (have Q0 := qm_start 4 _ HB1.out HN1.out HD.out.2.1.1 HD.out.2.1.2 h4 (by omega); simp only [Option.map_some, Addr.add_lit] at Q0; unfold mcl at Q0; change Calls Tryd.prog _ _ ((w1.alloc (.cells #[.int .i64 4, .int .i64 0, .int .i64 0, .int .i64 0, .int .i64 0, .bool false, .slice none 0 0, .string ⟨#[]⟩, .int .i64 0, .int .i64 0] 24)).alloc (.cells #[.slice (some ⟨b, off + 4, none⟩) (zs.length - 4) (cap - 4), .bool false] 63)) _; generalize (w1.alloc (.cells #[.int .i64 4, .int .i64 0, .int .i64 0, .int .i64 0, .int .i64 0, .bool false, .slice none 0 0, .string ⟨#[]⟩, .int .i64 0, .int .i64 0] 24)).alloc (.cells #[.slice (some ⟨b, off + 4, none⟩) (zs.length - 4) (cap - 4), .bool false] 63) = Y0 at Q0 ⊢)
  all_goals
    clear k1 hn4 hcapi hnc h0i
    obtain ⟨tt, s1, e1⟩ : ∃ a b, jTerm zs ⟨4, false⟩ = (a, b) := ⟨_, _, rfl⟩
    have E1 := Lib.hid e1
    have k1 := jterm_any Q0.jq hbt
    rw [e1] at k1
    dsimp only at k1
    clear e1
    have A1 := Lib.hid Q0
    clear Q0
    refine k1.mono ?_
    rintro e W1 ⟨rfl, hj1, hb1⟩
    have P1 := A1.out.call hj1 hb1
    clear k1 A1 hj1 hb1
    obtain ⟨⟨c0, c1, c2, c3, c4, c5, c6, c7, c8, c9⟩, cf⟩ := P1.box.cells
    try dsimp only at c0 c1 c2 c3 c4 c5 c6 c7 c8 c9
    have Q1 := P1.set 3 (.int .i64 tt) (x' := ⟨4, 0, 0, tt, 0, false, [], [], 0, 0⟩) rfl P1.d P1.pl
    clear P1
    obtain ⟨ao, nn, cp2, hnn, hrr, _, hlc2, hcp2, ic0, ic1, icf⟩ := Q1.jq.cells
    have hrd := refread_any (w := W1.setCell ⟨w1.heap.size, 3, none⟩ (.int .i64 tt)) (hrr.below Q1.bel)
    obtain ⟨lf, sz2, er, hR⟩ : ∃ a b c, rd (zs.drop s1.t) = (a, b, c) := ⟨_, _, _, rfl⟩
    have hsize := rd_size (hbt.drop s1.t)
    rw [hR] at hrd hsize
    dsimp only at hrd hsize
    have hsz0 : 0 ≤ sz2 := by rcases hsize with ⟨_, _, q, h, _⟩ | ⟨_, h, _⟩ <;> omega
    have HRV := Lib.hid hR
    clear hR hsize hrr
    go_wp2_with fail
    refine hrd.mono ?_
    rintro e W2 ⟨rfl, rfl⟩
    clear hrd c0 c1 c2 c3 c4 c5 c6 c7 c8 c9 cf
    obtain ⟨⟨c0, c1, c2, c3, c4, c5, c6, c7, c8, c9⟩, cf⟩ := Q1.box.cells
    try dsimp only at c0 c1 c2 c3 c4 c5 c6 c7 c8 c9
    generalize W1.setCell ⟨w1.heap.size, 3, none⟩ (.int .i64 tt) = Y1 at *
    have hnew : ∃ bn, bn = (s1.b || decide (er ≠ 0)) := ⟨_, rfl⟩
    obtain ⟨bn, hbn⟩ := hnew
    have HBN := Lib.hid hbn
    have P2 := Q1.call (Q1.jq.setb bn) (But.set Y1 (w1.heap.size + 1) 1 (.bool bn))
    have A2 := Lib.hid P2
    obtain ⟨⟨d0, d1, d2, d3, d4, d5, d6, d7, d8, d9⟩, df⟩ := P2.box.cells
    try dsimp only at d0 d1 d2 d3 d4 d5 d6 d7 d8 d9
    clear P2 Q1
    have key : Hid (jLife zs s1 = (lf, (jBytes zs sz2.toNat ⟨s1.t, bn⟩).2)) := Lib.hid (by unfold jLife; rw [HRV.out]; dsimp only; rw [HBN.out])
    obtain ⟨wv, s3, e3⟩ : ∃ a b, jBytes zs sz2.toNat ⟨s1.t, bn⟩ = (a, b) := ⟨_, _, rfl⟩
    have E3 := Lib.hid e3
    have hbn2 : (s1.b = true ∧ bn = true) ∨ (s1.b = false ∧ er = 0 ∧ bn = false) ∨ (s1.b = false ∧ ¬ er = 0 ∧ bn = true) := by
      rw [hbn]
      cases hs : s1.b
      · by_cases h0 : er = 0
        · exact .inr (.inl ⟨rfl, h0, by simp [h0]⟩)
        · exact .inr (.inr ⟨rfl, h0, by simp [h0]⟩)
      · exact .inl ⟨rfl, rfl⟩
    clear hbn e3
    rcases hbn2 with ⟨hsb, rfl⟩ | ⟨hsb, rfl, rfl⟩ | ⟨hsb, her, rfl⟩
    · rw [hsb] at ic1

      have P3 := A2.out.set 9 (.int .i64 lf) (x' := ⟨4, 0, 0, tt, 0, false, [], [], 0, lf⟩) rfl A2.out.d A2.out.pl
      have kb := jbytes_any P3.jq sz2 hsz0
      try dsimp only at kb
      rw [E3.out] at kb
      try dsimp only at kb
      have A3 := Lib.hid P3
      clear P3 hsb
      go_wp2_with fail
      clear d0 d1 d2 d3 d4 d5 d6 d7 d8 d9 df ic0 ic1 icf c0 c1 c2 c3 c4 c5 c6 c7 c8 c9 cf
      refine kb.mono ?_
      rintro e W4 ⟨vb4, rfl, _, hj4, hb4⟩
      have P4 := A3.out.call hj4 hb4
      clear kb hj4 hb4
      obtain ⟨⟨c0, c1, c2, c3, c4, c5, c6, c7, c8, c9⟩, cf⟩ := P4.box.cells
      have Q4 := P4
      clear P4
      have HJ : Hid (jMsg zs (zs.getD 0 0) 4 = (⟨4, 0, 0, tt, 0, false, [], [], 0, lf⟩, s3)) := Lib.hid (by rw [HK.out]; simp [jMsg, E1.out, key.out, E3.out])
      obtain ⟨g1, g2, g3, g4⟩ := HC.out
      rw [HJ.out] at g1 g2 g3 g4
      dsimp only at g1 g2 g3 g4
      have G1 := Lib.hid g1
      have G2 := Lib.hid g2
      have G3 := Lib.hid g3
      have G4 := Lib.hid g4
      clear g1 g2 g3 g4
      obtain ⟨ao, nn, cp2, hnn, hrr, _, hlc2, hcp2, ic0, ic1, icf⟩ := Q4.jq.cells
      obtain ⟨⟨d0, d1, d2, d3, d4, d5, d6, d7, d8, d9⟩, df⟩ := Q4.box.cells
      try dsimp only at d0 d1 d2 d3 d4 d5 d6 d7 d8 d9
      have BW := Lib.hid Q4.bel
      have NW := Lib.hid Q4.res
      obtain ⟨⟨n0, n1, n2, n3, n4, n5, n6, n7, n8, n9⟩, nf⟩ := RBox.cells NW.out
      have hrt := rright_any hp ⟨4, 0, 0, tt, 0, false, [], [], 0, lf⟩ (vp := (.slice none 0 0)) (Q4.d.below Q4.bel) (by simp)
      dsimp only at hrt
      unfold mcl at hrt
      have AQ := Lib.hid Q4
      clear Q4 hrr
      cases hb : s3.b with
      | true =>
        rw [hb] at ic1
        have HNO := Lib.hid (G1.out hb)
        clear hb
        go_wp2_with fail
        refine rr_end (x := hNew 0) (pv := .slice none 0 0) false _ NW.out (Rd.nil _) BW.out (.inl ⟨rfl, HNO.out, rfl⟩) rfl rfl
      | false =>
        rw [hb] at ic1
        by_cases hlft : s3.t < zs.length
        · have HNO := Lib.hid (G2.out hlft)
          have hd1 : decide ((0 : Int) < (nn : Int)) = true := decide_eq_true (by omega)
          have hd2 : decide (0 < nn) = true := decide_eq_true (by omega)
          clear hb hlft
          go_wp2_with fail
          refine rr_end (x := hNew 0) (pv := .slice none 0 0) false _ NW.out (Rd.nil _) BW.out (.inl ⟨rfl, HNO.out, rfl⟩) rfl rfl
        have hd1 : decide ((0 : Int) < (nn : Int)) = false := decide_eq_false (by omega)
        have hd2 : decide (0 < nn) = false := decide_eq_false (by omega)
        have hteq : s3.t = zs.length := by have := AQ.out.jq.tl; omega
        cases hrb : rightB (ok []) ⟨4, 0, 0, tt, 0, false, [], [], 0, lf⟩ with
        | false =>
          have HNO := Lib.hid (G3.out hrb)
          rw [hrb] at hrt
          clear hb hlft hrb hteq
          go_wp2_with (go_at_call 11; refine hrt.mono ?_; rintro e wr ⟨rfl, hbr⟩; have BR := Lib.hid (BW.out.trans (hbr.mono BW.out.size)); have HQ := Lib.hid (AQ.out.box.below hbr); have NR := Lib.hid (NW.out.below hbr); clear hbr c0 c1 c2 c3 c4 c5 c6 c7 c8 c9 cf d0 d1 d2 d3 d4 d5 d6 d7 d8 d9 df n0 n1 n2 n3 n4 n5 n6 n7 n8 n9 nf; obtain ⟨⟨c0, c1, c2, c3, c4, c5, c6, c7, c8, c9⟩, cf⟩ := HQ.out.cells; try dsimp only at c0 c1 c2 c3 c4 c5 c6 c7 c8 c9; obtain ⟨⟨n0, n1, n2, n3, n4, n5, n6, n7, n8, n9⟩, nf⟩ := RBox.cells NR.out)
          refine rr_end (x := hNew 0) (pv := .slice none 0 0) false _ NR.out (Rd.nil _) BR.out (.inl ⟨rfl, HNO.out, rfl⟩) rfl rfl
        | true =>
          have HY := Lib.hid (G4.out hb hteq hrb)
          rw [hrb] at hrt
          clear hb hlft hrb hteq
          go_wp2_with (go_at_call 11; refine hrt.mono ?_; rintro e wr ⟨rfl, hbr⟩; have BR := Lib.hid (BW.out.trans (hbr.mono BW.out.size)); have HQ := Lib.hid (AQ.out.box.below hbr); have NR := Lib.hid (NW.out.below hbr); clear hbr c0 c1 c2 c3 c4 c5 c6 c7 c8 c9 cf d0 d1 d2 d3 d4 d5 d6 d7 d8 d9 df n0 n1 n2 n3 n4 n5 n6 n7 n8 n9 nf; obtain ⟨⟨c0, c1, c2, c3, c4, c5, c6, c7, c8, c9⟩, cf⟩ := HQ.out.cells; try dsimp only at c0 c1 c2 c3 c4 c5 c6 c7 c8 c9; obtain ⟨⟨n0, n1, n2, n3, n4, n5, n6, n7, n8, n9⟩, nf⟩ := RBox.cells NR.out)
          refine rr_end (x := ⟨4, 0, 0, tt, 0, false, [], [], 0, lf⟩) (pv := (.slice none 0 0)) true _ NR.out AQ.out.d BR.out (.inr ⟨rfl, HY.out⟩) rfl rfl
    · rw [hsb] at ic1

      have P3 := A2.out.set 9 (.int .i64 lf) (x' := ⟨4, 0, 0, tt, 0, false, [], [], 0, lf⟩) rfl A2.out.d A2.out.pl
      have kb := jbytes_any P3.jq sz2 hsz0
      try dsimp only at kb
      rw [E3.out] at kb
      try dsimp only at kb
      have A3 := Lib.hid P3
      clear P3 hsb
      go_wp2_with fail
      clear d0 d1 d2 d3 d4 d5 d6 d7 d8 d9 df ic0 ic1 icf c0 c1 c2 c3 c4 c5 c6 c7 c8 c9 cf
      refine kb.mono ?_
      rintro e W4 ⟨vb4, rfl, _, hj4, hb4⟩
      have P4 := A3.out.call hj4 hb4
      clear kb hj4 hb4
      obtain ⟨⟨c0, c1, c2, c3, c4, c5, c6, c7, c8, c9⟩, cf⟩ := P4.box.cells
      have Q4 := P4
      clear P4
      have HJ : Hid (jMsg zs (zs.getD 0 0) 4 = (⟨4, 0, 0, tt, 0, false, [], [], 0, lf⟩, s3)) := Lib.hid (by rw [HK.out]; simp [jMsg, E1.out, key.out, E3.out])
      obtain ⟨g1, g2, g3, g4⟩ := HC.out
      rw [HJ.out] at g1 g2 g3 g4
      dsimp only at g1 g2 g3 g4
      have G1 := Lib.hid g1
      have G2 := Lib.hid g2
      have G3 := Lib.hid g3
      have G4 := Lib.hid g4
      clear g1 g2 g3 g4
      obtain ⟨ao, nn, cp2, hnn, hrr, _, hlc2, hcp2, ic0, ic1, icf⟩ := Q4.jq.cells
      obtain ⟨⟨d0, d1, d2, d3, d4, d5, d6, d7, d8, d9⟩, df⟩ := Q4.box.cells
      try dsimp only at d0 d1 d2 d3 d4 d5 d6 d7 d8 d9
      have BW := Lib.hid Q4.bel
      have NW := Lib.hid Q4.res
      obtain ⟨⟨n0, n1, n2, n3, n4, n5, n6, n7, n8, n9⟩, nf⟩ := RBox.cells NW.out
      have hrt := rright_any hp ⟨4, 0, 0, tt, 0, false, [], [], 0, lf⟩ (vp := (.slice none 0 0)) (Q4.d.below Q4.bel) (by simp)
      dsimp only at hrt
      unfold mcl at hrt
      have AQ := Lib.hid Q4
      clear Q4 hrr
      cases hb : s3.b with
      | true =>
        rw [hb] at ic1
        have HNO := Lib.hid (G1.out hb)
        clear hb
        go_wp2_with fail
        refine rr_end (x := hNew 0) (pv := .slice none 0 0) false _ NW.out (Rd.nil _) BW.out (.inl ⟨rfl, HNO.out, rfl⟩) rfl rfl
      | false =>
        rw [hb] at ic1
        by_cases hlft : s3.t < zs.length
        · have HNO := Lib.hid (G2.out hlft)
          have hd1 : decide ((0 : Int) < (nn : Int)) = true := decide_eq_true (by omega)
          have hd2 : decide (0 < nn) = true := decide_eq_true (by omega)
          clear hb hlft
          go_wp2_with fail
          refine rr_end (x := hNew 0) (pv := .slice none 0 0) false _ NW.out (Rd.nil _) BW.out (.inl ⟨rfl, HNO.out, rfl⟩) rfl rfl
        have hd1 : decide ((0 : Int) < (nn : Int)) = false := decide_eq_false (by omega)
        have hd2 : decide (0 < nn) = false := decide_eq_false (by omega)
        have hteq : s3.t = zs.length := by have := AQ.out.jq.tl; omega
        cases hrb : rightB (ok []) ⟨4, 0, 0, tt, 0, false, [], [], 0, lf⟩ with
        | false =>
          have HNO := Lib.hid (G3.out hrb)
          rw [hrb] at hrt
          clear hb hlft hrb hteq
          go_wp2_with (go_at_call 11; refine hrt.mono ?_; rintro e wr ⟨rfl, hbr⟩; have BR := Lib.hid (BW.out.trans (hbr.mono BW.out.size)); have HQ := Lib.hid (AQ.out.box.below hbr); have NR := Lib.hid (NW.out.below hbr); clear hbr c0 c1 c2 c3 c4 c5 c6 c7 c8 c9 cf d0 d1 d2 d3 d4 d5 d6 d7 d8 d9 df n0 n1 n2 n3 n4 n5 n6 n7 n8 n9 nf; obtain ⟨⟨c0, c1, c2, c3, c4, c5, c6, c7, c8, c9⟩, cf⟩ := HQ.out.cells; try dsimp only at c0 c1 c2 c3 c4 c5 c6 c7 c8 c9; obtain ⟨⟨n0, n1, n2, n3, n4, n5, n6, n7, n8, n9⟩, nf⟩ := RBox.cells NR.out)
          refine rr_end (x := hNew 0) (pv := .slice none 0 0) false _ NR.out (Rd.nil _) BR.out (.inl ⟨rfl, HNO.out, rfl⟩) rfl rfl
        | true =>
          have HY := Lib.hid (G4.out hb hteq hrb)
          rw [hrb] at hrt
          clear hb hlft hrb hteq
          go_wp2_with (go_at_call 11; refine hrt.mono ?_; rintro e wr ⟨rfl, hbr⟩; have BR := Lib.hid (BW.out.trans (hbr.mono BW.out.size)); have HQ := Lib.hid (AQ.out.box.below hbr); have NR := Lib.hid (NW.out.below hbr); clear hbr c0 c1 c2 c3 c4 c5 c6 c7 c8 c9 cf d0 d1 d2 d3 d4 d5 d6 d7 d8 d9 df n0 n1 n2 n3 n4 n5 n6 n7 n8 n9 nf; obtain ⟨⟨c0, c1, c2, c3, c4, c5, c6, c7, c8, c9⟩, cf⟩ := HQ.out.cells; try dsimp only at c0 c1 c2 c3 c4 c5 c6 c7 c8 c9; obtain ⟨⟨n0, n1, n2, n3, n4, n5, n6, n7, n8, n9⟩, nf⟩ := RBox.cells NR.out)
          refine rr_end (x := ⟨4, 0, 0, tt, 0, false, [], [], 0, lf⟩) (pv := (.slice none 0 0)) true _ NR.out AQ.out.d BR.out (.inr ⟨rfl, HY.out⟩) rfl rfl
    · rw [hsb] at ic1
      have her2 : (er != 0) = true := bne_iff_ne.2 her
      clear her
      have P3 := A2.out.set 9 (.int .i64 lf) (x' := ⟨4, 0, 0, tt, 0, false, [], [], 0, lf⟩) rfl A2.out.d A2.out.pl
      have kb := jbytes_any P3.jq sz2 hsz0
      try dsimp only at kb
      rw [E3.out] at kb
      try dsimp only at kb
      have A3 := Lib.hid P3
      clear P3 hsb
      go_wp2_with fail
      clear d0 d1 d2 d3 d4 d5 d6 d7 d8 d9 df ic0 ic1 icf c0 c1 c2 c3 c4 c5 c6 c7 c8 c9 cf
      refine kb.mono ?_
      rintro e W4 ⟨vb4, rfl, _, hj4, hb4⟩
      have P4 := A3.out.call hj4 hb4
      clear kb hj4 hb4
      obtain ⟨⟨c0, c1, c2, c3, c4, c5, c6, c7, c8, c9⟩, cf⟩ := P4.box.cells
      have Q4 := P4
      clear P4
      have HJ : Hid (jMsg zs (zs.getD 0 0) 4 = (⟨4, 0, 0, tt, 0, false, [], [], 0, lf⟩, s3)) := Lib.hid (by rw [HK.out]; simp [jMsg, E1.out, key.out, E3.out])
      obtain ⟨g1, g2, g3, g4⟩ := HC.out
      rw [HJ.out] at g1 g2 g3 g4
      dsimp only at g1 g2 g3 g4
      have G1 := Lib.hid g1
      have G2 := Lib.hid g2
      have G3 := Lib.hid g3
      have G4 := Lib.hid g4
      clear g1 g2 g3 g4
      obtain ⟨ao, nn, cp2, hnn, hrr, _, hlc2, hcp2, ic0, ic1, icf⟩ := Q4.jq.cells
      obtain ⟨⟨d0, d1, d2, d3, d4, d5, d6, d7, d8, d9⟩, df⟩ := Q4.box.cells
      try dsimp only at d0 d1 d2 d3 d4 d5 d6 d7 d8 d9
      have BW := Lib.hid Q4.bel
      have NW := Lib.hid Q4.res
      obtain ⟨⟨n0, n1, n2, n3, n4, n5, n6, n7, n8, n9⟩, nf⟩ := RBox.cells NW.out
      have hrt := rright_any hp ⟨4, 0, 0, tt, 0, false, [], [], 0, lf⟩ (vp := (.slice none 0 0)) (Q4.d.below Q4.bel) (by simp)
      dsimp only at hrt
      unfold mcl at hrt
      have AQ := Lib.hid Q4
      clear Q4 hrr
      cases hb : s3.b with
      | true =>
        rw [hb] at ic1
        have HNO := Lib.hid (G1.out hb)
        clear hb
        go_wp2_with fail
        refine rr_end (x := hNew 0) (pv := .slice none 0 0) false _ NW.out (Rd.nil _) BW.out (.inl ⟨rfl, HNO.out, rfl⟩) rfl rfl
      | false =>
        rw [hb] at ic1
        by_cases hlft : s3.t < zs.length
        · have HNO := Lib.hid (G2.out hlft)
          have hd1 : decide ((0 : Int) < (nn : Int)) = true := decide_eq_true (by omega)
          have hd2 : decide (0 < nn) = true := decide_eq_true (by omega)
          clear hb hlft
          go_wp2_with fail
          refine rr_end (x := hNew 0) (pv := .slice none 0 0) false _ NW.out (Rd.nil _) BW.out (.inl ⟨rfl, HNO.out, rfl⟩) rfl rfl
        have hd1 : decide ((0 : Int) < (nn : Int)) = false := decide_eq_false (by omega)
        have hd2 : decide (0 < nn) = false := decide_eq_false (by omega)
        have hteq : s3.t = zs.length := by have := AQ.out.jq.tl; omega
        cases hrb : rightB (ok []) ⟨4, 0, 0, tt, 0, false, [], [], 0, lf⟩ with
        | false =>
          have HNO := Lib.hid (G3.out hrb)
          rw [hrb] at hrt
          clear hb hlft hrb hteq
          go_wp2_with (go_at_call 11; refine hrt.mono ?_; rintro e wr ⟨rfl, hbr⟩; have BR := Lib.hid (BW.out.trans (hbr.mono BW.out.size)); have HQ := Lib.hid (AQ.out.box.below hbr); have NR := Lib.hid (NW.out.below hbr); clear hbr c0 c1 c2 c3 c4 c5 c6 c7 c8 c9 cf d0 d1 d2 d3 d4 d5 d6 d7 d8 d9 df n0 n1 n2 n3 n4 n5 n6 n7 n8 n9 nf; obtain ⟨⟨c0, c1, c2, c3, c4, c5, c6, c7, c8, c9⟩, cf⟩ := HQ.out.cells; try dsimp only at c0 c1 c2 c3 c4 c5 c6 c7 c8 c9; obtain ⟨⟨n0, n1, n2, n3, n4, n5, n6, n7, n8, n9⟩, nf⟩ := RBox.cells NR.out)
          refine rr_end (x := hNew 0) (pv := .slice none 0 0) false _ NR.out (Rd.nil _) BR.out (.inl ⟨rfl, HNO.out, rfl⟩) rfl rfl
        | true =>
          have HY := Lib.hid (G4.out hb hteq hrb)
          rw [hrb] at hrt
          clear hb hlft hrb hteq
          go_wp2_with (go_at_call 11; refine hrt.mono ?_; rintro e wr ⟨rfl, hbr⟩; have BR := Lib.hid (BW.out.trans (hbr.mono BW.out.size)); have HQ := Lib.hid (AQ.out.box.below hbr); have NR := Lib.hid (NW.out.below hbr); clear hbr c0 c1 c2 c3 c4 c5 c6 c7 c8 c9 cf d0 d1 d2 d3 d4 d5 d6 d7 d8 d9 df n0 n1 n2 n3 n4 n5 n6 n7 n8 n9 nf; obtain ⟨⟨c0, c1, c2, c3, c4, c5, c6, c7, c8, c9⟩, cf⟩ := HQ.out.cells; try dsimp only at c0 c1 c2 c3 c4 c5 c6 c7 c8 c9; obtain ⟨⟨n0, n1, n2, n3, n4, n5, n6, n7, n8, n9⟩, nf⟩ := RBox.cells NR.out)
          refine rr_end (x := ⟨4, 0, 0, tt, 0, false, [], [], 0, lf⟩) (pv := (.slice none 0 0)) true _ NR.out AQ.out.d BR.out (.inr ⟨rfl, HY.out⟩) rfl rfl
end Go.Proofs.YtefcjggmlhoebaaDoor
