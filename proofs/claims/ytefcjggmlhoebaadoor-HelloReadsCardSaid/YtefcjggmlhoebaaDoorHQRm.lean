/- The document's Read of messages: 15, 20. -/
import Derived.Test.YtefcjggmlhoebaaDoorHQR
namespace Go.Proofs.YtefcjggmlhoebaaDoor
open Go Go.RowKit

set_option maxRecDepth 20000 in
set_option maxHeartbeats 16000000 in
theorem rread_15 {ok : List Int → Bool} (hp : RqOk ok) {w : World} {v : Value} {zs : List Int} (hr : Rd w v zs) (hpl : Plain v) (hl : zs.length ≤ 1000) (ho : oneH zs) (hk : zs.getD 0 0 = 15) :
    Calls Tryd.prog 17 #[v] w (HRR ok zs w) := by
  have hbt := hr.byt
  have h4 := ho.1
  have hX0 := below_alloc w (.cells (mcl 0 0 0 0 0 false (.slice none 0 0) ⟨#[]⟩ 0 0) 24)
  have N0 := rbox_new w 0 0 0 0 0 false (.slice none 0 0) ⟨#[]⟩ 0 0
  have hms := rmsgs_any (hr.below hX0) hpl (by omega)
  have HC := Lib.hid (hj_cases ok hbt ho)
  rcases hr.cases with ⟨rfl, _⟩ | ⟨b, off, cap, rfl, hpos, hlc, hcap, _, hcell⟩
  · simp at h4
  have k0 : w.cell? ⟨b, off, none⟩ = some (.int .u8 15) := by have := hcell 0 hpos; rwa [hk] at this
  have HD := Lib.hid (jrd_cut (t := 0) hr hpl 4 h4)
  have HN := Lib.hid N0
  have HX := Lib.hid hX0
  have HO := Lib.hid ho
  have HK := Lib.hid hk
  unfold mcl at hms HX
  clear hr hpl hcell ho hk N0 hX0
  go_enter Tryd.func17, Tryd.ntmps17
  go_wp2_with fail
  refine hms.mono ?_
  rintro e w1 hpost
  obtain ⟨a, c, n, okb, rfl, hb1, hcase⟩ := hpost.one hbt
  rcases hcase with ⟨rfl, rfl, _, g, x, b2, q, rfl, -, -⟩ | ⟨_, _, hno⟩
  case inr => exact absurd HO.out hno
  have HB1 := Lib.hid (HX.out.trans (hb1.mono HX.out.size))
  have HN1 := Lib.hid (HN.out.below hb1)
  have k1 : w1.cell? ⟨b, off, none⟩ = some (.int .u8 15) := keepH HB1.out k0
  clear hms hpost hb1 k0
  have hn4 : ((4 : Nat) : Int) ≤ (zs.length : Int) := by omega
  have hcapi : (cap : Int) ≤ 9223372036854775807 := by omega
  have hnc : (zs.length : Int) ≤ (cap : Int) := by omega
  have h0i : (0 : Int) < (zs.length : Int) := by omega
  go_wp2_with fail
  all_goals first
    | (have Q0 := qm_start 15 _ HB1.out HN1.out (HD.out.2.2 (by first | rfl | omega)).1.1 (HD.out.2.2 (by first | rfl | omega)).1.2 h4 (by omega); unfold mcl at Q0; change Calls Tryd.prog _ _ ((w1.alloc (.cells #[.int .i64 15, .int .i64 0, .int .i64 0, .int .i64 0, .int .i64 0, .bool false, .slice none 0 0, .string ⟨#[]⟩, .int .i64 0, .int .i64 0] 24)).alloc (.cells #[.slice (some ⟨b, off, none⟩) (zs.length - 4) 0, .bool false] 63)) _; generalize (w1.alloc (.cells #[.int .i64 15, .int .i64 0, .int .i64 0, .int .i64 0, .int .i64 0, .bool false, .slice none 0 0, .string ⟨#[]⟩, .int .i64 0, .int .i64 0] 24)).alloc (.cells #[.slice (some ⟨b, off, none⟩) (zs.length - 4) 0, .bool false] 63) = Y0 at Q0 ⊢)
    | (have Q0 := qm_start 15 _ HB1.out HN1.out HD.out.2.1.1 HD.out.2.1.2 h4 (by omega); simp only [Option.map_some, Addr.add_lit] at Q0; unfold mcl at Q0; change Calls Tryd.prog _ _ ((w1.alloc (.cells #[.int .i64 15, .int .i64 0, .int .i64 0, .int .i64 0, .int .i64 0, .bool false, .slice none 0 0, .string ⟨#[]⟩, .int .i64 0, .int .i64 0] 24)).alloc (.cells #[.slice (some ⟨b, off + 4, none⟩) (zs.length - 4) (cap - 4), .bool false] 63)) _; generalize (w1.alloc (.cells #[.int .i64 15, .int .i64 0, .int .i64 0, .int .i64 0, .int .i64 0, .bool false, .slice none 0 0, .string ⟨#[]⟩, .int .i64 0, .int .i64 0] 24)).alloc (.cells #[.slice (some ⟨b, off + 4, none⟩) (zs.length - 4) (cap - 4), .bool false] 63) = Y0 at Q0 ⊢)
  all_goals
    clear k1 hn4 hcapi hnc h0i
    obtain ⟨mm, s1, e1⟩ : ∃ a b, jTerm zs ⟨4, false⟩ = (a, b) := ⟨_, _, rfl⟩
    have E1 := Lib.hid e1
    have k1 := jterm_any Q0.jq hbt
    rw [e1] at k1
    dsimp only at k1
    clear e1
    have A1 := Lib.hid Q0
    clear Q0
    refine k1.mono ?_
    rintro e W1 ⟨rfl, hj1, hb1⟩
    have P1 := A1.out.call hj1 hb1
    clear k1 A1 hj1 hb1
    obtain ⟨⟨c0, c1, c2, c3, c4, c5, c6, c7, c8, c9⟩, cf⟩ := P1.box.cells
    try dsimp only at c0 c1 c2 c3 c4 c5 c6 c7 c8 c9
    have Q1 := P1.set 4 (.int .i64 mm) (x' := ⟨15, 0, 0, 0, mm, false, [], [], 0, 0⟩) rfl P1.d P1.pl
    clear P1
    have HJ : Hid (jMsg zs (zs.getD 0 0) 4 = (⟨15, 0, 0, 0, mm, false, [], [], 0, 0⟩, s1)) := Lib.hid (by rw [HK.out]; simp [jMsg, E1.out])
    obtain ⟨g1, g2, g3, g4⟩ := HC.out
    rw [HJ.out] at g1 g2 g3 g4
    dsimp only at g1 g2 g3 g4
    have G1 := Lib.hid g1
    have G2 := Lib.hid g2
    have G3 := Lib.hid g3
    have G4 := Lib.hid g4
    clear g1 g2 g3 g4
    obtain ⟨ao, nn, cp2, hnn, hrr, _, hlc2, hcp2, ic0, ic1, icf⟩ := Q1.jq.cells
    obtain ⟨⟨d0, d1, d2, d3, d4, d5, d6, d7, d8, d9⟩, df⟩ := Q1.box.cells
    try dsimp only at d0 d1 d2 d3 d4 d5 d6 d7 d8 d9
    have BW := Lib.hid Q1.bel
    have NW := Lib.hid Q1.res
    obtain ⟨⟨n0, n1, n2, n3, n4, n5, n6, n7, n8, n9⟩, nf⟩ := RBox.cells NW.out
    have hrt := rright_any hp ⟨15, 0, 0, 0, mm, false, [], [], 0, 0⟩ (vp := (.slice none 0 0)) (Q1.d.below Q1.bel) (by simp)
    dsimp only at hrt
    unfold mcl at hrt
    have AQ := Lib.hid Q1
    clear Q1 hrr
    cases hb : s1.b with
    | true =>
      rw [hb] at ic1
      have HNO := Lib.hid (G1.out hb)
      clear hb
      go_wp2_with fail
      refine rr_end (x := hNew 0) (pv := .slice none 0 0) false _ NW.out (Rd.nil _) BW.out (.inl ⟨rfl, HNO.out, rfl⟩) rfl rfl
    | false =>
      rw [hb] at ic1
      by_cases hlft : s1.t < zs.length
      · have HNO := Lib.hid (G2.out hlft)
        have hd1 : decide ((0 : Int) < (nn : Int)) = true := decide_eq_true (by omega)
        have hd2 : decide (0 < nn) = true := decide_eq_true (by omega)
        clear hb hlft
        go_wp2_with fail
        refine rr_end (x := hNew 0) (pv := .slice none 0 0) false _ NW.out (Rd.nil _) BW.out (.inl ⟨rfl, HNO.out, rfl⟩) rfl rfl
      have hd1 : decide ((0 : Int) < (nn : Int)) = false := decide_eq_false (by omega)
      have hd2 : decide (0 < nn) = false := decide_eq_false (by omega)
      have hteq : s1.t = zs.length := by have := AQ.out.jq.tl; omega
      cases hrb : rightB (ok []) ⟨15, 0, 0, 0, mm, false, [], [], 0, 0⟩ with
      | false =>
        have HNO := Lib.hid (G3.out hrb)
        rw [hrb] at hrt
        clear hb hlft hrb hteq
        go_wp2_with (go_at_call 11; refine hrt.mono ?_; rintro e wr ⟨rfl, hbr⟩; have BR := Lib.hid (BW.out.trans (hbr.mono BW.out.size)); have HQ := Lib.hid (AQ.out.box.below hbr); have NR := Lib.hid (NW.out.below hbr); clear hbr c0 c1 c2 c3 c4 c5 c6 c7 c8 c9 cf d0 d1 d2 d3 d4 d5 d6 d7 d8 d9 df n0 n1 n2 n3 n4 n5 n6 n7 n8 n9 nf; obtain ⟨⟨c0, c1, c2, c3, c4, c5, c6, c7, c8, c9⟩, cf⟩ := HQ.out.cells; try dsimp only at c0 c1 c2 c3 c4 c5 c6 c7 c8 c9; obtain ⟨⟨n0, n1, n2, n3, n4, n5, n6, n7, n8, n9⟩, nf⟩ := RBox.cells NR.out)
        refine rr_end (x := hNew 0) (pv := .slice none 0 0) false _ NR.out (Rd.nil _) BR.out (.inl ⟨rfl, HNO.out, rfl⟩) rfl rfl
      | true =>
        have HY := Lib.hid (G4.out hb hteq hrb)
        rw [hrb] at hrt
        clear hb hlft hrb hteq
        go_wp2_with (go_at_call 11; refine hrt.mono ?_; rintro e wr ⟨rfl, hbr⟩; have BR := Lib.hid (BW.out.trans (hbr.mono BW.out.size)); have HQ := Lib.hid (AQ.out.box.below hbr); have NR := Lib.hid (NW.out.below hbr); clear hbr c0 c1 c2 c3 c4 c5 c6 c7 c8 c9 cf d0 d1 d2 d3 d4 d5 d6 d7 d8 d9 df n0 n1 n2 n3 n4 n5 n6 n7 n8 n9 nf; obtain ⟨⟨c0, c1, c2, c3, c4, c5, c6, c7, c8, c9⟩, cf⟩ := HQ.out.cells; try dsimp only at c0 c1 c2 c3 c4 c5 c6 c7 c8 c9; obtain ⟨⟨n0, n1, n2, n3, n4, n5, n6, n7, n8, n9⟩, nf⟩ := RBox.cells NR.out)
        refine rr_end (x := ⟨15, 0, 0, 0, mm, false, [], [], 0, 0⟩) (pv := (.slice none 0 0)) true _ NR.out AQ.out.d BR.out (.inr ⟨rfl, HY.out⟩) rfl rfl
set_option maxRecDepth 20000 in
set_option maxHeartbeats 16000000 in
theorem rread_20 {ok : List Int → Bool} (hp : RqOk ok) {w : World} {v : Value} {zs : List Int} (hr : Rd w v zs) (hpl : Plain v) (hl : zs.length ≤ 1000) (ho : oneH zs) (hk : zs.getD 0 0 = 20) :
    Calls Tryd.prog 17 #[v] w (HRR ok zs w) := by
  have hbt := hr.byt
  have h4 := ho.1
  have hX0 := below_alloc w (.cells (mcl 0 0 0 0 0 false (.slice none 0 0) ⟨#[]⟩ 0 0) 24)
  have N0 := rbox_new w 0 0 0 0 0 false (.slice none 0 0) ⟨#[]⟩ 0 0
  have hms := rmsgs_any (hr.below hX0) hpl (by omega)
  have HC := Lib.hid (hj_cases ok hbt ho)
  rcases hr.cases with ⟨rfl, _⟩ | ⟨b, off, cap, rfl, hpos, hlc, hcap, _, hcell⟩
  · simp at h4
  have k0 : w.cell? ⟨b, off, none⟩ = some (.int .u8 20) := by have := hcell 0 hpos; rwa [hk] at this
  have HD := Lib.hid (jrd_cut (t := 0) hr hpl 4 h4)
  have HN := Lib.hid N0
  have HX := Lib.hid hX0
  have HO := Lib.hid ho
  have HK := Lib.hid hk
  unfold mcl at hms HX
  clear hr hpl hcell ho hk N0 hX0
  go_enter Tryd.func17, Tryd.ntmps17
  go_wp2_with fail
  refine hms.mono ?_
  rintro e w1 hpost
  obtain ⟨a, c, n, okb, rfl, hb1, hcase⟩ := hpost.one hbt
  rcases hcase with ⟨rfl, rfl, _, g, x, b2, q, rfl, -, -⟩ | ⟨_, _, hno⟩
  case inr => exact absurd HO.out hno
  have HB1 := Lib.hid (HX.out.trans (hb1.mono HX.out.size))
  have HN1 := Lib.hid (HN.out.below hb1)
  have k1 : w1.cell? ⟨b, off, none⟩ = some (.int .u8 20) := keepH HB1.out k0
  clear hms hpost hb1 k0
  have hn4 : ((4 : Nat) : Int) ≤ (zs.length : Int) := by omega
  have hcapi : (cap : Int) ≤ 9223372036854775807 := by omega
  have hnc : (zs.length : Int) ≤ (cap : Int) := by omega
  have h0i : (0 : Int) < (zs.length : Int) := by omega
  go_wp2_with fail
  all_goals first
    | (have Q0 := qm_start 20 _ HB1.out HN1.out (HD.out.2.2 (by first | rfl | omega)).1.1 (HD.out.2.2 (by first | rfl | omega)).1.2 h4 (by omega); unfold mcl at Q0; change Calls Tryd.prog _ _ ((w1.alloc (.cells #[.int .i64 20, .int .i64 0, .int .i64 0, .int .i64 0, .int .i64 0, .bool false, .slice none 0 0, .string ⟨#[]⟩, .int .i64 0, .int .i64 0] 24)).alloc (.cells #[.slice (some ⟨b, off, none⟩) (zs.length - 4) 0, .bool false] 63)) _; generalize (w1.alloc (.cells #[.int .i64 20, .int .i64 0, .int .i64 0, .int .i64 0, .int .i64 0, .bool false, .slice none 0 0, .string ⟨#[]⟩, .int .i64 0, .int .i64 0] 24)).alloc (.cells #[.slice (some ⟨b, off, none⟩) (zs.length - 4) 0, .bool false] 63) = Y0 at Q0 ⊢)
    | (have Q0 := qm_start 20 _ HB1.out HN1.out HD.out.2.1.1 HD.out.2.1.2 h4 (by omega); simp only [Option.map_some, Addr.add_lit] at Q0; unfold mcl at Q0; change Calls Tryd.prog _ _ ((w1.alloc (.cells #[.int .i64 20, .int .i64 0, .int .i64 0, .int .i64 0, .int .i64 0, .bool false, .slice none 0 0, .string ⟨#[]⟩, .int .i64 0, .int .i64 0] 24)).alloc (.cells #[.slice (some ⟨b, off + 4, none⟩) (zs.length - 4) (cap - 4), .bool false] 63)) _; generalize (w1.alloc (.cells #[.int .i64 20, .int .i64 0, .int .i64 0, .int .i64 0, .int .i64 0, .bool false, .slice none 0 0, .string ⟨#[]⟩, .int .i64 0, .int .i64 0] 24)).alloc (.cells #[.slice (some ⟨b, off + 4, none⟩) (zs.length - 4) (cap - 4), .bool false] 63) = Y0 at Q0 ⊢)
  all_goals
    clear k1 hn4 hcapi hnc h0i
    obtain ⟨mm, s1, e1⟩ : ∃ a b, jTerm zs ⟨4, false⟩ = (a, b) := ⟨_, _, rfl⟩
    have E1 := Lib.hid e1
    have k1 := jterm_any Q0.jq hbt
    rw [e1] at k1
    dsimp only at k1
    clear e1
    have A1 := Lib.hid Q0
    clear Q0
    refine k1.mono ?_
    rintro e W1 ⟨rfl, hj1, hb1⟩
    have P1 := A1.out.call hj1 hb1
    clear k1 A1 hj1 hb1
    obtain ⟨⟨c0, c1, c2, c3, c4, c5, c6, c7, c8, c9⟩, cf⟩ := P1.box.cells
    try dsimp only at c0 c1 c2 c3 c4 c5 c6 c7 c8 c9
    have Q1 := P1.set 4 (.int .i64 mm) (x' := ⟨20, 0, 0, 0, mm, false, [], [], 0, 0⟩) rfl P1.d P1.pl
    clear P1
    have HJ : Hid (jMsg zs (zs.getD 0 0) 4 = (⟨20, 0, 0, 0, mm, false, [], [], 0, 0⟩, s1)) := Lib.hid (by rw [HK.out]; simp [jMsg, E1.out])
    obtain ⟨g1, g2, g3, g4⟩ := HC.out
    rw [HJ.out] at g1 g2 g3 g4
    dsimp only at g1 g2 g3 g4
    have G1 := Lib.hid g1
    have G2 := Lib.hid g2
    have G3 := Lib.hid g3
    have G4 := Lib.hid g4
    clear g1 g2 g3 g4
    obtain ⟨ao, nn, cp2, hnn, hrr, _, hlc2, hcp2, ic0, ic1, icf⟩ := Q1.jq.cells
    obtain ⟨⟨d0, d1, d2, d3, d4, d5, d6, d7, d8, d9⟩, df⟩ := Q1.box.cells
    try dsimp only at d0 d1 d2 d3 d4 d5 d6 d7 d8 d9
    have BW := Lib.hid Q1.bel
    have NW := Lib.hid Q1.res
    obtain ⟨⟨n0, n1, n2, n3, n4, n5, n6, n7, n8, n9⟩, nf⟩ := RBox.cells NW.out
    have hrt := rright_any hp ⟨20, 0, 0, 0, mm, false, [], [], 0, 0⟩ (vp := (.slice none 0 0)) (Q1.d.below Q1.bel) (by simp)
    dsimp only at hrt
    unfold mcl at hrt
    have AQ := Lib.hid Q1
    clear Q1 hrr
    cases hb : s1.b with
    | true =>
      rw [hb] at ic1
      have HNO := Lib.hid (G1.out hb)
      clear hb
      go_wp2_with fail
      refine rr_end (x := hNew 0) (pv := .slice none 0 0) false _ NW.out (Rd.nil _) BW.out (.inl ⟨rfl, HNO.out, rfl⟩) rfl rfl
    | false =>
      rw [hb] at ic1
      by_cases hlft : s1.t < zs.length
      · have HNO := Lib.hid (G2.out hlft)
        have hd1 : decide ((0 : Int) < (nn : Int)) = true := decide_eq_true (by omega)
        have hd2 : decide (0 < nn) = true := decide_eq_true (by omega)
        clear hb hlft
        go_wp2_with fail
        refine rr_end (x := hNew 0) (pv := .slice none 0 0) false _ NW.out (Rd.nil _) BW.out (.inl ⟨rfl, HNO.out, rfl⟩) rfl rfl
      have hd1 : decide ((0 : Int) < (nn : Int)) = false := decide_eq_false (by omega)
      have hd2 : decide (0 < nn) = false := decide_eq_false (by omega)
      have hteq : s1.t = zs.length := by have := AQ.out.jq.tl; omega
      cases hrb : rightB (ok []) ⟨20, 0, 0, 0, mm, false, [], [], 0, 0⟩ with
      | false =>
        have HNO := Lib.hid (G3.out hrb)
        rw [hrb] at hrt
        clear hb hlft hrb hteq
        go_wp2_with (go_at_call 11; refine hrt.mono ?_; rintro e wr ⟨rfl, hbr⟩; have BR := Lib.hid (BW.out.trans (hbr.mono BW.out.size)); have HQ := Lib.hid (AQ.out.box.below hbr); have NR := Lib.hid (NW.out.below hbr); clear hbr c0 c1 c2 c3 c4 c5 c6 c7 c8 c9 cf d0 d1 d2 d3 d4 d5 d6 d7 d8 d9 df n0 n1 n2 n3 n4 n5 n6 n7 n8 n9 nf; obtain ⟨⟨c0, c1, c2, c3, c4, c5, c6, c7, c8, c9⟩, cf⟩ := HQ.out.cells; try dsimp only at c0 c1 c2 c3 c4 c5 c6 c7 c8 c9; obtain ⟨⟨n0, n1, n2, n3, n4, n5, n6, n7, n8, n9⟩, nf⟩ := RBox.cells NR.out)
        refine rr_end (x := hNew 0) (pv := .slice none 0 0) false _ NR.out (Rd.nil _) BR.out (.inl ⟨rfl, HNO.out, rfl⟩) rfl rfl
      | true =>
        have HY := Lib.hid (G4.out hb hteq hrb)
        rw [hrb] at hrt
        clear hb hlft hrb hteq
        go_wp2_with (go_at_call 11; refine hrt.mono ?_; rintro e wr ⟨rfl, hbr⟩; have BR := Lib.hid (BW.out.trans (hbr.mono BW.out.size)); have HQ := Lib.hid (AQ.out.box.below hbr); have NR := Lib.hid (NW.out.below hbr); clear hbr c0 c1 c2 c3 c4 c5 c6 c7 c8 c9 cf d0 d1 d2 d3 d4 d5 d6 d7 d8 d9 df n0 n1 n2 n3 n4 n5 n6 n7 n8 n9 nf; obtain ⟨⟨c0, c1, c2, c3, c4, c5, c6, c7, c8, c9⟩, cf⟩ := HQ.out.cells; try dsimp only at c0 c1 c2 c3 c4 c5 c6 c7 c8 c9; obtain ⟨⟨n0, n1, n2, n3, n4, n5, n6, n7, n8, n9⟩, nf⟩ := RBox.cells NR.out)
        refine rr_end (x := ⟨20, 0, 0, 0, mm, false, [], [], 0, 0⟩) (pv := (.slice none 0 0)) true _ NR.out AQ.out.d BR.out (.inr ⟨rfl, HY.out⟩) rfl rfl
end Go.Proofs.YtefcjggmlhoebaaDoor
