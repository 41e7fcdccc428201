/- The document's Read of messages: 1. -/
import Derived.Test.YtefcjggmlhoebaaDoorHQR
import Derived.StillTailTactics
import Derived.Test.YtefcjggmlhoebaaDoorPRight
namespace Go.Proofs.YtefcjggmlhoebaaDoor
open Go Go.RowKit

set_option maxRecDepth 20000 in
set_option maxHeartbeats 16000000 in
theorem rread_11 {ok : List Int → Bool} (hp : RqOk ok) {w : World} {v : Value} {zs : List Int} (hr : Rd w v zs) (hpl : Plain v) (hl : zs.length ≤ 1000) (ho : oneH zs) (hk : zs.getD 0 0 = 11) :
    Calls Tryd.prog 17 #[v] w (HRR ok zs w) := by
  have hbt := hr.byt
  have h4 := ho.1
  have hX0 := below_alloc w (.cells (mcl 0 0 0 0 0 false (.slice none 0 0) ⟨#[]⟩ 0 0) 24)
  have N0 := rbox_new w 0 0 0 0 0 false (.slice none 0 0) ⟨#[]⟩ 0 0
  have hms := rmsgs_any (hr.below hX0) hpl (by omega)
  have HC := Lib.hid (hj_cases ok hbt ho)
  rcases hr.cases with ⟨rfl, _⟩ | ⟨b, off, cap, rfl, hpos, hlc, hcap, _, hcell⟩
  · simp at h4
  have k0 : w.cell? ⟨b, off, none⟩ = some (.int .u8 11) := by have := hcell 0 hpos; rwa [hk] at this
  have HD := Lib.hid (jrd_cut (t := 0) hr hpl 4 h4)
  have HN := Lib.hid N0
  have HX := Lib.hid hX0
  have HO := Lib.hid ho
  have HK := Lib.hid hk
  unfold mcl at hms HX
  clear hr hpl hcell ho hk N0 hX0
  go_enter Tryd.func17, Tryd.ntmps17
  go_wp2_with fail
  refine hms.mono ?_
  rintro e w1 hpost
  obtain ⟨a, c, n, okb, rfl, hb1, hcase⟩ := hpost.one hbt
  rcases hcase with ⟨rfl, rfl, _, g, x, b2, q, rfl, -, -⟩ | ⟨_, _, hno⟩
  case inr => exact absurd HO.out hno
  have HB1 := Lib.hid (HX.out.trans (hb1.mono HX.out.size))
  have HN1 := Lib.hid (HN.out.below hb1)
  have k1 : w1.cell? ⟨b, off, none⟩ = some (.int .u8 11) := keepH HB1.out k0
  clear hms hpost hb1 k0
  have hn4 : ((4 : Nat) : Int) ≤ (zs.length : Int) := by omega
  have hcapi : (cap : Int) ≤ 9223372036854775807 := by omega
  have hnc : (zs.length : Int) ≤ (cap : Int) := by omega
  have h0i : (0 : Int) < (zs.length : Int) := by omega
  go_wp2_with fail
  all_goals first
    | (have Q0 := qm_start 11 _ HB1.out HN1.out (HD.out.2.2 (by first | rfl | omega)).1.1 (HD.out.2.2 (by first | rfl | omega)).1.2 h4 (by omega); unfold mcl at Q0; change Calls Tryd.prog _ _ ((w1.alloc (.cells #[.int .i64 11, .int .i64 0, .int .i64 0, .int .i64 0, .int .i64 0, .bool false, .slice none 0 0, .string ⟨#[]⟩, .int .i64 0, .int .i64 0] 24)).alloc (.cells #[.slice (some ⟨b, off, none⟩) (zs.length - 4) 0, .bool false] 63)) _; generalize (w1.alloc (.cells #[.int .i64 11, .int .i64 0, .int .i64 0, .int .i64 0, .int .i64 0, .bool false, .slice none 0 0, .string ⟨#[]⟩, .int .i64 0, .int .i64 0] 24)).alloc (.cells #[.slice (some ⟨b, off, none⟩) (zs.length - 4) 0, .bool false] 63) = Y0 at Q0 ⊢)
    | (have Q0 := qm_start 11 _ HB1.out HN1.out HD.out.2.1.1 HD.out.2.1.2 h4 (by omega); simp only [Option.map_some, Addr.add_lit] at Q0; unfold mcl at Q0; change Calls Tryd.prog _ _ ((w1.alloc (.cells #[.int .i64 11, .int .i64 0, .int .i64 0, .int .i64 0, .int .i64 0, .bool false, .slice none 0 0, .string ⟨#[]⟩, .int .i64 0, .int .i64 0] 24)).alloc (.cells #[.slice (some ⟨b, off + 4, none⟩) (zs.length - 4) (cap - 4), .bool false] 63)) _; generalize (w1.alloc (.cells #[.int .i64 11, .int .i64 0, .int .i64 0, .int .i64 0, .int .i64 0, .bool false, .slice none 0 0, .string ⟨#[]⟩, .int .i64 0, .int .i64 0] 24)).alloc (.cells #[.slice (some ⟨b, off + 4, none⟩) (zs.length - 4) (cap - 4), .bool false] 63) = Y0 at Q0 ⊢)
  all_goals
    clear k1 hn4 hcapi hnc h0i
    obtain ⟨nm, s1, e1⟩ : ∃ a b, jBytes zs (zs.length - 4) ⟨4, false⟩ = (a, b) := ⟨_, _, rfl⟩
    have E1 := Lib.hid e1
    have k1 := jbytes_any Q0.jq ((zs.length - 4 : Nat) : Int) (by omega)
    rw [Int.toNat_natCast, e1] at k1
    dsimp only at k1
    clear e1
    have A1 := Lib.hid Q0
    clear Q0
    refine k1.mono ?_
    rintro e W1 ⟨vn, rfl, ⟨hrn, _⟩, hj1, hb1⟩
    have P1 := A1.out.call hj1 hb1
    have hcv := conv_any (hrn.below P1.bel)
    obtain ⟨an, cn, rfl⟩ := hrn.shape
    clear k1 A1 hj1 hb1
    obtain ⟨⟨c0, c1, c2, c3, c4, c5, c6, c7, c8, c9⟩, cf⟩ := P1.box.cells
    try dsimp only at c0 c1 c2 c3 c4 c5 c6 c7 c8 c9
    have Q1 := P1.set 7 (.string (bstr nm)) (x' := ⟨11, 0, 0, 0, 0, false, [], nm, 0, 0⟩) rfl P1.d P1.pl
    clear P1
    have HJ : Hid (jMsg zs (zs.getD 0 0) 4 = (⟨11, 0, 0, 0, 0, false, [], nm, 0, 0⟩, s1)) := Lib.hid (by rw [HK.out]; simp [jMsg, E1.out])
    obtain ⟨g1, g2, g3, g4⟩ := HC.out
    rw [HJ.out] at g1 g2 g3 g4
    dsimp only at g1 g2 g3 g4
    have G1 := Lib.hid g1
    have G2 := Lib.hid g2
    have G3 := Lib.hid g3
    have G4 := Lib.hid g4
    clear g1 g2 g3 g4
    obtain ⟨ao, nn, cp2, hnn, hrr, _, hlc2, hcp2, ic0, ic1, icf⟩ := Q1.jq.cells
    obtain ⟨⟨d0, d1, d2, d3, d4, d5, d6, d7, d8, d9⟩, df⟩ := Q1.box.cells
    try dsimp only at d0 d1 d2 d3 d4 d5 d6 d7 d8 d9
    have BW := Lib.hid Q1.bel
    have NW := Lib.hid Q1.res
    obtain ⟨⟨n0, n1, n2, n3, n4, n5, n6, n7, n8, n9⟩, nf⟩ := RBox.cells NW.out
    have hrt := rright_any hp ⟨11, 0, 0, 0, 0, false, [], nm, 0, 0⟩ (vp := (.slice none 0 0)) (Q1.d.below Q1.bel) (by simp)
    dsimp only at hrt
    unfold mcl at hrt
    have AQ := Lib.hid Q1
    clear Q1 hrr
    cases hb : s1.b with
    | true =>
      rw [hb] at ic1
      have HNO := Lib.hid (G1.out hb)
      clear hb
      go_wp2_with fail
      refine rr_end (x := hNew 0) (pv := .slice none 0 0) false _ NW.out (Rd.nil _) BW.out (.inl ⟨rfl, HNO.out, rfl⟩) rfl rfl
    | false =>
      rw [hb] at ic1
      by_cases hlft : s1.t < zs.length
      · have HNO := Lib.hid (G2.out hlft)
        have hd1 : decide ((0 : Int) < (nn : Int)) = true := decide_eq_true (by omega)
        have hd2 : decide (0 < nn) = true := decide_eq_true (by omega)
        clear hb hlft
        go_wp2_with fail
        refine rr_end (x := hNew 0) (pv := .slice none 0 0) false _ NW.out (Rd.nil _) BW.out (.inl ⟨rfl, HNO.out, rfl⟩) rfl rfl
      have hd1 : decide ((0 : Int) < (nn : Int)) = false := decide_eq_false (by omega)
      have hd2 : decide (0 < nn) = false := decide_eq_false (by omega)
      have hteq : s1.t = zs.length := by have := AQ.out.jq.tl; omega
      cases hrb : rightB (ok []) ⟨11, 0, 0, 0, 0, false, [], nm, 0, 0⟩ with
      | false =>
        have HNO := Lib.hid (G3.out hrb)
        rw [hrb] at hrt
        clear hb hlft hrb hteq
        go_wp2_with (go_at_call 11; refine hrt.mono ?_; rintro e wr ⟨rfl, hbr⟩; have BR := Lib.hid (BW.out.trans (hbr.mono BW.out.size)); have HQ := Lib.hid (AQ.out.box.below hbr); have NR := Lib.hid (NW.out.below hbr); clear hbr c0 c1 c2 c3 c4 c5 c6 c7 c8 c9 cf d0 d1 d2 d3 d4 d5 d6 d7 d8 d9 df n0 n1 n2 n3 n4 n5 n6 n7 n8 n9 nf; obtain ⟨⟨c0, c1, c2, c3, c4, c5, c6, c7, c8, c9⟩, cf⟩ := HQ.out.cells; try dsimp only at c0 c1 c2 c3 c4 c5 c6 c7 c8 c9; obtain ⟨⟨n0, n1, n2, n3, n4, n5, n6, n7, n8, n9⟩, nf⟩ := RBox.cells NR.out)
        refine rr_end (x := hNew 0) (pv := .slice none 0 0) false _ NR.out (Rd.nil _) BR.out (.inl ⟨rfl, HNO.out, rfl⟩) rfl rfl
      | true =>
        have HY := Lib.hid (G4.out hb hteq hrb)
        rw [hrb] at hrt
        clear hb hlft hrb hteq
        go_wp2_with (go_at_call 11; refine hrt.mono ?_; rintro e wr ⟨rfl, hbr⟩; have BR := Lib.hid (BW.out.trans (hbr.mono BW.out.size)); have HQ := Lib.hid (AQ.out.box.below hbr); have NR := Lib.hid (NW.out.below hbr); clear hbr c0 c1 c2 c3 c4 c5 c6 c7 c8 c9 cf d0 d1 d2 d3 d4 d5 d6 d7 d8 d9 df n0 n1 n2 n3 n4 n5 n6 n7 n8 n9 nf; obtain ⟨⟨c0, c1, c2, c3, c4, c5, c6, c7, c8, c9⟩, cf⟩ := HQ.out.cells; try dsimp only at c0 c1 c2 c3 c4 c5 c6 c7 c8 c9; obtain ⟨⟨n0, n1, n2, n3, n4, n5, n6, n7, n8, n9⟩, nf⟩ := RBox.cells NR.out)
        refine rr_end (x := ⟨11, 0, 0, 0, 0, false, [], nm, 0, 0⟩) (pv := (.slice none 0 0)) true _ NR.out AQ.out.d BR.out (.inr ⟨rfl, HY.out⟩) rfl rfl
end Go.Proofs.YtefcjggmlhoebaaDoor
namespace Go.Proofs.YtefcjggmlhoebaaDoor
open Go Go.RowKit

theorem pow256_le {k : Nat} (h : k ≤ 3) : (256 : Int) ^ k ≤ 16777216 := by
  have : k = 0 ∨ k = 1 ∨ k = 2 ∨ k = 3 := by omega
  rcases this with rfl | rfl | rfl | rfl <;> decide
theorem jbytes_le (zs : List Int) (n : Nat) (s : JS) : (jBytes zs n s).1.length ≤ n := by
  unfold jBytes
  by_cases hb : s.b = true
  · rw [if_pos hb]; exact Nat.zero_le _
  rw [if_neg hb]
  cases h : gBytes zs n s.t with
  | none => exact Nat.zero_le _
  | some x =>
    obtain ⟨l, t⟩ := x
    show l.length ≤ _
    unfold gBytes at h
    split at h
    · cases h
    · simp only [Option.some.injEq, Prod.mk.injEq] at h
      obtain ⟨rfl, _⟩ := h
      simp only [List.length_take, List.length_drop]
      omega
theorem Qm.drew {w0 W : World} {zs : List Int} {H I : Nat} {x : Hm} {pv : Value} {s : JS} (h : Qm w0 W zs H I x pv s) : Qm w0 W.drew zs H I x pv s :=
  ⟨h.box.drew, h.d, h.pl, ⟨h.jq.bel.drew, h.jq.lo, h.jq.tl, h.jq.sz, h.jq.box⟩, h.lo, h.res.drew⟩
set_option maxRecDepth 20000 in
set_option maxHeartbeats 16000000 in
theorem rread_2 {ok : List Int → Bool} (hp : RqOk ok) {w : World} {v : Value} {zs : List Int} (hr : Rd w v zs) (hpl : Plain v) (hl : zs.length ≤ 1000) (ho : oneH zs) (hk : zs.getD 0 0 = 2) :
    Calls Tryd.prog 17 #[v] w (HRR ok zs w) := by
  have hbt := hr.byt
  have h4 := ho.1
  have hX0 := below_alloc w (.cells (mcl 0 0 0 0 0 false (.slice none 0 0) ⟨#[]⟩ 0 0) 24)
  have N0 := rbox_new w 0 0 0 0 0 false (.slice none 0 0) ⟨#[]⟩ 0 0
  have hms := rmsgs_any (hr.below hX0) hpl (by omega)
  have HC := Lib.hid (hj_cases ok hbt ho)
  rcases hr.cases with ⟨rfl, _⟩ | ⟨b, off, cap, rfl, hpos, hlc, hcap, _, hcell⟩
  · simp at h4
  have k0 : w.cell? ⟨b, off, none⟩ = some (.int .u8 2) := by have := hcell 0 hpos; rwa [hk] at this
  have HD := Lib.hid (jrd_cut (t := 0) hr hpl 4 h4)
  have HN := Lib.hid N0
  have HX := Lib.hid hX0
  have HO := Lib.hid ho
  have HK := Lib.hid hk
  unfold mcl at hms HX
  clear hr hpl hcell ho hk N0 hX0
  go_enter Tryd.func17, Tryd.ntmps17
  go_wp2_with fail
  refine hms.mono ?_
  rintro e w1 hpost
  obtain ⟨a, c, n, okb, rfl, hb1, hcase⟩ := hpost.one hbt
  rcases hcase with ⟨rfl, rfl, _, g, x, b2, q, rfl, -, -⟩ | ⟨_, _, hno⟩
  case inr => exact absurd HO.out hno
  have HB1 := Lib.hid (HX.out.trans (hb1.mono HX.out.size))
  have HN1 := Lib.hid (HN.out.below hb1)
  have k1 : w1.cell? ⟨b, off, none⟩ = some (.int .u8 2) := keepH HB1.out k0
  clear hms hpost hb1 k0
  have hn4 : ((4 : Nat) : Int) ≤ (zs.length : Int) := by omega
  have hcapi : (cap : Int) ≤ 9223372036854775807 := by omega
  have hnc : (zs.length : Int) ≤ (cap : Int) := by omega
  have h0i : (0 : Int) < (zs.length : Int) := by omega
  go_wp2_with fail
  all_goals first
    | (have Q0 := qm_start 2 _ HB1.out HN1.out (HD.out.2.2 (by first | rfl | omega)).1.1 (HD.out.2.2 (by first | rfl | omega)).1.2 h4 (by omega); unfold mcl at Q0; change Calls Tryd.prog _ _ ((w1.alloc (.cells #[.int .i64 2, .int .i64 0, .int .i64 0, .int .i64 0, .int .i64 0, .bool false, .slice none 0 0, .string ⟨#[]⟩, .int .i64 0, .int .i64 0] 24)).alloc (.cells #[.slice (some ⟨b, off, none⟩) (zs.length - 4) 0, .bool false] 63)) _; generalize (w1.alloc (.cells #[.int .i64 2, .int .i64 0, .int .i64 0, .int .i64 0, .int .i64 0, .bool false, .slice none 0 0, .string ⟨#[]⟩, .int .i64 0, .int .i64 0] 24)).alloc (.cells #[.slice (some ⟨b, off, none⟩) (zs.length - 4) 0, .bool false] 63) = Y0 at Q0 ⊢)
    | (have Q0 := qm_start 2 _ HB1.out HN1.out HD.out.2.1.1 HD.out.2.1.2 h4 (by omega); simp only [Option.map_some, Addr.add_lit] at Q0; unfold mcl at Q0; change Calls Tryd.prog _ _ ((w1.alloc (.cells #[.int .i64 2, .int .i64 0, .int .i64 0, .int .i64 0, .int .i64 0, .bool false, .slice none 0 0, .string ⟨#[]⟩, .int .i64 0, .int .i64 0] 24)).alloc (.cells #[.slice (some ⟨b, off + 4, none⟩) (zs.length - 4) (cap - 4), .bool false] 63)) _; generalize (w1.alloc (.cells #[.int .i64 2, .int .i64 0, .int .i64 0, .int .i64 0, .int .i64 0, .bool false, .slice none 0 0, .string ⟨#[]⟩, .int .i64 0, .int .i64 0] 24)).alloc (.cells #[.slice (some ⟨b, off + 4, none⟩) (zs.length - 4) (cap - 4), .bool false] 63) = Y0 at Q0 ⊢)
  all_goals
    clear k1 hn4 hcapi hnc h0i
    obtain ⟨rr, s1, e1⟩ : ∃ a b, jTerm zs ⟨4, false⟩ = (a, b) := ⟨_, _, rfl⟩
    have E1 := Lib.hid e1
    have k1 := jterm_any Q0.jq hbt
    rw [e1] at k1
    dsimp only at k1
    clear e1
    have A1 := Lib.hid Q0
    clear Q0
    refine k1.mono ?_
    rintro e W1 ⟨rfl, hj1, hb1⟩
    have P1 := A1.out.call hj1 hb1
    clear k1 A1 hj1 hb1
    obtain ⟨⟨c0, c1, c2, c3, c4, c5, c6, c7, c8, c9⟩, cf⟩ := P1.box.cells
    try dsimp only at c0 c1 c2 c3 c4 c5 c6 c7 c8 c9
    have Q1 := P1.set 1 (.int .i64 rr) (x' := ⟨2, rr, 0, 0, 0, false, [], [], 0, 0⟩) rfl P1.d P1.pl
    clear P1
    go_wp2_with fail
    clear c0 c1 c2 c3 c4 c5 c6 c7 c8 c9 cf
    generalize W1.setCell ⟨w1.heap.size, 1, none⟩ (.int .i64 rr) = Y1 at *
    obtain ⟨ss, s2, e2⟩ : ∃ a b, jTerm zs s1 = (a, b) := ⟨_, _, rfl⟩
    have E2 := Lib.hid e2
    have k2 := jterm_any Q1.jq hbt
    rw [e2] at k2
    dsimp only at k2
    clear e2
    have A2 := Lib.hid Q1
    clear Q1
    refine k2.mono ?_
    rintro e W2 ⟨rfl, hj2, hb2⟩
    have P2 := A2.out.call hj2 hb2
    clear k2 A2 hj2 hb2
    obtain ⟨⟨c0, c1, c2, c3, c4, c5, c6, c7, c8, c9⟩, cf⟩ := P2.box.cells
    try dsimp only at c0 c1 c2 c3 c4 c5 c6 c7 c8 c9
    have Q2 := P2.set 2 (.int .i64 ss) (x' := ⟨2, rr, ss, 0, 0, false, [], [], 0, 0⟩) rfl P2.d P2.pl
    clear P2
    go_wp2_with fail
    clear c0 c1 c2 c3 c4 c5 c6 c7 c8 c9 cf
    generalize W2.setCell ⟨w1.heap.size, 2, none⟩ (.int .i64 ss) = Y2 at *
    obtain ⟨l, s3, e3⟩ : ∃ a b, jBytes zs 4 s2 = (a, b) := ⟨_, _, rfl⟩
    have E3 := Lib.hid e3
    have hbl := byt_jbytes hbt 4 s2
    have hll := jbytes_le zs 4 s2
    have k3 := jbytes_any Q2.jq 4 (by omega)
    rw [show (4 : Int).toNat = 4 from rfl, e3] at k3
    rw [e3] at hbl hll
    dsimp only at k3 hbl hll
    clear e3
    have A3 := Lib.hid Q2
    clear Q2
    refine k3.mono ?_
    rintro e W3 ⟨vv, rfl, ⟨hrv, _⟩, hj3, hb3⟩
    have Q3 := A3.out.call hj3 hb3
    obtain ⟨av, cv, rfl⟩ := hrv.shape
    have HRV := Lib.hid hrv
    have HBL := Lib.hid hbl
    clear k3 A3 hj3 hb3 hrv hbl
    have hl9 : (l.length : Int) ≤ 4 := by omega
    go_wp2_with fail
    go_loopw [10] (fun iv wr => ∃ j : Nat, iv = .int .i64 j ∧ j ≤ l.length ∧ Hid (Qm w wr zs w1.heap.size (w1.heap.size + 1) ⟨2, rr, ss, 0, 0, false, [], [], bigv (l.take j) 0, 0⟩ (.slice none 0 0) s3)) (fun iv _ => l.length - (intOf iv).toNat)
    case atStart => exact ⟨0, rfl, Nat.zero_le _, Lib.hid Q3⟩
    case round =>
      clear Q3
      obtain ⟨j, rfl, hj, HQ⟩ := hrel
      by_cases hlt : j < l.length
      · obtain ⟨b3, o3, rfl, hce⟩ := (HRV.out.below HQ.out.bel).cellAt hlt
        obtain ⟨⟨c0, c1, c2, c3, c4, c5, c6, c7, c8, c9⟩, cf⟩ := HQ.out.box.cells
        try dsimp only at c0 c1 c2 c3 c4 c5 c6 c7 c8 c9
        have hbd := bigv_bd (HBL.out.take j)
        have hx := HBL.out.get j
        have hlen : (l.take j).length ≤ 3 := by rw [List.length_take]; omega
        have hp : (256 : Int) ^ (l.take j).length ≤ 16777216 := pow256_le hlen
        have HB2 : Hid (bigv (l.take (j + 1)) 0 = 256 * bigv (l.take j) 0 + l.getD j 0) := Lib.hid (by
          rw [List.take_add_one, List.getElem?_eq_getElem hlt, Option.toList_some, bigv_snoc]
          simp [List.getD, hlt])
        have hji : (j : Int) < (l.length : Int) := by omega
        generalize bigv (l.take j) 0 = B at *
        generalize l.getD j 0 = xx at *
        have w1' : wrap64 (256 * B) = 256 * B := by unfold wrap64; omega
        have w2' : wrap64 xx = xx := by unfold wrap64; omega
        have w3' : wrap64 (256 * B + xx) = 256 * B + xx := by unfold wrap64; omega
        clear hbd hp hlen
        go_wp2_with fail
        go_still_tail 10, (by kernel_rfl)
        go_wp2_with fail
        go_roundw
        case rel => exact ⟨j + 1, by go_num, by omega, Lib.hid (by
          have hq := HQ.out.drew.set 8 (.int .i64 (256 * B + xx)) (x' := ⟨2, rr, ss, 0, 0, false, [], [], 256 * B + xx, 0⟩) rfl (Rd.nil _) (.inl rfl)
          rw [HB2.out]
          exact hq)⟩
        case measure => simp [intOf]; omega
      · have hji : ¬ (j : Int) < (l.length : Int) := by omega
        have Q3 : Qm w wr zs w1.heap.size (w1.heap.size + 1) ⟨2, rr, ss, 0, 0, false, [], [], bigv l 0, 0⟩ (.slice none 0 0) s3 := by
          have := HQ.out
          rw [List.take_of_length_le (by omega)] at this
          exact this
        obtain ⟨BV, hBV⟩ : ∃ BV, BV = bigv l 0 := ⟨_, rfl⟩
        rw [← hBV] at Q3
        have HBV := Lib.hid hBV
        clear HQ hBV
        go_wp2_with fail
        obtain ⟨fb, s4, e4⟩ : ∃ a b, jFlag zs s3 = (a, b) := ⟨_, _, rfl⟩
        have E4 := Lib.hid e4
        have k4 := jflag_any Q3.jq hbt
        rw [e4] at k4
        dsimp only at k4
        clear e4
        have A4 := Lib.hid Q3
        clear Q3
        refine k4.mono ?_
        rintro e W4 ⟨rfl, hj4, hb4⟩
        have P4 := A4.out.call hj4 hb4
        clear k4 A4 hj4 hb4
        obtain ⟨⟨c0, c1, c2, c3, c4, c5, c6, c7, c8, c9⟩, cf⟩ := P4.box.cells
        try dsimp only at c0 c1 c2 c3 c4 c5 c6 c7 c8 c9
        have Q4 := P4.set 5 (.bool fb) (x' := ⟨2, rr, ss, 0, 0, fb, [], [], BV, 0⟩) rfl P4.d P4.pl
        clear P4
        have HJ : Hid (jMsg zs (zs.getD 0 0) 4 = (⟨2, rr, ss, 0, 0, fb, [], [], BV, 0⟩, s4)) := Lib.hid (by rw [HK.out]; rw [HBV.out]; simp [jMsg, E1.out, E2.out, E3.out, E4.out])
        obtain ⟨g1, g2, g3, g4⟩ := HC.out
        rw [HJ.out] at g1 g2 g3 g4
        dsimp only at g1 g2 g3 g4
        have G1 := Lib.hid g1
        have G2 := Lib.hid g2
        have G3 := Lib.hid g3
        have G4 := Lib.hid g4
        clear g1 g2 g3 g4
        obtain ⟨ao, nn, cp2, hnn, hrr, _, hlc2, hcp2, ic0, ic1, icf⟩ := Q4.jq.cells
        obtain ⟨⟨d0, d1, d2, d3, d4, d5, d6, d7, d8, d9⟩, df⟩ := Q4.box.cells
        try dsimp only at d0 d1 d2 d3 d4 d5 d6 d7 d8 d9
        have BW := Lib.hid Q4.bel
        have NW := Lib.hid Q4.res
        obtain ⟨⟨n0, n1, n2, n3, n4, n5, n6, n7, n8, n9⟩, nf⟩ := RBox.cells NW.out
        have hrt := rright_any hp ⟨2, rr, ss, 0, 0, fb, [], [], BV, 0⟩ (vp := (.slice none 0 0)) (Q4.d.below Q4.bel) (by simp)
        dsimp only at hrt
        unfold mcl at hrt
        have AQ := Lib.hid Q4
        clear Q4 hrr
        cases hb : s4.b with
        | true =>
          rw [hb] at ic1
          have HNO := Lib.hid (G1.out hb)
          clear hb
          go_wp2_with fail
          refine rr_end (x := hNew 0) (pv := .slice none 0 0) false _ NW.out (Rd.nil _) BW.out (.inl ⟨rfl, HNO.out, rfl⟩) rfl rfl
        | false =>
          rw [hb] at ic1
          by_cases hlft : s4.t < zs.length
          · have HNO := Lib.hid (G2.out hlft)
            have hd1 : decide ((0 : Int) < (nn : Int)) = true := decide_eq_true (by omega)
            have hd2 : decide (0 < nn) = true := decide_eq_true (by omega)
            clear hb hlft
            go_wp2_with fail
            refine rr_end (x := hNew 0) (pv := .slice none 0 0) false _ NW.out (Rd.nil _) BW.out (.inl ⟨rfl, HNO.out, rfl⟩) rfl rfl
          have hd1 : decide ((0 : Int) < (nn : Int)) = false := decide_eq_false (by omega)
          have hd2 : decide (0 < nn) = false := decide_eq_false (by omega)
          have hteq : s4.t = zs.length := by have := AQ.out.jq.tl; omega
          cases hrb : rightB (ok []) ⟨2, rr, ss, 0, 0, fb, [], [], BV, 0⟩ with
          | false =>
            have HNO := Lib.hid (G3.out hrb)
            rw [hrb] at hrt
            clear hb hlft hrb hteq
            go_wp2_with (go_at_call 11; refine hrt.mono ?_; rintro e wr ⟨rfl, hbr⟩; have BR := Lib.hid (BW.out.trans (hbr.mono BW.out.size)); have HQ := Lib.hid (AQ.out.box.below hbr); have NR := Lib.hid (NW.out.below hbr); clear hbr c0 c1 c2 c3 c4 c5 c6 c7 c8 c9 cf d0 d1 d2 d3 d4 d5 d6 d7 d8 d9 df n0 n1 n2 n3 n4 n5 n6 n7 n8 n9 nf; obtain ⟨⟨c0, c1, c2, c3, c4, c5, c6, c7, c8, c9⟩, cf⟩ := HQ.out.cells; try dsimp only at c0 c1 c2 c3 c4 c5 c6 c7 c8 c9; obtain ⟨⟨n0, n1, n2, n3, n4, n5, n6, n7, n8, n9⟩, nf⟩ := RBox.cells NR.out)
            refine rr_end (x := hNew 0) (pv := .slice none 0 0) false _ NR.out (Rd.nil _) BR.out (.inl ⟨rfl, HNO.out, rfl⟩) rfl rfl
          | true =>
            have HY := Lib.hid (G4.out hb hteq hrb)
            rw [hrb] at hrt
            clear hb hlft hrb hteq
            go_wp2_with (go_at_call 11; refine hrt.mono ?_; rintro e wr ⟨rfl, hbr⟩; have BR := Lib.hid (BW.out.trans (hbr.mono BW.out.size)); have HQ := Lib.hid (AQ.out.box.below hbr); have NR := Lib.hid (NW.out.below hbr); clear hbr c0 c1 c2 c3 c4 c5 c6 c7 c8 c9 cf d0 d1 d2 d3 d4 d5 d6 d7 d8 d9 df n0 n1 n2 n3 n4 n5 n6 n7 n8 n9 nf; obtain ⟨⟨c0, c1, c2, c3, c4, c5, c6, c7, c8, c9⟩, cf⟩ := HQ.out.cells; try dsimp only at c0 c1 c2 c3 c4 c5 c6 c7 c8 c9; obtain ⟨⟨n0, n1, n2, n3, n4, n5, n6, n7, n8, n9⟩, nf⟩ := RBox.cells NR.out)
            refine rr_end (x := ⟨2, rr, ss, 0, 0, fb, [], [], BV, 0⟩) (pv := (.slice none 0 0)) true _ NR.out AQ.out.d BR.out (.inr ⟨rfl, HY.out⟩) rfl rfl
end Go.Proofs.YtefcjggmlhoebaaDoor
namespace Go.Proofs.YtefcjggmlhoebaaDoor
open Go Go.RowKit

set_option maxRecDepth 20000 in
set_option maxHeartbeats 16000000 in
theorem rread_1 {ok : List Int → Bool} (hp : RqOk ok) {w : World} {v : Value} {zs : List Int} (hr : Rd w v zs) (hpl : Plain v) (hl : zs.length ≤ 1000) (ho : oneH zs) (hk : zs.getD 0 0 = 1) :
    Calls Tryd.prog 17 #[v] w (HRR ok zs w) := by
  have hbt := hr.byt
  have h4 := ho.1
  have hX0 := below_alloc w (.cells (mcl 0 0 0 0 0 false (.slice none 0 0) ⟨#[]⟩ 0 0) 24)
  have N0 := rbox_new w 0 0 0 0 0 false (.slice none 0 0) ⟨#[]⟩ 0 0
  have hms := rmsgs_any (hr.below hX0) hpl (by omega)
  have HC := Lib.hid (hj_cases ok hbt ho)
  rcases hr.cases with ⟨rfl, _⟩ | ⟨b, off, cap, rfl, hpos, hlc, hcap, _, hcell⟩
  · simp at h4
  have k0 : w.cell? ⟨b, off, none⟩ = some (.int .u8 1) := by have := hcell 0 hpos; rwa [hk] at this
  have HD := Lib.hid (jrd_cut (t := 0) hr hpl 4 h4)
  have HN := Lib.hid N0
  have HX := Lib.hid hX0
  have HO := Lib.hid ho
  have HK := Lib.hid hk
  unfold mcl at hms HX
  clear hr hpl hcell ho hk N0 hX0
  go_enter Tryd.func17, Tryd.ntmps17
  go_wp2_with fail
  refine hms.mono ?_
  rintro e w1 hpost
  obtain ⟨a, c, n, okb, rfl, hb1, hcase⟩ := hpost.one hbt
  rcases hcase with ⟨rfl, rfl, _, g, x, b2, q, rfl, -, -⟩ | ⟨_, _, hno⟩
  case inr => exact absurd HO.out hno
  have HB1 := Lib.hid (HX.out.trans (hb1.mono HX.out.size))
  have HN1 := Lib.hid (HN.out.below hb1)
  have k1 : w1.cell? ⟨b, off, none⟩ = some (.int .u8 1) := keepH HB1.out k0
  clear hms hpost hb1 k0
  have hn4 : ((4 : Nat) : Int) ≤ (zs.length : Int) := by omega
  have hcapi : (cap : Int) ≤ 9223372036854775807 := by omega
  have hnc : (zs.length : Int) ≤ (cap : Int) := by omega
  have h0i : (0 : Int) < (zs.length : Int) := by omega
  go_wp2_with fail
  all_goals first
    | (have Q0 := qm_start 1 _ HB1.out HN1.out (HD.out.2.2 (by first | rfl | omega)).1.1 (HD.out.2.2 (by first | rfl | omega)).1.2 h4 (by omega); unfold mcl at Q0; change Calls Tryd.prog _ _ ((w1.alloc (.cells #[.int .i64 1, .int .i64 0, .int .i64 0, .int .i64 0, .int .i64 0, .bool false, .slice none 0 0, .string ⟨#[]⟩, .int .i64 0, .int .i64 0] 24)).alloc (.cells #[.slice (some ⟨b, off, none⟩) (zs.length - 4) 0, .bool false] 63)) _; generalize (w1.alloc (.cells #[.int .i64 1, .int .i64 0, .int .i64 0, .int .i64 0, .int .i64 0, .bool false, .slice none 0 0, .string ⟨#[]⟩, .int .i64 0, .int .i64 0] 24)).alloc (.cells #[.slice (some ⟨b, off, none⟩) (zs.length - 4) 0, .bool false] 63) = Y0 at Q0 ⊢)
    | (have Q0 := qm_start 1 _ HB1.out HN1.out HD.out.2.1.1 HD.out.2.1.2 h4 (by omega); simp only [Option.map_some, Addr.add_lit] at Q0; unfold mcl at Q0; change Calls Tryd.prog _ _ ((w1.alloc (.cells #[.int .i64 1, .int .i64 0, .int .i64 0, .int .i64 0, .int .i64 0, .bool false, .slice none 0 0, .string ⟨#[]⟩, .int .i64 0, .int .i64 0] 24)).alloc (.cells #[.slice (some ⟨b, off + 4, none⟩) (zs.length - 4) (cap - 4), .bool false] 63)) _; generalize (w1.alloc (.cells #[.int .i64 1, .int .i64 0, .int .i64 0, .int .i64 0, .int .i64 0, .bool false, .slice none 0 0, .string ⟨#[]⟩, .int .i64 0, .int .i64 0] 24)).alloc (.cells #[.slice (some ⟨b, off + 4, none⟩) (zs.length - 4) (cap - 4), .bool false] 63) = Y0 at Q0 ⊢)
  all_goals
    clear k1 hn4 hcapi hnc h0i
    obtain ⟨rr, s1, e1⟩ : ∃ a b, jTerm zs ⟨4, false⟩ = (a, b) := ⟨_, _, rfl⟩
    have E1 := Lib.hid e1
    have k1 := jterm_any Q0.jq hbt
    rw [e1] at k1
    dsimp only at k1
    clear e1
    have A1 := Lib.hid Q0
    clear Q0
    refine k1.mono ?_
    rintro e W1 ⟨rfl, hj1, hb1⟩
    have P1 := A1.out.call hj1 hb1
    clear k1 A1 hj1 hb1
    obtain ⟨⟨c0, c1, c2, c3, c4, c5, c6, c7, c8, c9⟩, cf⟩ := P1.box.cells
    try dsimp only at c0 c1 c2 c3 c4 c5 c6 c7 c8 c9
    have Q1 := P1.set 1 (.int .i64 rr) (x' := ⟨1, rr, 0, 0, 0, false, [], [], 0, 0⟩) rfl P1.d P1.pl
    clear P1
    go_wp2_with fail
    clear c0 c1 c2 c3 c4 c5 c6 c7 c8 c9 cf
    generalize W1.setCell ⟨w1.heap.size, 1, none⟩ (.int .i64 rr) = Y1 at *
    obtain ⟨ss, s2, e2⟩ : ∃ a b, jTerm zs s1 = (a, b) := ⟨_, _, rfl⟩
    have E2 := Lib.hid e2
    have k2 := jterm_any Q1.jq hbt
    rw [e2] at k2
    dsimp only at k2
    clear e2
    have A2 := Lib.hid Q1
    clear Q1
    refine k2.mono ?_
    rintro e W2 ⟨rfl, hj2, hb2⟩
    have P2 := A2.out.call hj2 hb2
    clear k2 A2 hj2 hb2
    obtain ⟨⟨c0, c1, c2, c3, c4, c5, c6, c7, c8, c9⟩, cf⟩ := P2.box.cells
    try dsimp only at c0 c1 c2 c3 c4 c5 c6 c7 c8 c9
    have Q2 := P2.set 2 (.int .i64 ss) (x' := ⟨1, rr, ss, 0, 0, false, [], [], 0, 0⟩) rfl P2.d P2.pl
    clear P2
    go_wp2_with fail
    clear c0 c1 c2 c3 c4 c5 c6 c7 c8 c9 cf
    generalize W2.setCell ⟨w1.heap.size, 2, none⟩ (.int .i64 ss) = Y2 at *
    obtain ⟨fb, s3, e3⟩ : ∃ a b, jFlag zs s2 = (a, b) := ⟨_, _, rfl⟩
    have E3 := Lib.hid e3
    have k3 := jflag_any Q2.jq hbt
    rw [e3] at k3
    dsimp only at k3
    clear e3
    have A3 := Lib.hid Q2
    clear Q2
    refine k3.mono ?_
    rintro e W3 ⟨rfl, hj3, hb3⟩
    have P3 := A3.out.call hj3 hb3
    clear k3 A3 hj3 hb3
    obtain ⟨⟨c0, c1, c2, c3, c4, c5, c6, c7, c8, c9⟩, cf⟩ := P3.box.cells
    try dsimp only at c0 c1 c2 c3 c4 c5 c6 c7 c8 c9
    have Q3 := P3.set 5 (.bool fb) (x' := ⟨1, rr, ss, 0, 0, fb, [], [], 0, 0⟩) rfl P3.d P3.pl
    clear P3
    go_wp2_with fail
    clear c0 c1 c2 c3 c4 c5 c6 c7 c8 c9 cf
    generalize W3.setCell ⟨w1.heap.size, 5, none⟩ (.bool fb) = Y3 at *
    obtain ⟨hs, s4, e4⟩ : ∃ a b, jFlag zs s3 = (a, b) := ⟨_, _, rfl⟩
    have E4 := Lib.hid e4
    have k4 := jflag_any Q3.jq hbt
    rw [e4] at k4
    dsimp only at k4
    clear e4
    have A4 := Lib.hid Q3
    clear Q3
    cases hs with
    | true =>
      refine k4.mono ?_
      rintro e W4 ⟨rfl, hj4, hb4⟩
      have P4 := A4.out.call hj4 hb4
      clear k4 A4 hj4 hb4
      have Q4 := P4
      clear P4
      go_wp2_with fail
      obtain ⟨tt, s5, e5⟩ : ∃ a b, jTerm zs s4 = (a, b) := ⟨_, _, rfl⟩
      have E5 := Lib.hid e5
      have k5 := jterm_any Q4.jq hbt
      rw [e5] at k5
      dsimp only at k5
      clear e5
      have A5 := Lib.hid Q4
      clear Q4
      refine k5.mono ?_
      rintro e W5 ⟨rfl, hj5, hb5⟩
      have P5 := A5.out.call hj5 hb5
      clear k5 A5 hj5 hb5
      obtain ⟨⟨c0, c1, c2, c3, c4, c5, c6, c7, c8, c9⟩, cf⟩ := P5.box.cells
      try dsimp only at c0 c1 c2 c3 c4 c5 c6 c7 c8 c9
      have Q5 := P5.set 3 (.int .i64 tt) (x' := ⟨1, rr, ss, tt, 0, fb, [], [], 0, 0⟩) rfl P5.d P5.pl
      clear P5
      go_wp2_with fail
      clear c0 c1 c2 c3 c4 c5 c6 c7 c8 c9 cf
      generalize W5.setCell ⟨w1.heap.size, 3, none⟩ (.int .i64 tt) = Y5 at *
      obtain ⟨p, s6, e6⟩ : ∃ a b, jGive zs s5 = (a, b) := ⟨_, _, rfl⟩
      have E6 := Lib.hid e6
      have k6 := jgive_any Q5.jq hbt (by omega)
      rw [e6] at k6
      dsimp only at k6
      clear e6
      have A6 := Lib.hid Q5
      clear Q5
      refine k6.mono ?_
      rintro e W6 ⟨pv, rfl, ⟨hrp, hpp⟩, hj6, hb6⟩
      obtain ⟨ap, cp, rfl⟩ := hrp.shape
      have P6 := A6.out.call hj6 hb6
      clear k6 A6 hj6 hb6
      obtain ⟨⟨c0, c1, c2, c3, c4, c5, c6, c7, c8, c9⟩, cf⟩ := P6.box.cells
      try dsimp only at c0 c1 c2 c3 c4 c5 c6 c7 c8 c9
      have Q6 := P6.set 6 (.slice ap p.length cp) (x' := ⟨1, rr, ss, tt, 0, fb, p, [], 0, 0⟩) rfl hrp hpp
      clear P6
      go_wp2_with fail
      clear c0 c1 c2 c3 c4 c5 c6 c7 c8 c9 cf
      generalize W6.setCell ⟨w1.heap.size, 6, none⟩ (.slice ap p.length cp) = Y6 at *
      obtain ⟨mm, s7, e7⟩ : ∃ a b, jTerm zs s6 = (a, b) := ⟨_, _, rfl⟩
      have E7 := Lib.hid e7
      have k7 := jterm_any Q6.jq hbt
      rw [e7] at k7
      dsimp only at k7
      clear e7
      have A7 := Lib.hid Q6
      clear Q6
      refine k7.mono ?_
      rintro e W7 ⟨rfl, hj7, hb7⟩
      have P7 := A7.out.call hj7 hb7
      clear k7 A7 hj7 hb7
      obtain ⟨⟨c0, c1, c2, c3, c4, c5, c6, c7, c8, c9⟩, cf⟩ := P7.box.cells
      try dsimp only at c0 c1 c2 c3 c4 c5 c6 c7 c8 c9
      have Q7 := P7.set 4 (.int .i64 mm) (x' := ⟨1, rr, ss, tt, mm, fb, p, [], 0, 0⟩) rfl P7.d P7.pl
      clear P7
      have HJ : Hid (jMsg zs (zs.getD 0 0) 4 = (⟨1, rr, ss, tt, mm, fb, p, [], 0, 0⟩, s7)) := Lib.hid (by rw [HK.out]; simp [jMsg, jTermIf, E1.out, E2.out, E3.out, E4.out, E5.out, E6.out, E7.out])
      obtain ⟨g1, g2, g3, g4⟩ := HC.out
      rw [HJ.out] at g1 g2 g3 g4
      dsimp only at g1 g2 g3 g4
      have G1 := Lib.hid g1
      have G2 := Lib.hid g2
      have G3 := Lib.hid g3
      have G4 := Lib.hid g4
      clear g1 g2 g3 g4
      obtain ⟨ao, nn, cp2, hnn, hrr, _, hlc2, hcp2, ic0, ic1, icf⟩ := Q7.jq.cells
      obtain ⟨⟨d0, d1, d2, d3, d4, d5, d6, d7, d8, d9⟩, df⟩ := Q7.box.cells
      try dsimp only at d0 d1 d2 d3 d4 d5 d6 d7 d8 d9
      have BW := Lib.hid Q7.bel
      have NW := Lib.hid Q7.res
      obtain ⟨⟨n0, n1, n2, n3, n4, n5, n6, n7, n8, n9⟩, nf⟩ := RBox.cells NW.out
      have hrt := rright_any hp ⟨1, rr, ss, tt, mm, fb, p, [], 0, 0⟩ (vp := (.slice ap p.length cp)) (Q7.d.below Q7.bel) (by have := jgive_len zs s5; rw [E6.out] at this; dsimp only at this ⊢; omega)
      dsimp only at hrt
      unfold mcl at hrt
      have AQ := Lib.hid Q7
      clear Q7 hrr
      cases hb : s7.b with
      | true =>
        rw [hb] at ic1
        have HNO := Lib.hid (G1.out hb)
        clear hb
        go_wp2_with fail
        refine rr_end (x := hNew 0) (pv := .slice none 0 0) false _ NW.out (Rd.nil _) BW.out (.inl ⟨rfl, HNO.out, rfl⟩) rfl rfl
      | false =>
        rw [hb] at ic1
        by_cases hlft : s7.t < zs.length
        · have HNO := Lib.hid (G2.out hlft)
          have hd1 : decide ((0 : Int) < (nn : Int)) = true := decide_eq_true (by omega)
          have hd2 : decide (0 < nn) = true := decide_eq_true (by omega)
          clear hb hlft
          go_wp2_with fail
          refine rr_end (x := hNew 0) (pv := .slice none 0 0) false _ NW.out (Rd.nil _) BW.out (.inl ⟨rfl, HNO.out, rfl⟩) rfl rfl
        have hd1 : decide ((0 : Int) < (nn : Int)) = false := decide_eq_false (by omega)
        have hd2 : decide (0 < nn) = false := decide_eq_false (by omega)
        have hteq : s7.t = zs.length := by have := AQ.out.jq.tl; omega
        cases hrb : rightB (ok p) ⟨1, rr, ss, tt, mm, fb, p, [], 0, 0⟩ with
        | false =>
          have HNO := Lib.hid (G3.out hrb)
          rw [hrb] at hrt
          clear hb hlft hrb hteq
          go_wp2_with (go_at_call 11; refine hrt.mono ?_; rintro e wr ⟨rfl, hbr⟩; have BR := Lib.hid (BW.out.trans (hbr.mono BW.out.size)); have HQ := Lib.hid (AQ.out.box.below hbr); have NR := Lib.hid (NW.out.below hbr); clear hbr c0 c1 c2 c3 c4 c5 c6 c7 c8 c9 cf d0 d1 d2 d3 d4 d5 d6 d7 d8 d9 df n0 n1 n2 n3 n4 n5 n6 n7 n8 n9 nf; obtain ⟨⟨c0, c1, c2, c3, c4, c5, c6, c7, c8, c9⟩, cf⟩ := HQ.out.cells; try dsimp only at c0 c1 c2 c3 c4 c5 c6 c7 c8 c9; obtain ⟨⟨n0, n1, n2, n3, n4, n5, n6, n7, n8, n9⟩, nf⟩ := RBox.cells NR.out)
          refine rr_end (x := hNew 0) (pv := .slice none 0 0) false _ NR.out (Rd.nil _) BR.out (.inl ⟨rfl, HNO.out, rfl⟩) rfl rfl
        | true =>
          have HY := Lib.hid (G4.out hb hteq hrb)
          rw [hrb] at hrt
          clear hb hlft hrb hteq
          go_wp2_with (go_at_call 11; refine hrt.mono ?_; rintro e wr ⟨rfl, hbr⟩; have BR := Lib.hid (BW.out.trans (hbr.mono BW.out.size)); have HQ := Lib.hid (AQ.out.box.below hbr); have NR := Lib.hid (NW.out.below hbr); clear hbr c0 c1 c2 c3 c4 c5 c6 c7 c8 c9 cf d0 d1 d2 d3 d4 d5 d6 d7 d8 d9 df n0 n1 n2 n3 n4 n5 n6 n7 n8 n9 nf; obtain ⟨⟨c0, c1, c2, c3, c4, c5, c6, c7, c8, c9⟩, cf⟩ := HQ.out.cells; try dsimp only at c0 c1 c2 c3 c4 c5 c6 c7 c8 c9; obtain ⟨⟨n0, n1, n2, n3, n4, n5, n6, n7, n8, n9⟩, nf⟩ := RBox.cells NR.out)
          refine rr_end (x := ⟨1, rr, ss, tt, mm, fb, p, [], 0, 0⟩) (pv := (.slice ap p.length cp)) true _ NR.out AQ.out.d BR.out (.inr ⟨rfl, HY.out⟩) rfl rfl
    | false =>
      refine k4.mono ?_
      rintro e W4 ⟨rfl, hj4, hb4⟩
      have P4 := A4.out.call hj4 hb4
      clear k4 A4 hj4 hb4
      have Q4 := P4
      clear P4
      go_wp2_with fail
      obtain ⟨p, s5, e5⟩ : ∃ a b, jGive zs s4 = (a, b) := ⟨_, _, rfl⟩
      have E5 := Lib.hid e5
      have k5 := jgive_any Q4.jq hbt (by omega)
      rw [e5] at k5
      dsimp only at k5
      clear e5
      have A5 := Lib.hid Q4
      clear Q4
      refine k5.mono ?_
      rintro e W5 ⟨pv, rfl, ⟨hrp, hpp⟩, hj5, hb5⟩
      obtain ⟨ap, cp, rfl⟩ := hrp.shape
      have P5 := A5.out.call hj5 hb5
      clear k5 A5 hj5 hb5
      obtain ⟨⟨c0, c1, c2, c3, c4, c5, c6, c7, c8, c9⟩, cf⟩ := P5.box.cells
      try dsimp only at c0 c1 c2 c3 c4 c5 c6 c7 c8 c9
      have Q5 := P5.set 6 (.slice ap p.length cp) (x' := ⟨1, rr, ss, 0, 0, fb, p, [], 0, 0⟩) rfl hrp hpp
      clear P5
      have HJ : Hid (jMsg zs (zs.getD 0 0) 4 = (⟨1, rr, ss, 0, 0, fb, p, [], 0, 0⟩, s5)) := Lib.hid (by rw [HK.out]; simp [jMsg, jTermIf, E1.out, E2.out, E3.out, E4.out, E5.out])
      obtain ⟨g1, g2, g3, g4⟩ := HC.out
      rw [HJ.out] at g1 g2 g3 g4
      dsimp only at g1 g2 g3 g4
      have G1 := Lib.hid g1
      have G2 := Lib.hid g2
      have G3 := Lib.hid g3
      have G4 := Lib.hid g4
      clear g1 g2 g3 g4
      obtain ⟨ao, nn, cp2, hnn, hrr, _, hlc2, hcp2, ic0, ic1, icf⟩ := Q5.jq.cells
      obtain ⟨⟨d0, d1, d2, d3, d4, d5, d6, d7, d8, d9⟩, df⟩ := Q5.box.cells
      try dsimp only at d0 d1 d2 d3 d4 d5 d6 d7 d8 d9
      have BW := Lib.hid Q5.bel
      have NW := Lib.hid Q5.res
      obtain ⟨⟨n0, n1, n2, n3, n4, n5, n6, n7, n8, n9⟩, nf⟩ := RBox.cells NW.out
      have hrt := rright_any hp ⟨1, rr, ss, 0, 0, fb, p, [], 0, 0⟩ (vp := (.slice ap p.length cp)) (Q5.d.below Q5.bel) (by have := jgive_len zs s4; rw [E5.out] at this; dsimp only at this ⊢; omega)
      dsimp only at hrt
      unfold mcl at hrt
      have AQ := Lib.hid Q5
      clear Q5 hrr
      cases hb : s5.b with
      | true =>
        rw [hb] at ic1
        have HNO := Lib.hid (G1.out hb)
        clear hb
        go_wp2_with fail
        refine rr_end (x := hNew 0) (pv := .slice none 0 0) false _ NW.out (Rd.nil _) BW.out (.inl ⟨rfl, HNO.out, rfl⟩) rfl rfl
      | false =>
        rw [hb] at ic1
        by_cases hlft : s5.t < zs.length
        · have HNO := Lib.hid (G2.out hlft)
          have hd1 : decide ((0 : Int) < (nn : Int)) = true := decide_eq_true (by omega)
          have hd2 : decide (0 < nn) = true := decide_eq_true (by omega)
          clear hb hlft
          go_wp2_with fail
          refine rr_end (x := hNew 0) (pv := .slice none 0 0) false _ NW.out (Rd.nil _) BW.out (.inl ⟨rfl, HNO.out, rfl⟩) rfl rfl
        have hd1 : decide ((0 : Int) < (nn : Int)) = false := decide_eq_false (by omega)
        have hd2 : decide (0 < nn) = false := decide_eq_false (by omega)
        have hteq : s5.t = zs.length := by have := AQ.out.jq.tl; omega
        cases hrb : rightB (ok p) ⟨1, rr, ss, 0, 0, fb, p, [], 0, 0⟩ with
        | false =>
          have HNO := Lib.hid (G3.out hrb)
          rw [hrb] at hrt
          clear hb hlft hrb hteq
          go_wp2_with (go_at_call 11; refine hrt.mono ?_; rintro e wr ⟨rfl, hbr⟩; have BR := Lib.hid (BW.out.trans (hbr.mono BW.out.size)); have HQ := Lib.hid (AQ.out.box.below hbr); have NR := Lib.hid (NW.out.below hbr); clear hbr c0 c1 c2 c3 c4 c5 c6 c7 c8 c9 cf d0 d1 d2 d3 d4 d5 d6 d7 d8 d9 df n0 n1 n2 n3 n4 n5 n6 n7 n8 n9 nf; obtain ⟨⟨c0, c1, c2, c3, c4, c5, c6, c7, c8, c9⟩, cf⟩ := HQ.out.cells; try dsimp only at c0 c1 c2 c3 c4 c5 c6 c7 c8 c9; obtain ⟨⟨n0, n1, n2, n3, n4, n5, n6, n7, n8, n9⟩, nf⟩ := RBox.cells NR.out)
          refine rr_end (x := hNew 0) (pv := .slice none 0 0) false _ NR.out (Rd.nil _) BR.out (.inl ⟨rfl, HNO.out, rfl⟩) rfl rfl
        | true =>
          have HY := Lib.hid (G4.out hb hteq hrb)
          rw [hrb] at hrt
          clear hb hlft hrb hteq
          go_wp2_with (go_at_call 11; refine hrt.mono ?_; rintro e wr ⟨rfl, hbr⟩; have BR := Lib.hid (BW.out.trans (hbr.mono BW.out.size)); have HQ := Lib.hid (AQ.out.box.below hbr); have NR := Lib.hid (NW.out.below hbr); clear hbr c0 c1 c2 c3 c4 c5 c6 c7 c8 c9 cf d0 d1 d2 d3 d4 d5 d6 d7 d8 d9 df n0 n1 n2 n3 n4 n5 n6 n7 n8 n9 nf; obtain ⟨⟨c0, c1, c2, c3, c4, c5, c6, c7, c8, c9⟩, cf⟩ := HQ.out.cells; try dsimp only at c0 c1 c2 c3 c4 c5 c6 c7 c8 c9; obtain ⟨⟨n0, n1, n2, n3, n4, n5, n6, n7, n8, n9⟩, nf⟩ := RBox.cells NR.out)
          refine rr_end (x := ⟨1, rr, ss, 0, 0, fb, p, [], 0, 0⟩) (pv := (.slice ap p.length cp)) true _ NR.out AQ.out.d BR.out (.inr ⟨rfl, HY.out⟩) rfl rfl
end Go.Proofs.YtefcjggmlhoebaaDoor
