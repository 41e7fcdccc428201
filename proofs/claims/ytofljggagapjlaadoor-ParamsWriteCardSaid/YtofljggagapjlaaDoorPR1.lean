/- The document's Write where the three names are there or not. -/
import Derived.Test.YtofljggagapjlaaDoorPRh
namespace Go.Proofs.YtofljggagapjlaaDoor
open Go Go.RowKit

set_option maxRecDepth 20000 in
set_option maxHeartbeats 4000000 in
theorem refw_tft {w : World} {pi pd pc : Int} {pg po pr pl : List Int} {a5 a6 a7 a9 : Option Addr} {k5 k6 k7 k9 : Nat} (h : Pr w (⟨pi, pd, true, false, true, pg, po, pr, pc, pl⟩ : Pv) (.slice a5 pg.length k5) (.slice a6 po.length k6) (.slice a7 pr.length k7) (.slice a9 pl.length k9)) (hr : rightP (⟨pi, pd, true, false, true, pg, po, pr, pc, pl⟩ : Pv) = true) :
    Calls Tryd.prog 15 #[pAgg (⟨pi, pd, true, false, true, pg, po, pr, pc, pl⟩ : Pv) (.slice a5 pg.length k5) (.slice a6 po.length k6) (.slice a7 pr.length k7) (.slice a9 pl.length k9)] w fun e w' => ∃ v', e = .returned v' ∧ w'.ownsRow w.heap.size 5 1 v' (wrP (⟨pi, pd, true, false, true, pg, po, pr, pc, pl⟩ : Pv)).length (by8 (wrP (⟨pi, pd, true, false, true, pg, po, pr, pc, pl⟩ : Pv))) ∧ Byt (wrP (⟨pi, pd, true, false, true, pg, po, pr, pc, pl⟩ : Pv)) ∧ Below w.heap.size w w' := by
  have hB0 := below_alloc w (.cells (pCells (⟨pi, pd, true, false, true, pg, po, pr, pc, pl⟩ : Pv) (.slice a5 pg.length k5) (.slice a6 po.length k6) (.slice a7 pr.length k7) (.slice a9 pl.length k9)) 25)
  have hX0 := heap_alloc_new w (.cells (pCells (⟨pi, pd, true, false, true, pg, po, pr, pc, pl⟩ : Pv) (.slice a5 pg.length k5) (.slice a6 po.length k6) (.slice a7 pr.length k7) (.slice a9 pl.length k9)) 25)
  obtain ⟨f1, f2, f3, f4, f5, f6, f7⟩ := right_facts hr
  have l5 := name_len f3
  have l6 := name_len f4
  have l7 := name_len f5
  have l9 := (vers_facts f7).1
  have HBD := Lib.hid (vers_facts f7).2
  have hcb := ver_bd f6
  dsimp only at l5 l6 l7 l9 hcb
  have l9' : (pl.length : Int) ≤ 16 := by omega
  have li := enc_len pi
  have ld := enc_len pd
  have HWR : Hid (wrP (⟨pi, pd, true, false, true, pg, po, pr, pc, pl⟩ : Pv) = fieldB 0 pg ++ (fieldB 1 (enc pi) ++ (fieldB 4 (enc pd) ++ (fieldB 16 pr ++ (fieldB 17 (versP pc pl)))))) := Lib.hid (by unfold wrP bytesP; rw [hr]; simp)
  have HP := Lib.hid h
  have HX := Lib.hid hX0
  have HB0 := Lib.hid hB0
  have hs0 := Rs.start (w.alloc (.cells (pCells (⟨pi, pd, true, false, true, pg, po, pr, pc, pl⟩ : Pv) (.slice a5 pg.length k5) (.slice a6 po.length k6) (.slice a7 pr.length k7) (.slice a9 pl.length k9)) 25)) (w.heap.size + 1)
  have hsz0 : w.heap.size + 1 ≤ (w.alloc (.cells (pCells (⟨pi, pd, true, false, true, pg, po, pr, pc, pl⟩ : Pv) (.slice a5 pg.length k5) (.slice a6 po.length k6) (.slice a7 pr.length k7) (.slice a9 pl.length k9)) 25)).heap.size := by simp
  obtain ⟨X, hX⟩ : ∃ X, X = (w.alloc (.cells (pCells (⟨pi, pd, true, false, true, pg, po, pr, pc, pl⟩ : Pv) (.slice a5 pg.length k5) (.slice a6 po.length k6) (.slice a7 pr.length k7) (.slice a9 pl.length k9)) 25)) := ⟨_, rfl⟩
  rw [← hX] at HX HB0 hs0 hsz0
  obtain ⟨e0_0, e0_1, e0_2, e0_3, e0_4, e0_5, e0_6, e0_7, e0_8, e0_9⟩ := pcells HX.out
  dsimp only at e0_0 e0_1 e0_2 e0_3 e0_4 e0_8
  have s0 := hs0
  have hnil := Rd.nil X
  clear h hX0 f1 f2 f3 f4 f5 f6 f7 hs0 hB0
  go_enter Tryd.func15, Tryd.ntmps15
  go_wp2_with fail
  rw [← hX]
  clear hX
  obtain ⟨x0, hx0⟩ : ∃ x0, x0 = X := ⟨_, rfl⟩
  rw [← hx0] at s0 HX HB0 hsz0 hnil e0_0 e0_1 e0_2 e0_3 e0_4 e0_5 e0_6 e0_7 e0_8 e0_9 ⊢
  clear hx0
  go_wp2_with (first
    | (go_at_call 32; have hbig := refbig_any (w := x10) pc (by omega) hcb.2 4 (by decide); rw [show (((4 : Nat) : Int)) = 4 from rfl] at hbig; refine hbig.mono ?_; rintro e x11 ⟨y11, rfl, o11, b11⟩; obtain ⟨m11, c11, rfl⟩ := own_shape o11; have s11 := s10.below b11 hsz0; have d11 := pcells ((s11.bel.block w.heap.size (Nat.lt_succ_self _)).trans HX.out); have e11_0 := d11.1; have e11_1 := d11.2.1; have e11_2 := d11.2.2.1; have e11_3 := d11.2.2.2.1; have e11_4 := d11.2.2.2.2.1; have e11_5 := d11.2.2.2.2.2.1; have e11_6 := d11.2.2.2.2.2.2.1; have e11_7 := d11.2.2.2.2.2.2.2.1; have e11_8 := d11.2.2.2.2.2.2.2.2.1; have e11_9 := d11.2.2.2.2.2.2.2.2.2)
    | (at_builtin; refine wpList_append_bytes (.tmp 34) (.tmp 37) 22 rfl rfl info5 Tryd.underlying22 (w.heap.size + 1) _ _ _ rfl s9.own _ (fieldB 16 pr) rfl r9 (by have := field_len 16 pr; omega) (Nat.le_trans hsz0 s9.bel.size) ?_; intro y10 x10 o10 b10; obtain ⟨Z4, m10, c10, HZ4, rfl, s10⟩ := s9.app' r9.byt o10 b10; have zz4 : Z4.length ≤ 160 := (by rw [HZ4.out, List.length_append]; have := field_len 16 pr; omega); have d10 := pcells ((s10.bel.block w.heap.size (Nat.lt_succ_self _)).trans HX.out); have e10_0 := d10.1; have e10_1 := d10.2.1; have e10_2 := d10.2.2.1; have e10_3 := d10.2.2.2.1; have e10_4 := d10.2.2.2.2.1; have e10_5 := d10.2.2.2.2.2.1; have e10_6 := d10.2.2.2.2.2.2.1; have e10_7 := d10.2.2.2.2.2.2.2.1; have e10_8 := d10.2.2.2.2.2.2.2.2.1; have e10_9 := d10.2.2.2.2.2.2.2.2.2)
    | (go_at_call 30; refine (rfield_any (zp := pr) (HP.out.r.below (HB0.out.trans (s8.bel.mono (Nat.le_succ _)))) (by omega) 16).mono ?_; rintro e x9 ⟨y9, rfl, o9, b9⟩; have r9 := (Rd.of_own o9 (field_byt ((HP.out.r.below (HB0.out.trans (s8.bel.mono (Nat.le_succ _))))).byt)).1; obtain ⟨m9, c9, rfl⟩ := own_shape o9; have s9 := s8.below b9 hsz0; have d9 := pcells ((s9.bel.block w.heap.size (Nat.lt_succ_self _)).trans HX.out); have e9_0 := d9.1; have e9_1 := d9.2.1; have e9_2 := d9.2.2.1; have e9_3 := d9.2.2.2.1; have e9_4 := d9.2.2.2.2.1; have e9_5 := d9.2.2.2.2.2.1; have e9_6 := d9.2.2.2.2.2.2.1; have e9_7 := d9.2.2.2.2.2.2.2.1; have e9_8 := d9.2.2.2.2.2.2.2.2.1; have e9_9 := d9.2.2.2.2.2.2.2.2.2)
    | (at_builtin; refine wpList_append_bytes (.tmp 19) (.tmp 23) 22 rfl rfl info5 Tryd.underlying22 (w.heap.size + 1) _ _ _ rfl s7.own _ (fieldB 4 (enc pd)) rfl r7 (by have := field_len 4 (enc pd); omega) (Nat.le_trans hsz0 s7.bel.size) ?_; intro y8 x8 o8 b8; obtain ⟨Z3, m8, c8, HZ3, rfl, s8⟩ := s7.app' r7.byt o8 b8; have zz3 : Z3.length ≤ 120 := (by rw [HZ3.out, List.length_append]; have := field_len 4 (enc pd); omega); have d8 := pcells ((s8.bel.block w.heap.size (Nat.lt_succ_self _)).trans HX.out); have e8_0 := d8.1; have e8_1 := d8.2.1; have e8_2 := d8.2.2.1; have e8_3 := d8.2.2.2.1; have e8_4 := d8.2.2.2.2.1; have e8_5 := d8.2.2.2.2.2.1; have e8_6 := d8.2.2.2.2.2.2.1; have e8_7 := d8.2.2.2.2.2.2.2.1; have e8_8 := d8.2.2.2.2.2.2.2.2.1; have e8_9 := d8.2.2.2.2.2.2.2.2.2)
    | (go_at_call 30; refine (rfield_any (zp := (enc pd)) r6 (by omega) 4).mono ?_; rintro e x7 ⟨y7, rfl, o7, b7⟩; have r7 := (Rd.of_own o7 (field_byt (r6).byt)).1; obtain ⟨m7, c7, rfl⟩ := own_shape o7; have s7 := s6.below b7 hsz0; have d7 := pcells ((s7.bel.block w.heap.size (Nat.lt_succ_self _)).trans HX.out); have e7_0 := d7.1; have e7_1 := d7.2.1; have e7_2 := d7.2.2.1; have e7_3 := d7.2.2.2.1; have e7_4 := d7.2.2.2.2.1; have e7_5 := d7.2.2.2.2.2.1; have e7_6 := d7.2.2.2.2.2.2.1; have e7_7 := d7.2.2.2.2.2.2.2.1; have e7_8 := d7.2.2.2.2.2.2.2.2.1; have e7_9 := d7.2.2.2.2.2.2.2.2.2)
    | (go_at_call 31; refine (bytes_any (w := x5) pd).mono ?_; rintro e x6 ⟨y6, rfl, o6, b6⟩; have r6 := (Rd.of_own o6 (enc_byt _)).1; obtain ⟨m6, c6, rfl⟩ := own_shape o6; have s6 := s5.below b6 hsz0; have d6 := pcells ((s6.bel.block w.heap.size (Nat.lt_succ_self _)).trans HX.out); have e6_0 := d6.1; have e6_1 := d6.2.1; have e6_2 := d6.2.2.1; have e6_3 := d6.2.2.2.1; have e6_4 := d6.2.2.2.2.1; have e6_5 := d6.2.2.2.2.2.1; have e6_6 := d6.2.2.2.2.2.2.1; have e6_7 := d6.2.2.2.2.2.2.2.1; have e6_8 := d6.2.2.2.2.2.2.2.2.1; have e6_9 := d6.2.2.2.2.2.2.2.2.2)
    | (at_builtin; refine wpList_append_bytes (.tmp 13) (.tmp 17) 22 rfl rfl info5 Tryd.underlying22 (w.heap.size + 1) _ _ _ rfl s4.own _ (fieldB 1 (enc pi)) rfl r4 (by have := field_len 1 (enc pi); omega) (Nat.le_trans hsz0 s4.bel.size) ?_; intro y5 x5 o5 b5; obtain ⟨Z2, m5, c5, HZ2, rfl, s5⟩ := s4.app' r4.byt o5 b5; have zz2 : Z2.length ≤ 80 := (by rw [HZ2.out, List.length_append]; have := field_len 1 (enc pi); omega); have d5 := pcells ((s5.bel.block w.heap.size (Nat.lt_succ_self _)).trans HX.out); have e5_0 := d5.1; have e5_1 := d5.2.1; have e5_2 := d5.2.2.1; have e5_3 := d5.2.2.2.1; have e5_4 := d5.2.2.2.2.1; have e5_5 := d5.2.2.2.2.2.1; have e5_6 := d5.2.2.2.2.2.2.1; have e5_7 := d5.2.2.2.2.2.2.2.1; have e5_8 := d5.2.2.2.2.2.2.2.2.1; have e5_9 := d5.2.2.2.2.2.2.2.2.2)
    | (go_at_call 30; refine (rfield_any (zp := (enc pi)) r3 (by omega) 1).mono ?_; rintro e x4 ⟨y4, rfl, o4, b4⟩; have r4 := (Rd.of_own o4 (field_byt (r3).byt)).1; obtain ⟨m4, c4, rfl⟩ := own_shape o4; have s4 := s3.below b4 hsz0; have d4 := pcells ((s4.bel.block w.heap.size (Nat.lt_succ_self _)).trans HX.out); have e4_0 := d4.1; have e4_1 := d4.2.1; have e4_2 := d4.2.2.1; have e4_3 := d4.2.2.2.1; have e4_4 := d4.2.2.2.2.1; have e4_5 := d4.2.2.2.2.2.1; have e4_6 := d4.2.2.2.2.2.2.1; have e4_7 := d4.2.2.2.2.2.2.2.1; have e4_8 := d4.2.2.2.2.2.2.2.2.1; have e4_9 := d4.2.2.2.2.2.2.2.2.2)
    | (go_at_call 31; refine (bytes_any (w := x2) pi).mono ?_; rintro e x3 ⟨y3, rfl, o3, b3⟩; have r3 := (Rd.of_own o3 (enc_byt _)).1; obtain ⟨m3, c3, rfl⟩ := own_shape o3; have s3 := s2.below b3 hsz0; have d3 := pcells ((s3.bel.block w.heap.size (Nat.lt_succ_self _)).trans HX.out); have e3_0 := d3.1; have e3_1 := d3.2.1; have e3_2 := d3.2.2.1; have e3_3 := d3.2.2.2.1; have e3_4 := d3.2.2.2.2.1; have e3_5 := d3.2.2.2.2.2.1; have e3_6 := d3.2.2.2.2.2.2.1; have e3_7 := d3.2.2.2.2.2.2.2.1; have e3_8 := d3.2.2.2.2.2.2.2.2.1; have e3_9 := d3.2.2.2.2.2.2.2.2.2)
    | (at_builtin; refine wpList_append_bytes (.tmp 8) (.tmp 11) 22 rfl rfl info5 Tryd.underlying22 (w.heap.size + 1) _ _ _ rfl s1.own _ (fieldB 0 pg) rfl r1 (by have := field_len 0 pg; simp only [List.length_nil]; omega) (Nat.le_trans hsz0 s1.bel.size) ?_; intro y2 x2 o2 b2; obtain ⟨Z1, m2, c2, HZ1, rfl, s2⟩ := s1.app' r1.byt o2 b2; have zz1 : Z1.length ≤ 40 := (by rw [HZ1.out, List.length_append]; have := field_len 0 pg; simp only [List.length_nil]; omega); have d2 := pcells ((s2.bel.block w.heap.size (Nat.lt_succ_self _)).trans HX.out); have e2_0 := d2.1; have e2_1 := d2.2.1; have e2_2 := d2.2.2.1; have e2_3 := d2.2.2.2.1; have e2_4 := d2.2.2.2.2.1; have e2_5 := d2.2.2.2.2.2.1; have e2_6 := d2.2.2.2.2.2.2.1; have e2_7 := d2.2.2.2.2.2.2.2.1; have e2_8 := d2.2.2.2.2.2.2.2.2.1; have e2_9 := d2.2.2.2.2.2.2.2.2.2)
    | (go_at_call 30; refine (rfield_any (zp := pg) (HP.out.g.below (HB0.out.trans (s0.bel.mono (Nat.le_succ _)))) (by omega) 0).mono ?_; rintro e x1 ⟨y1, rfl, o1, b1⟩; have r1 := (Rd.of_own o1 (field_byt ((HP.out.g.below (HB0.out.trans (s0.bel.mono (Nat.le_succ _))))).byt)).1; obtain ⟨m1, c1, rfl⟩ := own_shape o1; have s1 := s0.below b1 hsz0; have d1 := pcells ((s1.bel.block w.heap.size (Nat.lt_succ_self _)).trans HX.out); have e1_0 := d1.1; have e1_1 := d1.2.1; have e1_2 := d1.2.2.1; have e1_3 := d1.2.2.2.1; have e1_4 := d1.2.2.2.2.1; have e1_5 := d1.2.2.2.2.2.1; have e1_6 := d1.2.2.2.2.2.2.1; have e1_7 := d1.2.2.2.2.2.2.2.1; have e1_8 := d1.2.2.2.2.2.2.2.2.1; have e1_9 := d1.2.2.2.2.2.2.2.2.2))
  have HO0 : Hid (x11.ownsRow x10.heap.size 5 1 (.slice m11 4 c11) (versP pc (pl.take 0)).length (by8 (versP pc (pl.take 0)))) := Lib.hid (by simpa [versP, big_len] using o11)
  have HB0' := Lib.hid b11
  have HS := Lib.hid s10
  have HZZ := Lib.hid zz4
  clear o11
  go_loopw [4, 5] (fun u i wr => ∃ k : Nat, k ≤ pl.length ∧ i = .int .i64 k ∧ wr.ownsRow x10.heap.size 5 1 u (versP pc (pl.take k)).length (by8 (versP pc (pl.take k))) ∧ Below x10.heap.size x10 wr) (fun _ i _ => pl.length - (intOf i).toNat)
  case atStart => exact ⟨0, by omega, rfl, HO0.out, HB0'.out⟩
  case round =>
    obtain ⟨k, hk, rfl, ho, hb⟩ := hrel
    have hk' : (k : Int) ≤ (pl.length : Int) := by omega
    obtain ⟨au, ku, hu⟩ := own_shape ho
    subst hu
    have hs1 := HS.out.below hb hsz0
    have hbx1 := (hs1.bel.block w.heap.size (Nat.lt_succ_self _)).trans HX.out
    have hdd := pcells hbx1
    have hd8 := hdd.2.2.2.2.2.2.2.2.2
    have hlw := HB0.out.trans (hs1.bel.mono (Nat.le_succ _))
    have HS1 := Lib.hid hs1
    have HBB := Lib.hid hb
    have HOO := Lib.hid ho
    have hlen : (versP pc (pl.take k)).length ≤ 100 := by rw [vers_len]; simp; omega
    by_cases hlt : k < pl.length
    · have hlt' : (k : Int) < (pl.length : Int) := by omega
      obtain ⟨bb, off, ha9, hx⟩ := HP.out.l.cellAt hlt
      rw [← hlw.cell (p := ⟨bb, off + k, none⟩) (cell_lt hx)] at hx
      subst ha9
      have hxb := HBD.out k hlt
      have HT := Lib.hid (vers_take (c := pc) hlt)
      generalize pl.getD k 0 = x at hx hxb HT
      have hbig := refbig_any (w := wr) x (by omega) hxb.2 4 (by decide)
      rw [show (((4 : Nat) : Int)) = 4 from rfl] at hbig
      clear hs1 hbx1 hdd hb ho hlw
      generalize hV : versP pc (pl.take k) = V at *
      go_wp2_with (first
        | (go_at_call 32; refine hbig.mono ?_; rintro e w2 ⟨v2, rfl, ho2, hb2⟩; obtain ⟨a2, k2, rfl⟩ := own_shape ho2; have r2 := (Rd.of_own ho2 (big_byt x 4)).1)
        | (at_builtin; refine wpList_append_bytes (.tmp 49) (.tmp 55) 22 rfl rfl info5 Tryd.underlying22 x10.heap.size _ _ _ rfl (own_below HOO.out hb2) _ (big x 4) rfl r2 (by rw [big_len]; omega) (Nat.le_trans HBB.out.size hb2.size) ?_; intro v3 w3 ho3 hb3))
      go_roundw
      case rel => exact ⟨k + 1, by omega, by go_num, by rw [HT.out, List.length_append]; exact ho3, (HBB.out.trans (hb2.mono HBB.out.size)).trans hb3⟩
      case measure => simp [intOf]; omega
    · obtain rfl : k = pl.length := by omega
      have r9 := (Rd.of_own HOO.out (vers_byt pc _)).1
      have hlv : (versP pc (pl.take pl.length)).length ≤ 100 := hlen
      have HTK := Lib.hid (List.take_length (l := pl))
      have hfl := field_len 17 (versP pc (pl.take pl.length))
      clear hdd hb ho hlw
      generalize hV : versP pc (pl.take pl.length) = V at *
      have HV := Lib.hid hV
      clear hV
      go_wp2_with (first
        | (go_at_call 30; refine (rfield_any (zp := V) r9 (by omega) 17).mono ?_; rintro e w2 ⟨v2, rfl, ho2, hb2⟩; obtain ⟨a2, k2, rfl⟩ := own_shape ho2; have r2 := (Rd.of_own ho2 (field_byt r9.byt)).1; have s2 := HS1.out.below hb2 hsz0)
        | (at_builtin; refine wpList_append_bytes (.tmp 57) (.tmp 59) 22 rfl rfl info5 Tryd.underlying22 (w.heap.size + 1) _ _ _ rfl s2.own _ (fieldB 17 V) rfl r2 (by have := HZZ.out; omega) (Nat.le_trans hsz0 s2.bel.size) ?_; intro v3 w3 ho3 hb3; have s3 := s2.app r2.byt ho3 hb3))
      go_ret
      have e : wrP (⟨pi, pd, true, false, true, pg, po, pr, pc, pl⟩ : Pv) = Z4 ++ fieldB 17 V := by
        rw [HWR.out, ← HV.out, HTK.out, HZ4.out, HZ3.out, HZ2.out, HZ1.out]; simp
      rw [e]
      exact ⟨_, rfl, own_mono s3.own (Nat.le_succ _), s3.byt, HB0.out.trans (s3.bel.mono (Nat.le_succ _))⟩

set_option maxRecDepth 20000 in
set_option maxHeartbeats 4000000 in
theorem refw_tff {w : World} {pi pd pc : Int} {pg po pr pl : List Int} {a5 a6 a7 a9 : Option Addr} {k5 k6 k7 k9 : Nat} (h : Pr w (⟨pi, pd, true, false, false, pg, po, pr, pc, pl⟩ : Pv) (.slice a5 pg.length k5) (.slice a6 po.length k6) (.slice a7 pr.length k7) (.slice a9 pl.length k9)) (hr : rightP (⟨pi, pd, true, false, false, pg, po, pr, pc, pl⟩ : Pv) = true) :
    Calls Tryd.prog 15 #[pAgg (⟨pi, pd, true, false, false, pg, po, pr, pc, pl⟩ : Pv) (.slice a5 pg.length k5) (.slice a6 po.length k6) (.slice a7 pr.length k7) (.slice a9 pl.length k9)] w fun e w' => ∃ v', e = .returned v' ∧ w'.ownsRow w.heap.size 5 1 v' (wrP (⟨pi, pd, true, false, false, pg, po, pr, pc, pl⟩ : Pv)).length (by8 (wrP (⟨pi, pd, true, false, false, pg, po, pr, pc, pl⟩ : Pv))) ∧ Byt (wrP (⟨pi, pd, true, false, false, pg, po, pr, pc, pl⟩ : Pv)) ∧ Below w.heap.size w w' := by
  have hB0 := below_alloc w (.cells (pCells (⟨pi, pd, true, false, false, pg, po, pr, pc, pl⟩ : Pv) (.slice a5 pg.length k5) (.slice a6 po.length k6) (.slice a7 pr.length k7) (.slice a9 pl.length k9)) 25)
  have hX0 := heap_alloc_new w (.cells (pCells (⟨pi, pd, true, false, false, pg, po, pr, pc, pl⟩ : Pv) (.slice a5 pg.length k5) (.slice a6 po.length k6) (.slice a7 pr.length k7) (.slice a9 pl.length k9)) 25)
  obtain ⟨f1, f2, f3, f4, f5, f6, f7⟩ := right_facts hr
  have l5 := name_len f3
  have l6 := name_len f4
  have l7 := name_len f5
  have l9 := (vers_facts f7).1
  have HBD := Lib.hid (vers_facts f7).2
  have hcb := ver_bd f6
  dsimp only at l5 l6 l7 l9 hcb
  have l9' : (pl.length : Int) ≤ 16 := by omega
  have li := enc_len pi
  have ld := enc_len pd
  have HWR : Hid (wrP (⟨pi, pd, true, false, false, pg, po, pr, pc, pl⟩ : Pv) = fieldB 0 pg ++ (fieldB 1 (enc pi) ++ (fieldB 4 (enc pd) ++ (fieldB 17 (versP pc pl))))) := Lib.hid (by unfold wrP bytesP; rw [hr]; simp)
  have HP := Lib.hid h
  have HX := Lib.hid hX0
  have HB0 := Lib.hid hB0
  have hs0 := Rs.start (w.alloc (.cells (pCells (⟨pi, pd, true, false, false, pg, po, pr, pc, pl⟩ : Pv) (.slice a5 pg.length k5) (.slice a6 po.length k6) (.slice a7 pr.length k7) (.slice a9 pl.length k9)) 25)) (w.heap.size + 1)
  have hsz0 : w.heap.size + 1 ≤ (w.alloc (.cells (pCells (⟨pi, pd, true, false, false, pg, po, pr, pc, pl⟩ : Pv) (.slice a5 pg.length k5) (.slice a6 po.length k6) (.slice a7 pr.length k7) (.slice a9 pl.length k9)) 25)).heap.size := by simp
  obtain ⟨X, hX⟩ : ∃ X, X = (w.alloc (.cells (pCells (⟨pi, pd, true, false, false, pg, po, pr, pc, pl⟩ : Pv) (.slice a5 pg.length k5) (.slice a6 po.length k6) (.slice a7 pr.length k7) (.slice a9 pl.length k9)) 25)) := ⟨_, rfl⟩
  rw [← hX] at HX HB0 hs0 hsz0
  obtain ⟨e0_0, e0_1, e0_2, e0_3, e0_4, e0_5, e0_6, e0_7, e0_8, e0_9⟩ := pcells HX.out
  dsimp only at e0_0 e0_1 e0_2 e0_3 e0_4 e0_8
  have s0 := hs0
  have hnil := Rd.nil X
  clear h hX0 f1 f2 f3 f4 f5 f6 f7 hs0 hB0
  go_enter Tryd.func15, Tryd.ntmps15
  go_wp2_with fail
  rw [← hX]
  clear hX
  obtain ⟨x0, hx0⟩ : ∃ x0, x0 = X := ⟨_, rfl⟩
  rw [← hx0] at s0 HX HB0 hsz0 hnil e0_0 e0_1 e0_2 e0_3 e0_4 e0_5 e0_6 e0_7 e0_8 e0_9 ⊢
  clear hx0
  go_wp2_with (first
    | (go_at_call 32; have hbig := refbig_any (w := x8) pc (by omega) hcb.2 4 (by decide); rw [show (((4 : Nat) : Int)) = 4 from rfl] at hbig; refine hbig.mono ?_; rintro e x9 ⟨y9, rfl, o9, b9⟩; obtain ⟨m9, c9, rfl⟩ := own_shape o9; have s9 := s8.below b9 hsz0; have d9 := pcells ((s9.bel.block w.heap.size (Nat.lt_succ_self _)).trans HX.out); have e9_0 := d9.1; have e9_1 := d9.2.1; have e9_2 := d9.2.2.1; have e9_3 := d9.2.2.2.1; have e9_4 := d9.2.2.2.2.1; have e9_5 := d9.2.2.2.2.2.1; have e9_6 := d9.2.2.2.2.2.2.1; have e9_7 := d9.2.2.2.2.2.2.2.1; have e9_8 := d9.2.2.2.2.2.2.2.2.1; have e9_9 := d9.2.2.2.2.2.2.2.2.2)
    | (at_builtin; refine wpList_append_bytes (.tmp 19) (.tmp 23) 22 rfl rfl info5 Tryd.underlying22 (w.heap.size + 1) _ _ _ rfl s7.own _ (fieldB 4 (enc pd)) rfl r7 (by have := field_len 4 (enc pd); omega) (Nat.le_trans hsz0 s7.bel.size) ?_; intro y8 x8 o8 b8; obtain ⟨Z3, m8, c8, HZ3, rfl, s8⟩ := s7.app' r7.byt o8 b8; have zz3 : Z3.length ≤ 120 := (by rw [HZ3.out, List.length_append]; have := field_len 4 (enc pd); omega); have d8 := pcells ((s8.bel.block w.heap.size (Nat.lt_succ_self _)).trans HX.out); have e8_0 := d8.1; have e8_1 := d8.2.1; have e8_2 := d8.2.2.1; have e8_3 := d8.2.2.2.1; have e8_4 := d8.2.2.2.2.1; have e8_5 := d8.2.2.2.2.2.1; have e8_6 := d8.2.2.2.2.2.2.1; have e8_7 := d8.2.2.2.2.2.2.2.1; have e8_8 := d8.2.2.2.2.2.2.2.2.1; have e8_9 := d8.2.2.2.2.2.2.2.2.2)
    | (go_at_call 30; refine (rfield_any (zp := (enc pd)) r6 (by omega) 4).mono ?_; rintro e x7 ⟨y7, rfl, o7, b7⟩; have r7 := (Rd.of_own o7 (field_byt (r6).byt)).1; obtain ⟨m7, c7, rfl⟩ := own_shape o7; have s7 := s6.below b7 hsz0; have d7 := pcells ((s7.bel.block w.heap.size (Nat.lt_succ_self _)).trans HX.out); have e7_0 := d7.1; have e7_1 := d7.2.1; have e7_2 := d7.2.2.1; have e7_3 := d7.2.2.2.1; have e7_4 := d7.2.2.2.2.1; have e7_5 := d7.2.2.2.2.2.1; have e7_6 := d7.2.2.2.2.2.2.1; have e7_7 := d7.2.2.2.2.2.2.2.1; have e7_8 := d7.2.2.2.2.2.2.2.2.1; have e7_9 := d7.2.2.2.2.2.2.2.2.2)
    | (go_at_call 31; refine (bytes_any (w := x5) pd).mono ?_; rintro e x6 ⟨y6, rfl, o6, b6⟩; have r6 := (Rd.of_own o6 (enc_byt _)).1; obtain ⟨m6, c6, rfl⟩ := own_shape o6; have s6 := s5.below b6 hsz0; have d6 := pcells ((s6.bel.block w.heap.size (Nat.lt_succ_self _)).trans HX.out); have e6_0 := d6.1; have e6_1 := d6.2.1; have e6_2 := d6.2.2.1; have e6_3 := d6.2.2.2.1; have e6_4 := d6.2.2.2.2.1; have e6_5 := d6.2.2.2.2.2.1; have e6_6 := d6.2.2.2.2.2.2.1; have e6_7 := d6.2.2.2.2.2.2.2.1; have e6_8 := d6.2.2.2.2.2.2.2.2.1; have e6_9 := d6.2.2.2.2.2.2.2.2.2)
    | (at_builtin; refine wpList_append_bytes (.tmp 13) (.tmp 17) 22 rfl rfl info5 Tryd.underlying22 (w.heap.size + 1) _ _ _ rfl s4.own _ (fieldB 1 (enc pi)) rfl r4 (by have := field_len 1 (enc pi); omega) (Nat.le_trans hsz0 s4.bel.size) ?_; intro y5 x5 o5 b5; obtain ⟨Z2, m5, c5, HZ2, rfl, s5⟩ := s4.app' r4.byt o5 b5; have zz2 : Z2.length ≤ 80 := (by rw [HZ2.out, List.length_append]; have := field_len 1 (enc pi); omega); have d5 := pcells ((s5.bel.block w.heap.size (Nat.lt_succ_self _)).trans HX.out); have e5_0 := d5.1; have e5_1 := d5.2.1; have e5_2 := d5.2.2.1; have e5_3 := d5.2.2.2.1; have e5_4 := d5.2.2.2.2.1; have e5_5 := d5.2.2.2.2.2.1; have e5_6 := d5.2.2.2.2.2.2.1; have e5_7 := d5.2.2.2.2.2.2.2.1; have e5_8 := d5.2.2.2.2.2.2.2.2.1; have e5_9 := d5.2.2.2.2.2.2.2.2.2)
    | (go_at_call 30; refine (rfield_any (zp := (enc pi)) r3 (by omega) 1).mono ?_; rintro e x4 ⟨y4, rfl, o4, b4⟩; have r4 := (Rd.of_own o4 (field_byt (r3).byt)).1; obtain ⟨m4, c4, rfl⟩ := own_shape o4; have s4 := s3.below b4 hsz0; have d4 := pcells ((s4.bel.block w.heap.size (Nat.lt_succ_self _)).trans HX.out); have e4_0 := d4.1; have e4_1 := d4.2.1; have e4_2 := d4.2.2.1; have e4_3 := d4.2.2.2.1; have e4_4 := d4.2.2.2.2.1; have e4_5 := d4.2.2.2.2.2.1; have e4_6 := d4.2.2.2.2.2.2.1; have e4_7 := d4.2.2.2.2.2.2.2.1; have e4_8 := d4.2.2.2.2.2.2.2.2.1; have e4_9 := d4.2.2.2.2.2.2.2.2.2)
    | (go_at_call 31; refine (bytes_any (w := x2) pi).mono ?_; rintro e x3 ⟨y3, rfl, o3, b3⟩; have r3 := (Rd.of_own o3 (enc_byt _)).1; obtain ⟨m3, c3, rfl⟩ := own_shape o3; have s3 := s2.below b3 hsz0; have d3 := pcells ((s3.bel.block w.heap.size (Nat.lt_succ_self _)).trans HX.out); have e3_0 := d3.1; have e3_1 := d3.2.1; have e3_2 := d3.2.2.1; have e3_3 := d3.2.2.2.1; have e3_4 := d3.2.2.2.2.1; have e3_5 := d3.2.2.2.2.2.1; have e3_6 := d3.2.2.2.2.2.2.1; have e3_7 := d3.2.2.2.2.2.2.2.1; have e3_8 := d3.2.2.2.2.2.2.2.2.1; have e3_9 := d3.2.2.2.2.2.2.2.2.2)
    | (at_builtin; refine wpList_append_bytes (.tmp 8) (.tmp 11) 22 rfl rfl info5 Tryd.underlying22 (w.heap.size + 1) _ _ _ rfl s1.own _ (fieldB 0 pg) rfl r1 (by have := field_len 0 pg; simp only [List.length_nil]; omega) (Nat.le_trans hsz0 s1.bel.size) ?_; intro y2 x2 o2 b2; obtain ⟨Z1, m2, c2, HZ1, rfl, s2⟩ := s1.app' r1.byt o2 b2; have zz1 : Z1.length ≤ 40 := (by rw [HZ1.out, List.length_append]; have := field_len 0 pg; simp only [List.length_nil]; omega); have d2 := pcells ((s2.bel.block w.heap.size (Nat.lt_succ_self _)).trans HX.out); have e2_0 := d2.1; have e2_1 := d2.2.1; have e2_2 := d2.2.2.1; have e2_3 := d2.2.2.2.1; have e2_4 := d2.2.2.2.2.1; have e2_5 := d2.2.2.2.2.2.1; have e2_6 := d2.2.2.2.2.2.2.1; have e2_7 := d2.2.2.2.2.2.2.2.1; have e2_8 := d2.2.2.2.2.2.2.2.2.1; have e2_9 := d2.2.2.2.2.2.2.2.2.2)
    | (go_at_call 30; refine (rfield_any (zp := pg) (HP.out.g.below (HB0.out.trans (s0.bel.mono (Nat.le_succ _)))) (by omega) 0).mono ?_; rintro e x1 ⟨y1, rfl, o1, b1⟩; have r1 := (Rd.of_own o1 (field_byt ((HP.out.g.below (HB0.out.trans (s0.bel.mono (Nat.le_succ _))))).byt)).1; obtain ⟨m1, c1, rfl⟩ := own_shape o1; have s1 := s0.below b1 hsz0; have d1 := pcells ((s1.bel.block w.heap.size (Nat.lt_succ_self _)).trans HX.out); have e1_0 := d1.1; have e1_1 := d1.2.1; have e1_2 := d1.2.2.1; have e1_3 := d1.2.2.2.1; have e1_4 := d1.2.2.2.2.1; have e1_5 := d1.2.2.2.2.2.1; have e1_6 := d1.2.2.2.2.2.2.1; have e1_7 := d1.2.2.2.2.2.2.2.1; have e1_8 := d1.2.2.2.2.2.2.2.2.1; have e1_9 := d1.2.2.2.2.2.2.2.2.2))
  have HO0 : Hid (x9.ownsRow x8.heap.size 5 1 (.slice m9 4 c9) (versP pc (pl.take 0)).length (by8 (versP pc (pl.take 0)))) := Lib.hid (by simpa [versP, big_len] using o9)
  have HB0' := Lib.hid b9
  have HS := Lib.hid s8
  have HZZ := Lib.hid zz3
  clear o9
  go_loopw [4, 5] (fun u i wr => ∃ k : Nat, k ≤ pl.length ∧ i = .int .i64 k ∧ wr.ownsRow x8.heap.size 5 1 u (versP pc (pl.take k)).length (by8 (versP pc (pl.take k))) ∧ Below x8.heap.size x8 wr) (fun _ i _ => pl.length - (intOf i).toNat)
  case atStart => exact ⟨0, by omega, rfl, HO0.out, HB0'.out⟩
  case round =>
    obtain ⟨k, hk, rfl, ho, hb⟩ := hrel
    have hk' : (k : Int) ≤ (pl.length : Int) := by omega
    obtain ⟨au, ku, hu⟩ := own_shape ho
    subst hu
    have hs1 := HS.out.below hb hsz0
    have hbx1 := (hs1.bel.block w.heap.size (Nat.lt_succ_self _)).trans HX.out
    have hdd := pcells hbx1
    have hd8 := hdd.2.2.2.2.2.2.2.2.2
    have hlw := HB0.out.trans (hs1.bel.mono (Nat.le_succ _))
    have HS1 := Lib.hid hs1
    have HBB := Lib.hid hb
    have HOO := Lib.hid ho
    have hlen : (versP pc (pl.take k)).length ≤ 100 := by rw [vers_len]; simp; omega
    by_cases hlt : k < pl.length
    · have hlt' : (k : Int) < (pl.length : Int) := by omega
      obtain ⟨bb, off, ha9, hx⟩ := HP.out.l.cellAt hlt
      rw [← hlw.cell (p := ⟨bb, off + k, none⟩) (cell_lt hx)] at hx
      subst ha9
      have hxb := HBD.out k hlt
      have HT := Lib.hid (vers_take (c := pc) hlt)
      generalize pl.getD k 0 = x at hx hxb HT
      have hbig := refbig_any (w := wr) x (by omega) hxb.2 4 (by decide)
      rw [show (((4 : Nat) : Int)) = 4 from rfl] at hbig
      clear hs1 hbx1 hdd hb ho hlw
      generalize hV : versP pc (pl.take k) = V at *
      go_wp2_with (first
        | (go_at_call 32; refine hbig.mono ?_; rintro e w2 ⟨v2, rfl, ho2, hb2⟩; obtain ⟨a2, k2, rfl⟩ := own_shape ho2; have r2 := (Rd.of_own ho2 (big_byt x 4)).1)
        | (at_builtin; refine wpList_append_bytes (.tmp 49) (.tmp 55) 22 rfl rfl info5 Tryd.underlying22 x8.heap.size _ _ _ rfl (own_below HOO.out hb2) _ (big x 4) rfl r2 (by rw [big_len]; omega) (Nat.le_trans HBB.out.size hb2.size) ?_; intro v3 w3 ho3 hb3))
      go_roundw
      case rel => exact ⟨k + 1, by omega, by go_num, by rw [HT.out, List.length_append]; exact ho3, (HBB.out.trans (hb2.mono HBB.out.size)).trans hb3⟩
      case measure => simp [intOf]; omega
    · obtain rfl : k = pl.length := by omega
      have r9 := (Rd.of_own HOO.out (vers_byt pc _)).1
      have hlv : (versP pc (pl.take pl.length)).length ≤ 100 := hlen
      have HTK := Lib.hid (List.take_length (l := pl))
      have hfl := field_len 17 (versP pc (pl.take pl.length))
      clear hdd hb ho hlw
      generalize hV : versP pc (pl.take pl.length) = V at *
      have HV := Lib.hid hV
      clear hV
      go_wp2_with (first
        | (go_at_call 30; refine (rfield_any (zp := V) r9 (by omega) 17).mono ?_; rintro e w2 ⟨v2, rfl, ho2, hb2⟩; obtain ⟨a2, k2, rfl⟩ := own_shape ho2; have r2 := (Rd.of_own ho2 (field_byt r9.byt)).1; have s2 := HS1.out.below hb2 hsz0)
        | (at_builtin; refine wpList_append_bytes (.tmp 57) (.tmp 59) 22 rfl rfl info5 Tryd.underlying22 (w.heap.size + 1) _ _ _ rfl s2.own _ (fieldB 17 V) rfl r2 (by have := HZZ.out; omega) (Nat.le_trans hsz0 s2.bel.size) ?_; intro v3 w3 ho3 hb3; have s3 := s2.app r2.byt ho3 hb3))
      go_ret
      have e : wrP (⟨pi, pd, true, false, false, pg, po, pr, pc, pl⟩ : Pv) = Z3 ++ fieldB 17 V := by
        rw [HWR.out, ← HV.out, HTK.out, HZ3.out, HZ2.out, HZ1.out]; simp
      rw [e]
      exact ⟨_, rfl, own_mono s3.own (Nat.le_succ _), s3.byt, HB0.out.trans (s3.bel.mono (Nat.le_succ _))⟩

end Go.Proofs.YtofljggagapjlaaDoor
