/- Write where the three names are there or not. -/
import Derived.Test.YtmglhlfjddgllaaDoorPWh
namespace Go.Proofs.YtmglhlfjddgllaaDoor
open Go Go.RowKit

set_option maxRecDepth 20000 in
set_option maxHeartbeats 4000000 in
theorem write_tft {w : World} {pi pd pc : Int} {pg po pr pl : List Int} {a5 a6 a7 a9 : Option Addr} {k5 k6 k7 k9 : Nat} (h : Pr w (⟨pi, pd, true, false, true, pg, po, pr, pc, pl⟩ : Pv) (.slice a5 pg.length k5) (.slice a6 po.length k6) (.slice a7 pr.length k7) (.slice a9 pl.length k9)) (ht : Tab w) (hw : 1 < w.heap.size) (hr : rightP (⟨pi, pd, true, false, true, pg, po, pr, pc, pl⟩ : Pv) = true) :
    Calls Tryd.prog 10 #[pAgg (⟨pi, pd, true, false, true, pg, po, pr, pc, pl⟩ : Pv) (.slice a5 pg.length k5) (.slice a6 po.length k6) (.slice a7 pr.length k7) (.slice a9 pl.length k9)] w fun e w' => ∃ v', e = .returned v' ∧ w'.ownsRow w.heap.size 5 1 v' (wrP (⟨pi, pd, true, false, true, pg, po, pr, pc, pl⟩ : Pv)).length (by8 (wrP (⟨pi, pd, true, false, true, pg, po, pr, pc, pl⟩ : Pv))) ∧ Byt (wrP (⟨pi, pd, true, false, true, pg, po, pr, pc, pl⟩ : Pv)) ∧ Below w.heap.size w w' := by
  have hB0 := below_alloc w (.cells (pCells (⟨pi, pd, true, false, true, pg, po, pr, pc, pl⟩ : Pv) (.slice a5 pg.length k5) (.slice a6 po.length k6) (.slice a7 pr.length k7) (.slice a9 pl.length k9)) 27)
  have hX0 := heap_alloc_new w (.cells (pCells (⟨pi, pd, true, false, true, pg, po, pr, pc, pl⟩ : Pv) (.slice a5 pg.length k5) (.slice a6 po.length k6) (.slice a7 pr.length k7) (.slice a9 pl.length k9)) 27)
  have hri := right_any (h.below hB0)
  rw [hr] at hri
  dsimp only [pAgg, pCells] at hri hX0 hB0
  have hvv := fun w1 (hb : Below w.heap.size w w1) => versions_any (h.below hb) hr
  dsimp only [pAgg] at hvv
  obtain ⟨f1, f2, f3, f4, f5, f6, f7⟩ := right_facts hr
  have l5 := name_len f3
  have l6 := name_len f4
  have l7 := name_len f5
  have l9 := (vers_facts f7).1
  dsimp only at l5 l6 l7 l9
  have li := enc_len pi
  have ld := enc_len pd
  have HWR : Hid (wrP (⟨pi, pd, true, false, true, pg, po, pr, pc, pl⟩ : Pv) = fieldB 0 (pg) ++ (fieldB 1 (enc pi) ++ (fieldB 4 (enc pd) ++ (fieldB 16 (pr) ++ (fieldB 17 (versP pc pl)))))) := Lib.hid (by unfold wrP bytesP; rw [hr]; simp)
  have HP := Lib.hid h
  have HT := Lib.hid (ht.below hB0)
  have HV := Lib.hid hvv
  have HX := Lib.hid hX0
  have hst : ∀ w1, Below (w.heap.size + 1) (w.alloc (.cells (pCells (⟨pi, pd, true, false, true, pg, po, pr, pc, pl⟩ : Pv) (.slice a5 pg.length k5) (.slice a6 po.length k6) (.slice a7 pr.length k7) (.slice a9 pl.length k9)) 27)) w1 → Ws w (⟨pi, pd, true, false, true, pg, po, pr, pc, pl⟩ : Pv) (.slice a5 pg.length k5) (.slice a6 po.length k6) (.slice a7 pr.length k7) (.slice a9 pl.length k9) w.heap.size w1.heap.size [] (w1.alloc (.cells #[.slice none 0 0] 22)) := fun w1 hb =>
    Ws.start (hb.mono (Nat.le_succ _)) (by have := hb.size; simp at this; omega) ((hb.block _ (Nat.lt_succ_self _)).trans HX.out) (HT.out.below (by have := hb; simpa using this)) hw
  have HS := Lib.hid hst
  clear h ht hvv hX0 f1 f2 f3 f4 f5 f6 f7 hst
  rw [World.size_alloc] at hri
  go_enter Tryd.func10, Tryd.ntmps10
  go_wp2_with (first
    | (go_at_call 20; refine (gv_any (zp := versP pc pl) s7.gv r7 (by have := field_len 0 (pg); have := field_len 1 (enc pi); have := field_len 4 (enc pd); have := field_len 16 (pr); simp only [List.length_append, List.length_nil]; omega) (by rw [vers_len]; omega) 17).mono ?_; rintro e x8 ⟨rfl, g8, b8⟩; have s8 := s7.give g8 b8; have e8_0 := s8.cells.1; have e8_1 := s8.cells.2.1; have e8_2 := s8.cells.2.2.1; have e8_3 := s8.cells.2.2.2.1; have e8_4 := s8.cells.2.2.2.2.1; have e8_5 := s8.cells.2.2.2.2.2.1; have e8_6 := s8.cells.2.2.2.2.2.2.1; have e8_7 := s8.cells.2.2.2.2.2.2.2.1; have e8_8 := s8.cells.2.2.2.2.2.2.2.2.1; have e8_9 := s8.cells.2.2.2.2.2.2.2.2.2; obtain ⟨vf, hxf, hof⟩ := s8.gv.box; obtain ⟨af, kf, rfl⟩ := own_shape hof; have cf : x8.cell? ⟨w1.heap.size, 0, none⟩ = _ := (cell_of_row _ _ 0 _ _ (0, 0) hxf).trans rfl)
    | (go_at_call 23; refine (HV.out _ s6.bel).mono ?_; rintro e x7 ⟨y7, rfl, o7, b7⟩; have r7 := (Rd.of_own o7 (vers_byt _ _)).1; have s7 := s6.below b7; have e7_0 := s7.cells.1; have e7_1 := s7.cells.2.1; have e7_2 := s7.cells.2.2.1; have e7_3 := s7.cells.2.2.2.1; have e7_4 := s7.cells.2.2.2.2.1; have e7_5 := s7.cells.2.2.2.2.2.1; have e7_6 := s7.cells.2.2.2.2.2.2.1; have e7_7 := s7.cells.2.2.2.2.2.2.2.1; have e7_8 := s7.cells.2.2.2.2.2.2.2.2.1; have e7_9 := s7.cells.2.2.2.2.2.2.2.2.2)
    | (go_at_call 20; refine (gv_any (zp := pr) s5.gv (HP.out.r.below s5.bel) (by have := field_len 0 (pg); have := field_len 1 (enc pi); have := field_len 4 (enc pd); simp only [List.length_append, List.length_nil]; omega) (by omega) 16).mono ?_; rintro e x6 ⟨rfl, g6, b6⟩; have s6 := s5.give g6 b6; have e6_0 := s6.cells.1; have e6_1 := s6.cells.2.1; have e6_2 := s6.cells.2.2.1; have e6_3 := s6.cells.2.2.2.1; have e6_4 := s6.cells.2.2.2.2.1; have e6_5 := s6.cells.2.2.2.2.2.1; have e6_6 := s6.cells.2.2.2.2.2.2.1; have e6_7 := s6.cells.2.2.2.2.2.2.2.1; have e6_8 := s6.cells.2.2.2.2.2.2.2.2.1; have e6_9 := s6.cells.2.2.2.2.2.2.2.2.2)
    | (go_at_call 20; refine (gv_any (zp := enc pd) s4.gv r4 (by have := field_len 0 (pg); have := field_len 1 (enc pi); simp only [List.length_append, List.length_nil]; omega) (by omega) 4).mono ?_; rintro e x5 ⟨rfl, g5, b5⟩; have s5 := s4.give g5 b5; have e5_0 := s5.cells.1; have e5_1 := s5.cells.2.1; have e5_2 := s5.cells.2.2.1; have e5_3 := s5.cells.2.2.2.1; have e5_4 := s5.cells.2.2.2.2.1; have e5_5 := s5.cells.2.2.2.2.2.1; have e5_6 := s5.cells.2.2.2.2.2.2.1; have e5_7 := s5.cells.2.2.2.2.2.2.2.1; have e5_8 := s5.cells.2.2.2.2.2.2.2.2.1; have e5_9 := s5.cells.2.2.2.2.2.2.2.2.2)
    | (go_at_call 22; refine (append_any (Rd.nil _) (by simp) (pd) s3.gv.tab (by have := s3.gv.lt; have := s3.gv.lo; omega)).mono ?_; rintro e x4 ⟨y4, rfl, o4, b4⟩; have r4 := (Rd.of_own o4 (enc_byt _)).1; have s4 := s3.below b4; have e4_0 := s4.cells.1; have e4_1 := s4.cells.2.1; have e4_2 := s4.cells.2.2.1; have e4_3 := s4.cells.2.2.2.1; have e4_4 := s4.cells.2.2.2.2.1; have e4_5 := s4.cells.2.2.2.2.2.1; have e4_6 := s4.cells.2.2.2.2.2.2.1; have e4_7 := s4.cells.2.2.2.2.2.2.2.1; have e4_8 := s4.cells.2.2.2.2.2.2.2.2.1; have e4_9 := s4.cells.2.2.2.2.2.2.2.2.2)
    | (go_at_call 20; refine (gv_any (zp := enc pi) s2.gv r2 (by have := field_len 0 (pg); simp only [List.length_append, List.length_nil]; omega) (by omega) 1).mono ?_; rintro e x3 ⟨rfl, g3, b3⟩; have s3 := s2.give g3 b3; have e3_0 := s3.cells.1; have e3_1 := s3.cells.2.1; have e3_2 := s3.cells.2.2.1; have e3_3 := s3.cells.2.2.2.1; have e3_4 := s3.cells.2.2.2.2.1; have e3_5 := s3.cells.2.2.2.2.2.1; have e3_6 := s3.cells.2.2.2.2.2.2.1; have e3_7 := s3.cells.2.2.2.2.2.2.2.1; have e3_8 := s3.cells.2.2.2.2.2.2.2.2.1; have e3_9 := s3.cells.2.2.2.2.2.2.2.2.2)
    | (go_at_call 22; refine (append_any (Rd.nil _) (by simp) (pi) s1.gv.tab (by have := s1.gv.lt; have := s1.gv.lo; omega)).mono ?_; rintro e x2 ⟨y2, rfl, o2, b2⟩; have r2 := (Rd.of_own o2 (enc_byt _)).1; have s2 := s1.below b2; have e2_0 := s2.cells.1; have e2_1 := s2.cells.2.1; have e2_2 := s2.cells.2.2.1; have e2_3 := s2.cells.2.2.2.1; have e2_4 := s2.cells.2.2.2.2.1; have e2_5 := s2.cells.2.2.2.2.2.1; have e2_6 := s2.cells.2.2.2.2.2.2.1; have e2_7 := s2.cells.2.2.2.2.2.2.2.1; have e2_8 := s2.cells.2.2.2.2.2.2.2.2.1; have e2_9 := s2.cells.2.2.2.2.2.2.2.2.2)
    | (go_at_call 20; refine (gv_any (zp := pg) s0.gv (HP.out.g.below s0.bel) (by simp only [List.length_nil]; omega) (by omega) 0).mono ?_; rintro e x1 ⟨rfl, g1, b1⟩; have s1 := s0.give g1 b1; have e1_0 := s1.cells.1; have e1_1 := s1.cells.2.1; have e1_2 := s1.cells.2.2.1; have e1_3 := s1.cells.2.2.2.1; have e1_4 := s1.cells.2.2.2.2.1; have e1_5 := s1.cells.2.2.2.2.2.1; have e1_6 := s1.cells.2.2.2.2.2.2.1; have e1_7 := s1.cells.2.2.2.2.2.2.2.1; have e1_8 := s1.cells.2.2.2.2.2.2.2.2.1; have e1_9 := s1.cells.2.2.2.2.2.2.2.2.2)
    | (go_at_call 12; refine hri.mono ?_; rintro e w1 ⟨rfl, hb1⟩; have s0 := HS.out w1 hb1; have e0_0 := s0.cells.1; have e0_1 := s0.cells.2.1; have e0_2 := s0.cells.2.2.1; have e0_3 := s0.cells.2.2.2.1; have e0_4 := s0.cells.2.2.2.2.1; have e0_5 := s0.cells.2.2.2.2.2.1; have e0_6 := s0.cells.2.2.2.2.2.2.1; have e0_7 := s0.cells.2.2.2.2.2.2.2.1; have e0_8 := s0.cells.2.2.2.2.2.2.2.2.1; have e0_9 := s0.cells.2.2.2.2.2.2.2.2.2))
  go_ret
  have hlow : w.heap.size ≤ w1.heap.size + 1 := by have := s0.ne; omega
  refine ⟨_, rfl, ?_, ?_, s8.bel⟩
  · rw [HWR.out]; simpa using own_mono hof hlow
  · rw [HWR.out]; simpa using s8.gv.byt
set_option maxRecDepth 20000 in
set_option maxHeartbeats 4000000 in
theorem write_tff {w : World} {pi pd pc : Int} {pg po pr pl : List Int} {a5 a6 a7 a9 : Option Addr} {k5 k6 k7 k9 : Nat} (h : Pr w (⟨pi, pd, true, false, false, pg, po, pr, pc, pl⟩ : Pv) (.slice a5 pg.length k5) (.slice a6 po.length k6) (.slice a7 pr.length k7) (.slice a9 pl.length k9)) (ht : Tab w) (hw : 1 < w.heap.size) (hr : rightP (⟨pi, pd, true, false, false, pg, po, pr, pc, pl⟩ : Pv) = true) :
    Calls Tryd.prog 10 #[pAgg (⟨pi, pd, true, false, false, pg, po, pr, pc, pl⟩ : Pv) (.slice a5 pg.length k5) (.slice a6 po.length k6) (.slice a7 pr.length k7) (.slice a9 pl.length k9)] w fun e w' => ∃ v', e = .returned v' ∧ w'.ownsRow w.heap.size 5 1 v' (wrP (⟨pi, pd, true, false, false, pg, po, pr, pc, pl⟩ : Pv)).length (by8 (wrP (⟨pi, pd, true, false, false, pg, po, pr, pc, pl⟩ : Pv))) ∧ Byt (wrP (⟨pi, pd, true, false, false, pg, po, pr, pc, pl⟩ : Pv)) ∧ Below w.heap.size w w' := by
  have hB0 := below_alloc w (.cells (pCells (⟨pi, pd, true, false, false, pg, po, pr, pc, pl⟩ : Pv) (.slice a5 pg.length k5) (.slice a6 po.length k6) (.slice a7 pr.length k7) (.slice a9 pl.length k9)) 27)
  have hX0 := heap_alloc_new w (.cells (pCells (⟨pi, pd, true, false, false, pg, po, pr, pc, pl⟩ : Pv) (.slice a5 pg.length k5) (.slice a6 po.length k6) (.slice a7 pr.length k7) (.slice a9 pl.length k9)) 27)
  have hri := right_any (h.below hB0)
  rw [hr] at hri
  dsimp only [pAgg, pCells] at hri hX0 hB0
  have hvv := fun w1 (hb : Below w.heap.size w w1) => versions_any (h.below hb) hr
  dsimp only [pAgg] at hvv
  obtain ⟨f1, f2, f3, f4, f5, f6, f7⟩ := right_facts hr
  have l5 := name_len f3
  have l6 := name_len f4
  have l7 := name_len f5
  have l9 := (vers_facts f7).1
  dsimp only at l5 l6 l7 l9
  have li := enc_len pi
  have ld := enc_len pd
  have HWR : Hid (wrP (⟨pi, pd, true, false, false, pg, po, pr, pc, pl⟩ : Pv) = fieldB 0 (pg) ++ (fieldB 1 (enc pi) ++ (fieldB 4 (enc pd) ++ (fieldB 17 (versP pc pl))))) := Lib.hid (by unfold wrP bytesP; rw [hr]; simp)
  have HP := Lib.hid h
  have HT := Lib.hid (ht.below hB0)
  have HV := Lib.hid hvv
  have HX := Lib.hid hX0
  have hst : ∀ w1, Below (w.heap.size + 1) (w.alloc (.cells (pCells (⟨pi, pd, true, false, false, pg, po, pr, pc, pl⟩ : Pv) (.slice a5 pg.length k5) (.slice a6 po.length k6) (.slice a7 pr.length k7) (.slice a9 pl.length k9)) 27)) w1 → Ws w (⟨pi, pd, true, false, false, pg, po, pr, pc, pl⟩ : Pv) (.slice a5 pg.length k5) (.slice a6 po.length k6) (.slice a7 pr.length k7) (.slice a9 pl.length k9) w.heap.size w1.heap.size [] (w1.alloc (.cells #[.slice none 0 0] 22)) := fun w1 hb =>
    Ws.start (hb.mono (Nat.le_succ _)) (by have := hb.size; simp at this; omega) ((hb.block _ (Nat.lt_succ_self _)).trans HX.out) (HT.out.below (by have := hb; simpa using this)) hw
  have HS := Lib.hid hst
  clear h ht hvv hX0 f1 f2 f3 f4 f5 f6 f7 hst
  rw [World.size_alloc] at hri
  go_enter Tryd.func10, Tryd.ntmps10
  go_wp2_with (first
    | (go_at_call 20; refine (gv_any (zp := versP pc pl) s6.gv r6 (by have := field_len 0 (pg); have := field_len 1 (enc pi); have := field_len 4 (enc pd); simp only [List.length_append, List.length_nil]; omega) (by rw [vers_len]; omega) 17).mono ?_; rintro e x7 ⟨rfl, g7, b7⟩; have s7 := s6.give g7 b7; have e7_0 := s7.cells.1; have e7_1 := s7.cells.2.1; have e7_2 := s7.cells.2.2.1; have e7_3 := s7.cells.2.2.2.1; have e7_4 := s7.cells.2.2.2.2.1; have e7_5 := s7.cells.2.2.2.2.2.1; have e7_6 := s7.cells.2.2.2.2.2.2.1; have e7_7 := s7.cells.2.2.2.2.2.2.2.1; have e7_8 := s7.cells.2.2.2.2.2.2.2.2.1; have e7_9 := s7.cells.2.2.2.2.2.2.2.2.2; obtain ⟨vf, hxf, hof⟩ := s7.gv.box; obtain ⟨af, kf, rfl⟩ := own_shape hof; have cf : x7.cell? ⟨w1.heap.size, 0, none⟩ = _ := (cell_of_row _ _ 0 _ _ (0, 0) hxf).trans rfl)
    | (go_at_call 23; refine (HV.out _ s5.bel).mono ?_; rintro e x6 ⟨y6, rfl, o6, b6⟩; have r6 := (Rd.of_own o6 (vers_byt _ _)).1; have s6 := s5.below b6; have e6_0 := s6.cells.1; have e6_1 := s6.cells.2.1; have e6_2 := s6.cells.2.2.1; have e6_3 := s6.cells.2.2.2.1; have e6_4 := s6.cells.2.2.2.2.1; have e6_5 := s6.cells.2.2.2.2.2.1; have e6_6 := s6.cells.2.2.2.2.2.2.1; have e6_7 := s6.cells.2.2.2.2.2.2.2.1; have e6_8 := s6.cells.2.2.2.2.2.2.2.2.1; have e6_9 := s6.cells.2.2.2.2.2.2.2.2.2)
    | (go_at_call 20; refine (gv_any (zp := enc pd) s4.gv r4 (by have := field_len 0 (pg); have := field_len 1 (enc pi); simp only [List.length_append, List.length_nil]; omega) (by omega) 4).mono ?_; rintro e x5 ⟨rfl, g5, b5⟩; have s5 := s4.give g5 b5; have e5_0 := s5.cells.1; have e5_1 := s5.cells.2.1; have e5_2 := s5.cells.2.2.1; have e5_3 := s5.cells.2.2.2.1; have e5_4 := s5.cells.2.2.2.2.1; have e5_5 := s5.cells.2.2.2.2.2.1; have e5_6 := s5.cells.2.2.2.2.2.2.1; have e5_7 := s5.cells.2.2.2.2.2.2.2.1; have e5_8 := s5.cells.2.2.2.2.2.2.2.2.1; have e5_9 := s5.cells.2.2.2.2.2.2.2.2.2)
    | (go_at_call 22; refine (append_any (Rd.nil _) (by simp) (pd) s3.gv.tab (by have := s3.gv.lt; have := s3.gv.lo; omega)).mono ?_; rintro e x4 ⟨y4, rfl, o4, b4⟩; have r4 := (Rd.of_own o4 (enc_byt _)).1; have s4 := s3.below b4; have e4_0 := s4.cells.1; have e4_1 := s4.cells.2.1; have e4_2 := s4.cells.2.2.1; have e4_3 := s4.cells.2.2.2.1; have e4_4 := s4.cells.2.2.2.2.1; have e4_5 := s4.cells.2.2.2.2.2.1; have e4_6 := s4.cells.2.2.2.2.2.2.1; have e4_7 := s4.cells.2.2.2.2.2.2.2.1; have e4_8 := s4.cells.2.2.2.2.2.2.2.2.1; have e4_9 := s4.cells.2.2.2.2.2.2.2.2.2)
    | (go_at_call 20; refine (gv_any (zp := enc pi) s2.gv r2 (by have := field_len 0 (pg); simp only [List.length_append, List.length_nil]; omega) (by omega) 1).mono ?_; rintro e x3 ⟨rfl, g3, b3⟩; have s3 := s2.give g3 b3; have e3_0 := s3.cells.1; have e3_1 := s3.cells.2.1; have e3_2 := s3.cells.2.2.1; have e3_3 := s3.cells.2.2.2.1; have e3_4 := s3.cells.2.2.2.2.1; have e3_5 := s3.cells.2.2.2.2.2.1; have e3_6 := s3.cells.2.2.2.2.2.2.1; have e3_7 := s3.cells.2.2.2.2.2.2.2.1; have e3_8 := s3.cells.2.2.2.2.2.2.2.2.1; have e3_9 := s3.cells.2.2.2.2.2.2.2.2.2)
    | (go_at_call 22; refine (append_any (Rd.nil _) (by simp) (pi) s1.gv.tab (by have := s1.gv.lt; have := s1.gv.lo; omega)).mono ?_; rintro e x2 ⟨y2, rfl, o2, b2⟩; have r2 := (Rd.of_own o2 (enc_byt _)).1; have s2 := s1.below b2; have e2_0 := s2.cells.1; have e2_1 := s2.cells.2.1; have e2_2 := s2.cells.2.2.1; have e2_3 := s2.cells.2.2.2.1; have e2_4 := s2.cells.2.2.2.2.1; have e2_5 := s2.cells.2.2.2.2.2.1; have e2_6 := s2.cells.2.2.2.2.2.2.1; have e2_7 := s2.cells.2.2.2.2.2.2.2.1; have e2_8 := s2.cells.2.2.2.2.2.2.2.2.1; have e2_9 := s2.cells.2.2.2.2.2.2.2.2.2)
    | (go_at_call 20; refine (gv_any (zp := pg) s0.gv (HP.out.g.below s0.bel) (by simp only [List.length_nil]; omega) (by omega) 0).mono ?_; rintro e x1 ⟨rfl, g1, b1⟩; have s1 := s0.give g1 b1; have e1_0 := s1.cells.1; have e1_1 := s1.cells.2.1; have e1_2 := s1.cells.2.2.1; have e1_3 := s1.cells.2.2.2.1; have e1_4 := s1.cells.2.2.2.2.1; have e1_5 := s1.cells.2.2.2.2.2.1; have e1_6 := s1.cells.2.2.2.2.2.2.1; have e1_7 := s1.cells.2.2.2.2.2.2.2.1; have e1_8 := s1.cells.2.2.2.2.2.2.2.2.1; have e1_9 := s1.cells.2.2.2.2.2.2.2.2.2)
    | (go_at_call 12; refine hri.mono ?_; rintro e w1 ⟨rfl, hb1⟩; have s0 := HS.out w1 hb1; have e0_0 := s0.cells.1; have e0_1 := s0.cells.2.1; have e0_2 := s0.cells.2.2.1; have e0_3 := s0.cells.2.2.2.1; have e0_4 := s0.cells.2.2.2.2.1; have e0_5 := s0.cells.2.2.2.2.2.1; have e0_6 := s0.cells.2.2.2.2.2.2.1; have e0_7 := s0.cells.2.2.2.2.2.2.2.1; have e0_8 := s0.cells.2.2.2.2.2.2.2.2.1; have e0_9 := s0.cells.2.2.2.2.2.2.2.2.2))
  go_ret
  have hlow : w.heap.size ≤ w1.heap.size + 1 := by have := s0.ne; omega
  refine ⟨_, rfl, ?_, ?_, s7.bel⟩
  · rw [HWR.out]; simpa using own_mono hof hlow
  · rw [HWR.out]; simpa using s7.gv.byt
end Go.Proofs.YtmglhlfjddgllaaDoor
