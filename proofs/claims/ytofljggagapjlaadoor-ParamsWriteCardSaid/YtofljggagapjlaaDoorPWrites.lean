/- ParamsWrite: whether any params may be, and their bytes: the walk. -/
import Derived.Test.YtofljggagapjlaaDoorPAwk
import Derived.Test.YtofljggagapjlaaDoorPOf
import Derived.Test.YtofljggagapjlaaDoorPRefR
import Derived.Test.YtofljggagapjlaaDoorPRefW
import Derived.Test.YtofljggagapjlaaDoorPTh
namespace Go.Proofs.YtofljggagapjlaaDoor
open Go Go.RowKit

theorem light_len {p : Pv} (h : plightB p = true) : p.g.length ≤ 50 ∧ p.o.length ≤ 50 ∧ p.r.length ≤ 50 ∧ p.l.length ≤ 30 := by
  unfold plightB at h
  simp only [Bool.and_eq_true, decide_eq_true_eq] at h
  exact ⟨h.1.1.1, h.1.1.2, h.1.2, h.2⟩
theorem Ri.len' {w : World} {v : Value} {zs : List Int} (h : Ri w v zs) : zs.length ≤ 9223372036854775807 := h.len
theorem wr_len (p : Pv) (h : rightP p = false) : wrP p = [] := by unfold wrP; rw [h]; rfl
theorem tab_b {w0 w : World} (ht : Tab w0) (hb : Below w0.heap.size w0 w) : Tab w := ht.below hb
set_option maxRecDepth 20000 in
set_option maxHeartbeats 8000000 in
theorem pwrites_walk {w : World} {p : Pv} {v5 v6 v7 v9 : Value} (h : Pr w p v5 v6 v7 v9) (ht : Tab w) (hw : 1 < w.heap.size) :
    Calls Tryd.prog 3 #[pAgg p v5 v6 v7 v9] w fun e w' => e = .returned (.bool true) ∧ Below w.heap.size w w' := by
  obtain ⟨a5, k5, rfl⟩ := h.g.shape
  obtain ⟨a6, k6, rfl⟩ := h.o.shape
  obtain ⟨a7, k7, rfl⟩ := h.r.shape
  obtain ⟨a9, k9, rfl⟩ := h.l.shape
  have hB0 := below_alloc w (.cells (pCells p (.slice a5 p.g.length k5) (.slice a6 p.o.length k6) (.slice a7 p.r.length k7) (.slice a9 p.l.length k9)) 25)
  have hX0 := heap_alloc_new w (.cells (pCells p (.slice a5 p.g.length k5) (.slice a6 p.o.length k6) (.slice a7 p.r.length k7) (.slice a9 p.l.length k9)) 25)
  have hL := plight_any (w.alloc (.cells (pCells p (.slice a5 p.g.length k5) (.slice a6 p.o.length k6) (.slice a7 p.r.length k7) (.slice a9 p.l.length k9)) 25)) p a5 k5 a6 k6 a7 k7 a9 k9 h.g.len h.o.len h.r.len h.l.len
  have HB0 := Lib.hid hB0
  have HX0 := Lib.hid hX0
  have HP := Lib.hid h
  have HT := Lib.hid ht
  cases hlt : plightB p with
  | false =>
    rw [hlt] at hL
    clear h ht hB0 hX0 hlt
    go_enter Tryd.func3, Tryd.ntmps3
    go_wp2_with (go_at_call 8; refine hL.mono ?_; rintro e w1 ⟨rfl, hb1⟩)
    go_ret
    exact ⟨rfl, HB0.out.trans (hb1.mono HB0.out.size)⟩
  | true =>
    rw [hlt] at hL
    have hll := light_len hlt
    have HLL := Lib.hid hll
    clear h ht hB0 hX0 hlt hll
    go_enter Tryd.func3, Tryd.ntmps3
    go_wp2_with (first
      | (go_at_call 8; refine hL.mono ?_; rintro e w1 ⟨rfl, hb1⟩; have B1 := HB0.out.trans (hb1.mono HB0.out.size); have hx1 := (hb1.block w.heap.size (by simp)).trans HX0.out; have q1 := pcells hx1)
      | (go_at_call 9; refine (of_any (HP.out.below B1) (by have := HLL.out; omega) (by have := HLL.out; omega) (by have := HLL.out; omega) (by have := HLL.out; omega)).mono ?_; rintro e w2 ⟨u5, u6, u7, u9, rfl, hu, hb2⟩; obtain ⟨b5, m5, rfl⟩ := hu.g.shape; obtain ⟨b6, m6, rfl⟩ := hu.o.shape; obtain ⟨b7, m7, rfl⟩ := hu.r.shape; obtain ⟨b9, m9, rfl⟩ := hu.l.shape))
    have hY := below_alloc w2 (.cells (pCells p (.slice b5 p.g.length m5) (.slice b6 p.o.length m6) (.slice b7 p.r.length m7) (.slice b9 p.l.length m9)) 27)
    have hYx := heap_alloc_new w2 (.cells (pCells p (.slice b5 p.g.length m5) (.slice b6 p.o.length m6) (.slice b7 p.r.length m7) (.slice b9 p.l.length m9)) 27)
    have B2 := B1.trans (hb2.mono B1.size)
    have s0 : Tb w w2.heap.size w.heap.size (pCells p (.slice b5 p.g.length m5) (.slice b6 p.o.length m6) (.slice b7 p.r.length m7) (.slice b9 p.l.length m9)) (pCells p (.slice a5 p.g.length k5) (.slice a6 p.o.length k6) (.slice a7 p.r.length k7) (.slice a9 p.l.length k9)) (w2.alloc (.cells (pCells p (.slice b5 p.g.length m5) (.slice b6 p.o.length m6) (.slice b7 p.r.length m7) (.slice b9 p.l.length m9)) 27)) :=
      ⟨B2.trans (hY.mono B2.size), hYx, by
        have hlt2 : w.heap.size < w2.heap.size := by have := hb2.size; have := hb1.size; simp at this; omega
        have hlt1 : w.heap.size < w1.heap.size := by have := hb1.size; simp at this; omega
        rw [hY.block _ hlt2, hb2.block _ hlt1]; exact hx1⟩
    obtain ⟨Y, hYe⟩ : ∃ Y, Y = w2.alloc (.cells (pCells p (.slice b5 p.g.length m5) (.slice b6 p.o.length m6) (.slice b7 p.r.length m7) (.slice b9 p.l.length m9)) 27) := ⟨_, rfl⟩
    have u0 := hY
    have HU := Lib.hid hu
    have HHW := Lib.hid hw
    rw [← hYe] at s0 u0
    clear hY hYx hu q1 hx1 hb1 hb2 hL B1 HX0 HB0
    have hwr := write_any (HU.out.below u0) (HT.out.below s0.bel) (by have := s0.bel.size; have := HHW.out; omega)
    cases hr : rightP p with
    | false =>
      have HR := Lib.hid hr
      rw [wr_len p hr] at hwr
      clear hr
      rw [← hYe]
      clear hYe
      go_wp2_with (first
        | (go_at_call 13; refine (pawake_any _ (HT.out.below s3.bel) (by have := s3.bel.size; have := HHW.out; omega)).mono ?_; rintro e y9 ⟨rfl, b9'⟩)
        | (go_at_call 12; have cc := right_any (HU.out.below u2); rw [HR.out] at cc; refine cc.mono ?_; rintro e y3 ⟨rfl, b3⟩; have s3 := s2.below b3; have u3 := u2.trans (b3.mono u2.size); have f3_0 := (pcells s3.ba).1; have r3_0 := (pcells s3.bb).1; have f3_1 := (pcells s3.ba).2.1; have r3_1 := (pcells s3.bb).2.1; have f3_2 := (pcells s3.ba).2.2.1; have r3_2 := (pcells s3.bb).2.2.1; have f3_3 := (pcells s3.ba).2.2.2.1; have r3_3 := (pcells s3.bb).2.2.2.1; have f3_4 := (pcells s3.ba).2.2.2.2.1; have r3_4 := (pcells s3.bb).2.2.2.2.1; have f3_5 := (pcells s3.ba).2.2.2.2.2.1; have r3_5 := (pcells s3.bb).2.2.2.2.2.1; have f3_6 := (pcells s3.ba).2.2.2.2.2.2.1; have r3_6 := (pcells s3.bb).2.2.2.2.2.2.1; have f3_7 := (pcells s3.ba).2.2.2.2.2.2.2.1; have r3_7 := (pcells s3.bb).2.2.2.2.2.2.2.1; have f3_8 := (pcells s3.ba).2.2.2.2.2.2.2.2.1; have r3_8 := (pcells s3.bb).2.2.2.2.2.2.2.2.1; have f3_9 := (pcells s3.ba).2.2.2.2.2.2.2.2.2; have r3_9 := (pcells s3.bb).2.2.2.2.2.2.2.2.2)
        | (go_at_call 11; have cc := refright_any (HP.out.below s1.bel); rw [HR.out] at cc; refine cc.mono ?_; rintro e y2 ⟨rfl, b2⟩; have s2 := s1.below b2; have u2 := u1.trans (b2.mono u1.size); have f2_0 := (pcells s2.ba).1; have r2_0 := (pcells s2.bb).1; have f2_1 := (pcells s2.ba).2.1; have r2_1 := (pcells s2.bb).2.1; have f2_2 := (pcells s2.ba).2.2.1; have r2_2 := (pcells s2.bb).2.2.1; have f2_3 := (pcells s2.ba).2.2.2.1; have r2_3 := (pcells s2.bb).2.2.2.1; have f2_4 := (pcells s2.ba).2.2.2.2.1; have r2_4 := (pcells s2.bb).2.2.2.2.1; have f2_5 := (pcells s2.ba).2.2.2.2.2.1; have r2_5 := (pcells s2.bb).2.2.2.2.2.1; have f2_6 := (pcells s2.ba).2.2.2.2.2.2.1; have r2_6 := (pcells s2.bb).2.2.2.2.2.2.1; have f2_7 := (pcells s2.ba).2.2.2.2.2.2.2.1; have r2_7 := (pcells s2.bb).2.2.2.2.2.2.2.1; have f2_8 := (pcells s2.ba).2.2.2.2.2.2.2.2.1; have r2_8 := (pcells s2.bb).2.2.2.2.2.2.2.2.1; have f2_9 := (pcells s2.ba).2.2.2.2.2.2.2.2.2; have r2_9 := (pcells s2.bb).2.2.2.2.2.2.2.2.2)
        | (go_at_call 10; refine hwr.mono ?_; rintro e y1 ⟨v1, rfl, o1, z1, b1⟩; obtain ⟨a1, c1, rfl⟩ := own_shape o1; have s1 := s0.below b1; have u1 := u0.trans (b1.mono u0.size); have f1_0 := (pcells s1.ba).1; have r1_0 := (pcells s1.bb).1; have f1_1 := (pcells s1.ba).2.1; have r1_1 := (pcells s1.bb).2.1; have f1_2 := (pcells s1.ba).2.2.1; have r1_2 := (pcells s1.bb).2.2.1; have f1_3 := (pcells s1.ba).2.2.2.1; have r1_3 := (pcells s1.bb).2.2.2.1; have f1_4 := (pcells s1.ba).2.2.2.2.1; have r1_4 := (pcells s1.bb).2.2.2.2.1; have f1_5 := (pcells s1.ba).2.2.2.2.2.1; have r1_5 := (pcells s1.bb).2.2.2.2.2.1; have f1_6 := (pcells s1.ba).2.2.2.2.2.2.1; have r1_6 := (pcells s1.bb).2.2.2.2.2.2.1; have f1_7 := (pcells s1.ba).2.2.2.2.2.2.2.1; have r1_7 := (pcells s1.bb).2.2.2.2.2.2.2.1; have f1_8 := (pcells s1.ba).2.2.2.2.2.2.2.2.1; have r1_8 := (pcells s1.bb).2.2.2.2.2.2.2.2.1; have f1_9 := (pcells s1.ba).2.2.2.2.2.2.2.2.2; have r1_9 := (pcells s1.bb).2.2.2.2.2.2.2.2.2))
      go_ret
      exact ⟨rfl, s3.bel.trans (b9'.mono s3.bel.size)⟩
    | true =>
      have HR := Lib.hid hr
      clear hr
      rw [← hYe]
      clear hYe
      go_wp2_with (first
        | (go_at_call 13; refine (pawake_any _ (HT.out.below s5.bel) (by have := s5.bel.size; have := HHW.out; omega)).mono ?_; rintro e y9 ⟨rfl, b9'⟩)
        | (go_at_call 14; have cc := same_any ((((Rd.of_own o1 z1).1.below b2).below b3).below b4) (Rd.of_own o4 z4).1; rw [show decide (wrP p = wrP p) = true from decide_eq_true rfl] at cc; refine cc.mono ?_; rintro e y5 ⟨rfl, b5'⟩; have s5 := s4.below b5')
        | (go_at_call 15; refine (refwrite_any (HP.out.below s3.bel) HR.out).mono ?_; rintro e y4 ⟨v4, rfl, o4, z4, b4⟩; obtain ⟨a4, c4, rfl⟩ := own_shape o4; have s4 := s3.below b4; have u4 := u3.trans (b4.mono u3.size); have f4_0 := (pcells s4.ba).1; have r4_0 := (pcells s4.bb).1; have f4_1 := (pcells s4.ba).2.1; have r4_1 := (pcells s4.bb).2.1; have f4_2 := (pcells s4.ba).2.2.1; have r4_2 := (pcells s4.bb).2.2.1; have f4_3 := (pcells s4.ba).2.2.2.1; have r4_3 := (pcells s4.bb).2.2.2.1; have f4_4 := (pcells s4.ba).2.2.2.2.1; have r4_4 := (pcells s4.bb).2.2.2.2.1; have f4_5 := (pcells s4.ba).2.2.2.2.2.1; have r4_5 := (pcells s4.bb).2.2.2.2.2.1; have f4_6 := (pcells s4.ba).2.2.2.2.2.2.1; have r4_6 := (pcells s4.bb).2.2.2.2.2.2.1; have f4_7 := (pcells s4.ba).2.2.2.2.2.2.2.1; have r4_7 := (pcells s4.bb).2.2.2.2.2.2.2.1; have f4_8 := (pcells s4.ba).2.2.2.2.2.2.2.2.1; have r4_8 := (pcells s4.bb).2.2.2.2.2.2.2.2.1; have f4_9 := (pcells s4.ba).2.2.2.2.2.2.2.2.2; have r4_9 := (pcells s4.bb).2.2.2.2.2.2.2.2.2)
        | (go_at_call 12; have cc := right_any (HU.out.below u2); rw [HR.out] at cc; refine cc.mono ?_; rintro e y3 ⟨rfl, b3⟩; have s3 := s2.below b3; have u3 := u2.trans (b3.mono u2.size); have f3_0 := (pcells s3.ba).1; have r3_0 := (pcells s3.bb).1; have f3_1 := (pcells s3.ba).2.1; have r3_1 := (pcells s3.bb).2.1; have f3_2 := (pcells s3.ba).2.2.1; have r3_2 := (pcells s3.bb).2.2.1; have f3_3 := (pcells s3.ba).2.2.2.1; have r3_3 := (pcells s3.bb).2.2.2.1; have f3_4 := (pcells s3.ba).2.2.2.2.1; have r3_4 := (pcells s3.bb).2.2.2.2.1; have f3_5 := (pcells s3.ba).2.2.2.2.2.1; have r3_5 := (pcells s3.bb).2.2.2.2.2.1; have f3_6 := (pcells s3.ba).2.2.2.2.2.2.1; have r3_6 := (pcells s3.bb).2.2.2.2.2.2.1; have f3_7 := (pcells s3.ba).2.2.2.2.2.2.2.1; have r3_7 := (pcells s3.bb).2.2.2.2.2.2.2.1; have f3_8 := (pcells s3.ba).2.2.2.2.2.2.2.2.1; have r3_8 := (pcells s3.bb).2.2.2.2.2.2.2.2.1; have f3_9 := (pcells s3.ba).2.2.2.2.2.2.2.2.2; have r3_9 := (pcells s3.bb).2.2.2.2.2.2.2.2.2)
        | (go_at_call 11; have cc := refright_any (HP.out.below s1.bel); rw [HR.out] at cc; refine cc.mono ?_; rintro e y2 ⟨rfl, b2⟩; have s2 := s1.below b2; have u2 := u1.trans (b2.mono u1.size); have f2_0 := (pcells s2.ba).1; have r2_0 := (pcells s2.bb).1; have f2_1 := (pcells s2.ba).2.1; have r2_1 := (pcells s2.bb).2.1; have f2_2 := (pcells s2.ba).2.2.1; have r2_2 := (pcells s2.bb).2.2.1; have f2_3 := (pcells s2.ba).2.2.2.1; have r2_3 := (pcells s2.bb).2.2.2.1; have f2_4 := (pcells s2.ba).2.2.2.2.1; have r2_4 := (pcells s2.bb).2.2.2.2.1; have f2_5 := (pcells s2.ba).2.2.2.2.2.1; have r2_5 := (pcells s2.bb).2.2.2.2.2.1; have f2_6 := (pcells s2.ba).2.2.2.2.2.2.1; have r2_6 := (pcells s2.bb).2.2.2.2.2.2.1; have f2_7 := (pcells s2.ba).2.2.2.2.2.2.2.1; have r2_7 := (pcells s2.bb).2.2.2.2.2.2.2.1; have f2_8 := (pcells s2.ba).2.2.2.2.2.2.2.2.1; have r2_8 := (pcells s2.bb).2.2.2.2.2.2.2.2.1; have f2_9 := (pcells s2.ba).2.2.2.2.2.2.2.2.2; have r2_9 := (pcells s2.bb).2.2.2.2.2.2.2.2.2)
        | (go_at_call 10; refine hwr.mono ?_; rintro e y1 ⟨v1, rfl, o1, z1, b1⟩; obtain ⟨a1, c1, rfl⟩ := own_shape o1; have s1 := s0.below b1; have u1 := u0.trans (b1.mono u0.size); have f1_0 := (pcells s1.ba).1; have r1_0 := (pcells s1.bb).1; have f1_1 := (pcells s1.ba).2.1; have r1_1 := (pcells s1.bb).2.1; have f1_2 := (pcells s1.ba).2.2.1; have r1_2 := (pcells s1.bb).2.2.1; have f1_3 := (pcells s1.ba).2.2.2.1; have r1_3 := (pcells s1.bb).2.2.2.1; have f1_4 := (pcells s1.ba).2.2.2.2.1; have r1_4 := (pcells s1.bb).2.2.2.2.1; have f1_5 := (pcells s1.ba).2.2.2.2.2.1; have r1_5 := (pcells s1.bb).2.2.2.2.2.1; have f1_6 := (pcells s1.ba).2.2.2.2.2.2.1; have r1_6 := (pcells s1.bb).2.2.2.2.2.2.1; have f1_7 := (pcells s1.ba).2.2.2.2.2.2.2.1; have r1_7 := (pcells s1.bb).2.2.2.2.2.2.2.1; have f1_8 := (pcells s1.ba).2.2.2.2.2.2.2.2.1; have r1_8 := (pcells s1.bb).2.2.2.2.2.2.2.2.1; have f1_9 := (pcells s1.ba).2.2.2.2.2.2.2.2.2; have r1_9 := (pcells s1.bb).2.2.2.2.2.2.2.2.2))
      go_ret
      exact ⟨rfl, s5.bel.trans (b9'.mono s5.bel.size)⟩
end Go.Proofs.YtofljggagapjlaaDoor
