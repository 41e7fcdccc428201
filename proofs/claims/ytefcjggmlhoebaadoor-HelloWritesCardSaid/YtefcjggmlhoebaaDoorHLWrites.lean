/- HelloWrites: whether any message may be, and its bytes, as the document has them: the walk. -/
import Derived.Test.YtefcjggmlhoebaaDoorHQZ
import Derived.Test.YtefcjggmlhoebaaDoorHRp
import Derived.Test.YtefcjggmlhoebaaDoorHLAgain
namespace Go.Proofs.YtefcjggmlhoebaaDoor
open Go Go.RowKit

set_option maxRecDepth 20000 in
set_option maxHeartbeats 8000000 in
theorem hhwrites_walk {w : World} {y : Hm} {vp : Value} (hr : Rd w vp y.p) (hn : Byt y.n) (ht : Tab w) (hw : 1 < w.heap.size) :
    Calls Tryd.prog 3 #[.agg (mcl y.k y.r y.s y.t y.m y.f vp (bstr y.n) y.v y.l)] w fun e w' => e = .returned (.bool true) ∧ Below w.heap.size w w' := by
  obtain ⟨a, c, rfl⟩ := hr.shape
  have hm0 := rbox_new w y.k y.r y.s y.t y.m y.f (.slice a y.p.length c) (bstr y.n) y.v y.l
  have B0 := below_alloc w (.cells (mcl y.k y.r y.s y.t y.m y.f (.slice a y.p.length c) (bstr y.n) y.v y.l) 24)
  have hL := mlight_any (w.alloc (.cells (mcl y.k y.r y.s y.t y.m y.f (.slice a y.p.length c) (bstr y.n) y.v y.l) 24)) y.k y.r y.s y.t y.m y.f a y.p.length c (bstr y.n) y.v y.l
  have HM := Lib.hid hm0
  have HB0 := Lib.hid B0
  have HR := Lib.hid hr
  have HT := Lib.hid ht
  have HW := Lib.hid hw
  have HN := Lib.hid hn
  obtain ⟨⟨c0, c1, c2, c3, c4, c5, c6, c7, c8, c9⟩, cf⟩ := hm0.cells
  clear hm0 B0 hr ht hw hn
  cases hlt : mlightB y.p.length (bstr y.n) with
  | false =>
    rw [hlt] at hL
    clear hlt
    unfold mcl at *
    go_enter Tryd.func3, Tryd.ntmps3
    go_wp2_with (go_at_call 8; refine hL.mono ?_; rintro e w1 ⟨rfl, hb1⟩)
    go_ret
    exact ⟨rfl, HB0.out.trans (hb1.mono HB0.out.size)⟩
  | true =>
    rw [hlt] at hL
    have hpl : y.p.length ≤ 600 := by unfold mlightB at hlt; simp at hlt; exact hlt.1
    clear hlt
    unfold mcl at *
    go_enter Tryd.func3, Tryd.ntmps3
    go_wp2_with (go_at_call 8; refine hL.mono ?_; rintro e w1 ⟨rfl, hb1⟩; have HB1 := Lib.hid (HB0.out.trans (hb1.mono HB0.out.size)); have HM1 := Lib.hid (HM.out.below hb1); clear hb1 c0 c1 c2 c3 c4 c5 c6 c7 c8 c9 cf; obtain ⟨⟨c0, c1, c2, c3, c4, c5, c6, c7, c8, c9⟩, cf⟩ := HM1.out.cells)
    have hof := hof_any w1 y.k y.r y.s y.t y.m y.f a y.p c (bstr y.n) y.v y.l (HR.out.below HB1.out) (by omega)
    unfold mcl at hof
    clear hL
    refine hof.mono ?_
    rintro e w2 ⟨vq, rfl, hrq, hpq, hb2⟩
    obtain ⟨aq, cq, rfl⟩ := hrq.shape
    have hY := below_alloc w2 (.cells (mcl y.k y.r y.s y.t y.m y.f (.slice aq y.p.length cq) (bstr y.n) y.v y.l) 28)
    have hX := mbox_new w2 y.k y.r y.s y.t y.m y.f (.slice aq y.p.length cq) (bstr y.n) y.v y.l
    have HX := Lib.hid hX
    have HRQ := Lib.hid (hrq.below hY)
    have HPQ := Lib.hid hpq
    have HB2 := Lib.hid ((HB1.out.trans (hb2.mono HB1.out.size)).trans (hY.mono (Nat.le_trans HB1.out.size hb2.size)))
    have HM2 := Lib.hid ((HM1.out.below hb2).below hY)
    have hwr := hwrite_any prok vrok oklen y HRQ.out hpq (by omega) HN.out (HT.out.below HB2.out) (by have := HW.out; have := HB2.out.size; omega)
    unfold HWP mAgg mcl at hwr
    clear hof hb2 hrq hpq c0 c1 c2 c3 c4 c5 c6 c7 c8 c9 cf
    obtain ⟨⟨c0, c1, c2, c3, c4, c5, c6, c7, c8, c9⟩, cf⟩ := hX.cells
    clear hX hY
    unfold mcl at *
    go_wp2_with fail
    refine hwr.mono ?_
    rintro e w3 ⟨v3, rfl, hr3, hp3, hb3⟩
    have HB3 := Lib.hid (HB2.out.trans (hb3.mono HB2.out.size))
    have HM3 := Lib.hid (HM2.out.below hb3)
    have HX3 := Lib.hid (MBox.below HX.out hb3)
    have HRQ3 := Lib.hid (HRQ.out.below hb3)
    have hrr := rright_any rpok y (HR.out.below HB3.out) (by omega)
    unfold mcl at hrr
    obtain ⟨a3, k3, rfl⟩ := hr3.shape
    have HR3 := Lib.hid hr3
    clear hwr hb3 c0 c1 c2 c3 c4 c5 c6 c7 c8 c9 cf hr3 hp3
    obtain ⟨⟨c0, c1, c2, c3, c4, c5, c6, c7, c8, c9⟩, cf⟩ := HM3.out.cells
    obtain ⟨⟨d0, d1, d2, d3, d4, d5, d6, d7, d8, d9⟩, df⟩ := HX3.out.cells
    cases hrb : rightB (okP y.p) y with
    | false =>
      have hw0 : (wrH okP y).length = 0 := by unfold wrH; rw [hrb]; rfl
      have hmr := fun (W : World) (hb : Below w3.heap.size w3 W) => mright_any prok vrok (w := W) y (HRQ3.out.below hb) HPQ.out (by omega)
      rw [hrb] at hrr
      simp only [hrb] at hmr
      unfold mcl at hmr
      clear hrb HR3
      generalize (wrH okP y).length = ZL at *
      subst hw0
      go_wp2_with (first
        | (go_at_call 11; refine hrr.mono ?_; rintro e w4 ⟨rfl, hb4⟩; have HB4 := Lib.hid (HB3.out.trans (hb4.mono HB3.out.size)); have hmr4 := hmr _ hb4; have hx4 := MBox.below HX3.out hb4; clear c0 c1 c2 c3 c4 c5 c6 c7 c8 c9 cf d0 d1 d2 d3 d4 d5 d6 d7 d8 d9 df; obtain ⟨⟨d0, d1, d2, d3, d4, d5, d6, d7, d8, d9⟩, df⟩ := hx4.cells)
        | (go_at_call 12; refine hmr4.mono ?_; rintro e w5 ⟨rfl, hb5⟩; have HB5 := Lib.hid (HB4.out.trans (hb5.mono HB4.out.size)))
        | (go_at_call 13; refine (hhawake_any _ (HT.out.below HB5.out) (by have := HW.out; have := HB5.out.size; omega)).mono ?_; rintro e w6 ⟨rfl, hb6⟩))
      go_ret
      exact ⟨rfl, HB5.out.trans (hb6.mono HB5.out.size)⟩
    | true =>
      have hright := (rightB_iff okP y).1 hrb
      have hw1 : wrH okP y = wrM y := by unfold wrH; rw [if_pos hrb]
      have hrw := fun (W : World) (hb : Below w3.heap.size w3 W) => rwrite_any oklen (w := W) hright ((HR.out.below HB3.out).below hb) HN.out
      have hmr := fun (W : World) (hb : Below w3.heap.size w3 W) => mright_any prok vrok (w := W) y (HRQ3.out.below hb) HPQ.out (by omega)
      rw [hrb] at hrr
      simp only [hrb] at hmr
      unfold mcl at hmr hrw
      rw [hw1] at HR3
      rw [hw1]
      clear hrb hright hw1
      generalize wrM y = Z at *
      go_wp2_with (first
        | (go_at_call 11; refine hrr.mono ?_; rintro e w4 ⟨rfl, hb4⟩; have HB34 := Lib.hid hb4; have HB4 := Lib.hid (HB3.out.trans (hb4.mono HB3.out.size)); have hmr4 := hmr _ hb4; have hx4 := MBox.below HX3.out hb4; clear c0 c1 c2 c3 c4 c5 c6 c7 c8 c9 cf d0 d1 d2 d3 d4 d5 d6 d7 d8 d9 df; obtain ⟨⟨d0, d1, d2, d3, d4, d5, d6, d7, d8, d9⟩, df⟩ := hx4.cells)
        | (go_at_call 12; refine hmr4.mono ?_; rintro e w5 ⟨rfl, hb5⟩; have HB35 := Lib.hid (HB34.out.trans (hb5.mono HB34.out.size)); have HB5 := Lib.hid (HB4.out.trans (hb5.mono HB4.out.size)); have hrw5 := hrw _ HB35.out; have hy5 := RBox.below HM3.out HB35.out; clear d0 d1 d2 d3 d4 d5 d6 d7 d8 d9 df; obtain ⟨⟨d0, d1, d2, d3, d4, d5, d6, d7, d8, d9⟩, df⟩ := hy5.cells)
        | (go_at_call 15; refine hrw5.mono ?_; rintro e w6 ⟨v6, rfl, hr6, hb6⟩; have HB6 := Lib.hid (HB5.out.trans (hb6.mono HB5.out.size)); have hsm := same_any ((HR3.out.below HB35.out).below hb6) hr6; rw [decide_eq_true rfl] at hsm; obtain ⟨a6, c6, rfl⟩ := hr6.shape)
        | (go_at_call 14; refine hsm.mono ?_; rintro e w7 ⟨rfl, hb7⟩; have HB7 := Lib.hid (HB6.out.trans (hb7.mono HB6.out.size)))
        | (go_at_call 13; refine (hhawake_any _ (HT.out.below HB7.out) (by have := HW.out; have := HB7.out.size; omega)).mono ?_; rintro e w8 ⟨rfl, hb8⟩))
      go_ret
      exact ⟨rfl, HB7.out.trans (hb8.mono HB7.out.size)⟩
#print axioms hhwrites_walk
end Go.Proofs.YtefcjggmlhoebaaDoor
