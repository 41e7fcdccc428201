/- HelloBack: what is written is read as it was: the walk. -/
import Derived.Test.YtefcjggmlhoebaaDoorHTold
import Derived.Test.YtefcjggmlhoebaaDoorHLAgain
namespace Go.Proofs.YtefcjggmlhoebaaDoor
open Go Go.RowKit

theorem wrM_len (x : Hm) : (wrM x).length = (bodyM x).length + 4 := by simp [wrM, gbig_len]; omega
set_option maxRecDepth 20000 in
set_option maxHeartbeats 8000000 in
theorem hhback_walk {w : World} {y : Hm} {vp : Value} (hr : Rd w vp y.p) (hn : Byt y.n) (ht : Tab w) (hw : 1 < w.heap.size) :
    Calls Tryd.prog 5 #[.agg (mcl y.k y.r y.s y.t y.m y.f vp (bstr y.n) y.v y.l)] w fun e w' => e = .returned (.bool true) ∧ Below w.heap.size w w' := by
  obtain ⟨a, c, rfl⟩ := hr.shape
  have hm0 := rbox_new w y.k y.r y.s y.t y.m y.f (.slice a y.p.length c) (bstr y.n) y.v y.l
  have B0 := below_alloc w (.cells (mcl y.k y.r y.s y.t y.m y.f (.slice a y.p.length c) (bstr y.n) y.v y.l) 24)
  have hL := mlight_any (w.alloc (.cells (mcl y.k y.r y.s y.t y.m y.f (.slice a y.p.length c) (bstr y.n) y.v y.l) 24)) y.k y.r y.s y.t y.m y.f a y.p.length c (bstr y.n) y.v y.l
  have HM := Lib.hid hm0
  have HB0 := Lib.hid B0
  have HR := Lib.hid hr
  have HT := Lib.hid ht
  have HW := Lib.hid hw
  have HN := Lib.hid hn
  obtain ⟨⟨c0, c1, c2, c3, c4, c5, c6, c7, c8, c9⟩, cf⟩ := hm0.cells
  clear hm0 B0 hr ht hw hn
  cases hlt : mlightB y.p.length (bstr y.n) with
  | false =>
    rw [hlt] at hL
    clear hlt
    unfold mcl at *
    go_enter Tryd.func5, Tryd.ntmps5
    go_wp2_with (go_at_call 8; refine hL.mono ?_; rintro e w1 ⟨rfl, hb1⟩)
    go_ret
    exact ⟨rfl, HB0.out.trans (hb1.mono HB0.out.size)⟩
  | true =>
    rw [hlt] at hL
    have hpl : y.p.length ≤ 600 := by unfold mlightB at hlt; simp at hlt; exact hlt.1
    clear hlt
    unfold mcl at *
    go_enter Tryd.func5, Tryd.ntmps5
    go_wp2_with (go_at_call 8; refine hL.mono ?_; rintro e w1 ⟨rfl, hb1⟩; have HB1 := Lib.hid (HB0.out.trans (hb1.mono HB0.out.size)); have HM1 := Lib.hid (HM.out.below hb1); clear hb1 c0 c1 c2 c3 c4 c5 c6 c7 c8 c9 cf; obtain ⟨⟨c0, c1, c2, c3, c4, c5, c6, c7, c8, c9⟩, cf⟩ := HM1.out.cells)
    have hof := hof_any w1 y.k y.r y.s y.t y.m y.f a y.p c (bstr y.n) y.v y.l (HR.out.below HB1.out) (by omega)
    unfold mcl at hof
    clear hL
    refine hof.mono ?_
    rintro e w2 ⟨vq, rfl, hrq, hpq, hb2⟩
    have HB2 := Lib.hid (HB1.out.trans (hb2.mono HB1.out.size))
    have HM2 := Lib.hid (HM1.out.below hb2)
    have hwr := hwrite_any prok vrok oklen y hrq hpq (by omega) HN.out (HT.out.below HB2.out) (by have := HW.out; have := HB2.out.size; omega)
    unfold HWP mAgg mcl at hwr
    obtain ⟨aq, cq, rfl⟩ := hrq.shape
    clear hof hb2 hrq hpq c0 c1 c2 c3 c4 c5 c6 c7 c8 c9 cf
    go_wp2_with fail
    refine hwr.mono ?_
    rintro e w3 ⟨v3, rfl, hr3, hp3, hb3⟩
    have HB3 := Lib.hid (HB2.out.trans (hb3.mono HB2.out.size))
    have HM3 := Lib.hid (HM2.out.below hb3)
    obtain ⟨a3, k3, rfl⟩ := hr3.shape
    clear hwr hb3
    cases hrb : rightB (okP y.p) y with
    | false =>
      have hw0 : wrH okP y = [] := by unfold wrH; rw [hrb]; rfl
      rw [hw0] at hr3 hp3 ⊢
      clear hrb hw0 hr3 hp3
      go_wp2_with (go_at_call 13; refine (hhawake_any _ (HT.out.below HB3.out) (by have := HW.out; have := HB3.out.size; omega)).mono ?_; rintro e w4 ⟨rfl, hb4⟩)
      go_ret
      exact ⟨rfl, HB3.out.trans (hb4.mono HB3.out.size)⟩
    | true =>
      have hright := (rightB_iff okP y).1 hrb
      have hw1 : wrH okP y = wrM y := by unfold wrH; rw [if_pos hrb]
      have hbl := body_len oklen hright
      have hlen := wrM_len y
      have hback := hread_back hright (by omega) (by omega)
      rw [hw1] at hr3 hp3 ⊢
      have hrd := hread_any prok vrok hr3 hp3 (by omega)
      have hne : (((wrM y).length : Int) == 0) = false := by rw [beq_eq_false_iff_ne]; omega
      have HBK := Lib.hid hback
      clear hrb hright hw1 hbl hback hr3 hp3
      generalize wrM y = Z at *
      clear hlen
      go_wp2_with fail
      refine hrd.mono ?_
      unfold HRP
      rintro e w4 ⟨x, vx, n, rfl, hrx, hpx, hb4, hcase⟩
      have hxy : n = 0 ∧ x = y := by
        rcases hcase with ⟨_, h, _⟩ | ⟨h1, h2⟩
        · rw [HBK.out] at h; cases h
        · rw [HBK.out] at h2; cases h2; exact ⟨h1, rfl⟩
      obtain ⟨rfl, rfl⟩ := hxy
      obtain ⟨ax, cx, rfl⟩ := hrx.shape
      have hY := below_alloc w4 (.cells (mcl x.k x.r x.s x.t x.m x.f (.slice ax x.p.length cx) (bstr x.n) x.v x.l) 28)
      have hMx := mbox_new w4 x.k x.r x.s x.t x.m x.f (.slice ax x.p.length cx) (bstr x.n) x.v x.l
      have HB5 := Lib.hid ((HB3.out.trans (hb4.mono HB3.out.size)).trans (hY.mono (Nat.le_trans HB3.out.size hb4.size)))
      have hM5 := (HM3.out.below hb4).below hY
      have htd := mtold_true (w4.alloc (.cells (mcl x.k x.r x.s x.t x.m x.f (.slice ax x.p.length cx) (bstr x.n) x.v x.l) 28)) x.k x.r x.s x.t x.m x.f ax x.p cx a c (bstr x.n) x.v x.l (hrx.below hY) (HR.out.below HB5.out)
      obtain ⟨⟨c0, c1, c2, c3, c4, c5, c6, c7, c8, c9⟩, cf⟩ := hMx.cells
      obtain ⟨⟨d0, d1, d2, d3, d4, d5, d6, d7, d8, d9⟩, df⟩ := hM5.cells
      unfold mAgg
      unfold mcl at *
      clear hrd hcase hMx hM5 hY hb4 hrx hpx
      go_wp2_with (first
        | (go_at_call 18; refine htd.mono ?_; rintro e w6 ⟨rfl, hb6⟩; have HB6 := Lib.hid (HB5.out.trans (hb6.mono HB5.out.size)))
        | (go_at_call 13; refine (hhawake_any _ (HT.out.below HB6.out) (by have := HW.out; have := HB6.out.size; omega)).mono ?_; rintro e w7 ⟨rfl, hb7⟩))
      go_ret
      exact ⟨rfl, HB6.out.trans (hb7.mono HB6.out.size)⟩
#print axioms hhback_walk
end Go.Proofs.YtefcjggmlhoebaaDoor
