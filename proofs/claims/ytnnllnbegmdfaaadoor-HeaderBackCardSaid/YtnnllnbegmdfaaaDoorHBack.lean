/- HeaderBack: a header that is written is read as it was. -/
import Derived.Test.YtnnllnbegmdfaaaDoorHCut
namespace Go.Proofs.YtnnllnbegmdfaaaDoor
open Go Go.RowKit

/-- What is read of a header's bytes, a body and what stands behind. -/
theorem refP_back {h : Hv} {body behind : List Int} (hX : rightB h = true) (hb : body.length ≤ 16384) (hz : Byt (wrB h body.length ++ body ++ behind)) (hk : h.k = 3 → behind = []) :
    refP (wrB h body.length ++ body ++ behind) = (h, (wrB h body.length).length, ((wrB h body.length ++ body).length : Int), 0) := by
  rw [ref_eq hz]
  by_cases h3 : h.k = 3
  · have hn := hk h3
    subst hn
    rw [List.append_nil, read_short h body.length body hX h3]; rfl
  · rw [List.append_assoc, read_long h body.length (body ++ behind) hX h3 ⟨by omega, by omega⟩ (by simp; omega)]
    simp only [outP]
    simp

theorem row_keep6 {w4 w6 w7 : World} {B : Nat} {o : Obj} (_hs : w4.heap.size ≤ w6.heap.size) (hb : Below w4.heap.size w6 w7) (h : w6.heap[B]? = some o) (hB : B < w4.heap.size) : w7.heap[B]? = some o := by
  rw [hb.block B hB]; exact h
set_option maxRecDepth 20000 in
set_option maxHeartbeats 8000000 in
theorem hback_walk {w : World} (h : Hv) (body behind : List Int) (a2 : Option Addr) (c2 : Nat) (a3 : Option Addr) (c3 : Nat) (a4 : Option Addr) (c4 : Nat) (a5 : Option Addr) (c5 : Nat) (a6 : Option Addr) (c6 : Nat) (hr : Hr w h (.slice a2 h.to.length c2) (.slice a3 h.fr.length c3) (.slice a4 h.tk.length c4)) (hb5 : Rd w (.slice a5 body.length c5) body) (hb6 : Rd w (.slice a6 behind.length c6) behind) (ht : Tab w) (hw : 1 < w.heap.size) :
    Calls Tryd.prog 6 #[.agg #[.int .i64 h.k, .int .i64 h.v, .slice a2 h.to.length c2, .slice a3 h.fr.length c3, .slice a4 h.tk.length c4, .int .i64 h.p, .int .i64 h.n, .int .i64 h.w], .slice a5 body.length c5, .slice a6 behind.length c6] w fun e w' => e = .returned (.bool true) ∧ Below w.heap.size w w' := by
  have hB := below_alloc w (.cells #[.int .i64 h.k, .int .i64 h.v, .slice a2 h.to.length c2, .slice a3 h.fr.length c3, .slice a4 h.tk.length c4, .int .i64 h.p, .int .i64 h.n, .int .i64 h.w] 24)
  have hbx : (w.alloc (.cells #[.int .i64 h.k, .int .i64 h.v, .slice a2 h.to.length c2, .slice a3 h.fr.length c3, .slice a4 h.tk.length c4, .int .i64 h.p, .int .i64 h.n, .int .i64 h.w] 24)).heap[w.heap.size]? = some (.cells #[.int .i64 h.k, .int .i64 h.v, .slice a2 h.to.length c2, .slice a3 h.fr.length c3, .slice a4 h.tk.length c4, .int .i64 h.p, .int .i64 h.n, .int .i64 h.w] 24 (0, 0)) := heap_alloc_new _ _
  have hL := light_any (w.alloc (.cells #[.int .i64 h.k, .int .i64 h.v, .slice a2 h.to.length c2, .slice a3 h.fr.length c3, .slice a4 h.tk.length c4, .int .i64 h.p, .int .i64 h.n, .int .i64 h.w] 24)) h a2 c2 a3 c3 a4 c4 hr.to.len hr.fr.len hr.tk.len
  have hm5 := hb5.len
  have hm6 := hb6.len
  by_cases hl : lightB h = true
  · obtain ⟨l2, l3, l4⟩ := light_len hl
    rw [hl] at hL
    by_cases h5 : body.length ≤ 300
    · have d5 : decide (300 < (body.length : Int)) = false := decide_eq_false (by omega)
      by_cases h6 : behind.length ≤ 300
      · have d6 : decide (300 < (behind.length : Int)) = false := decide_eq_false (by omega)
        have HR := Lib.hid hr
        have HTB := Lib.hid ht
        have HSW := Lib.hid hw
        have HR5 := Lib.hid hb5
        have HR6 := Lib.hid hb6
        clear hl hr ht hw hb5 hb6 hm5 hm6
        go_enter Tryd.func6, Tryd.ntmps6
        go_wp2_with fail
        refine hL.mono ?_
        rintro e w1 ⟨rfl, hb1⟩
        have HX1 := Lib.hid (row_below hb1 hbx)
        obtain ⟨x0, x1, x2, x3, x4, x5, x6, x7⟩ := cells8 HX1.out
        have HB1 := Lib.hid (hB.trans (hb1.mono hB.size))
        clear hL hb1 hB hbx
        go_wp2_with fail
        refine (of_any h (HR.out.below HB1.out) l2 l3 l4).mono ?_
        rintro e w2 ⟨ut, uf, uk, rfl, hr2, hb2⟩
        obtain ⟨b2, d2, rfl⟩ := Rd.shape hr2.to
        obtain ⟨b3, d3, rfl⟩ := Rd.shape hr2.fr
        obtain ⟨b4, d4, rfl⟩ := Rd.shape hr2.tk
        unfold hcells
        have HX2 := Lib.hid (row_below hb2 HX1.out)
        have HB2 := Lib.hid (HB1.out.trans (hb2.mono HB1.out.size))
        have HS1 : Hid (1 < w2.heap.size) := Lib.hid (by have := HSW.out; have := HB2.out.size; omega)
        have HR2 := Lib.hid hr2
        clear x0 x1 x2 x3 x4 x5 x6 x7 hb2 hr2
        by_cases hX : rightB h = true
        · have hW := write_yes w2 h body.length b2 d2 b3 d3 b4 d4 HR2.out hX ⟨by omega, by omega⟩ (HTB.out.below HB2.out) HS1.out
          have HBY := Lib.hid (wrB_byt (n := (body.length : Int)) HR.out hX)
          have HX := Lib.hid hX
          have hpos := wrB_pos h body.length
          have hle := wrB_le (n := (body.length : Int)) hX l2 l3 l4
          clear hX
          go_wp2_with fail
          refine hW.mono ?_
          rintro e w4 ⟨v4, rfl, hown4, hb4⟩
          have HX4 := Lib.hid (row_below hb4 HX2.out)
          have HB4 := Lib.hid (HB2.out.trans (hb4.mono HB2.out.size))
          obtain ⟨g, cap, rfl, hlc, hcm⟩ := Rd.pos hown4 hpos
          have hrd := (Rd.of_own hown4 HBY.out).1
          generalize hWB : wrB h body.length = Z at *
          have HWB := Lib.hid hWB
          have HRD := Lib.hid hrd
          have hO := own_fresh w4 5
          have hR := hrd.alloc (.cells #[] 5)
          have hl' : 0 + Z.length ≤ 140737488355328 := by omega
          have hs : w4.heap.size ≤ (w4.alloc (.cells #[] 5)).heap.size := by simp
          have hne : ((Z.length : Int) == 0) = false := by rw [beq_eq_false_iff_ne]; omega
          have hl2' : Z.length + body.length ≤ 140737488355328 := by omega
          have hB5 := below_alloc w4 (.cells #[] 5)
          have HLT : Hid (w.heap.size < w4.heap.size) := Lib.hid (by have := (Array.getElem?_eq_some_iff.1 HX4.out).1; exact this)
          clear hW hown4 hb4 hrd hWB hlc hcm
          by_cases hk3 : h.k = 3
          · have e3 : (h.k != 3) = false := by simp [hk3]
            have e4 : (h.k == 3) = true := by simp [hk3]
            have HK3 := Lib.hid hk3
            clear hk3
            go_wp2_with (first
              | (at_builtin; refine wpList_append_bytes (.tmp 36) (.tmp 37) 22 rfl rfl info5 Tryd.underlying22 w4.heap.size _ 0 [] rfl hO _ Z rfl hR hl' hs ?_; intro v5 w5 hown5 hb5; simp only [List.nil_append, Nat.zero_add] at hown5; have HBx := Lib.hid ((HB4.out.trans (hB5.mono HB4.out.size)).trans (hb5.mono HB4.out.size)); have hs5 : w4.heap.size ≤ w5.heap.size := Nat.le_trans hs hb5.size; have hb45 := hB5.trans hb5; clear hO hR hb5 hB5)
              | (at_builtin; refine wpList_append_bytes (.tmp 38) (.tmp 39) 22 rfl rfl info5 Tryd.underlying22 w4.heap.size _ Z.length Z rfl hown5 _ body rfl (HR5.out.below HBx.out) hl2' hs5 ?_; intro v6 w6 hown6 hb6; have HB6 := Lib.hid (HBx.out.trans (hb6.mono HB4.out.size)); have hb46 := hb45.trans hb6; have hs6 : w4.heap.size ≤ w6.heap.size := hb46.size; have hzl : Z.length + body.length = (Z ++ body).length := (by simp); rw [hzl] at hown6; generalize hZB : Z ++ body = ZB at *; have HZB := Lib.hid hZB; have hzb1 : ZB.length ≤ 5300 := (by omega); have hzb0 : 0 < ZB.length := (by omega); obtain ⟨g6, cap6, rfl, hlc6, hcm6⟩ := Rd.pos hown6 hzb0; have HX6 := Lib.hid (row_below hb46 HX4.out); have HXZ := HX6; obtain ⟨x0, x1, x2, x3, x4, x5, x6, x7⟩ := cells8 HXZ.out; clear hown5 hb6 hs5 hb45 hZB hzl hb46))
            have hbyt : Byt ZB := by rw [← HZB.out]; exact HBY.out.app HR5.out.byt
            have hrL := (Rd.of_own hown6 hbyt).1
            have hRL : refP ZB = (h, Z.length, (ZB.length : Int), 0) := by
              have := refP_back (h := h) (body := body) (behind := []) HX.out (by omega) (by rw [List.append_nil, HWB.out, HZB.out]; exact hbyt) (fun _ => rfl)
              rw [List.append_nil, HWB.out, HZB.out] at this
              exact this
            have HXL := HX6
            have HBL := HB6
            clear hown6 hs6 x0 x1 x2 x3 x4 x5 x6 x7 HK3
            have HRL := Lib.hid hRL
            have hc := readhead_any hrL (.inr ⟨_, _, _, _, rfl⟩) (by omega)
            rw [hRL] at hc
            clear hRL hrL
            refine hc.mono ?_
            rintro e w8 ⟨vt, vf, vk, rfl, hh, hb8⟩
            obtain ⟨p1, n1, q1, rfl⟩ := hh.to.shape3
            obtain ⟨p2, n2, q2, rfl⟩ := hh.fr.shape3
            obtain ⟨p3, n3, q3, rfl⟩ := hh.tk.shape3
            simp only at hh
            have hX8 := row_below hb8 HXL.out
            have HB8 := Lib.hid (HBL.out.trans (hb8.mono HBL.out.size))
            have hall := below_alloc w8 (.cells #[.int .i64 h.k, .int .i64 h.v, .slice p1 n1 q1, .slice p2 n2 q2, .slice p3 n3 q3, .int .i64 h.p, .int .i64 h.n, .int .i64 h.w] 26)
            have hX9 := row_below hall hX8
            have HB9 := Lib.hid (HB8.out.trans (hall.mono HB8.out.size))
            have htold := told_true h (hh.below hall) (HR.out.below HB9.out)
            obtain ⟨x0, x1, x2, x3, x4, x5, x6, x7⟩ := cells8 hX9
            have hes := eq_self
            unfold hcells at *
            clear hc hh hb8 hall hX8 hX9
            go_wp2_with fail
            refine htold.mono ?_
            rintro e w10 ⟨rfl, hb10⟩
            have HB10 := Lib.hid (HB9.out.trans (hb10.mono HB9.out.size))
            clear htold hb10 x0 x1 x2 x3 x4 x5 x6 x7
            go_wp2_with fail
            refine (hawake_any w10).mono ?_
            rintro e w11 ⟨rfl, hb11⟩
            go_wp2_with fail
            go_ret
            exact ⟨rfl, HB10.out.trans (hb11.mono HB10.out.size)⟩
          · have e3 : (h.k != 3) = true := by simp [hk3]
            have e4 : (h.k == 3) = false := by simp [hk3]
            have HK3 := Lib.hid hk3
            clear hk3
            go_wp2_with (first
              | (at_builtin; refine wpList_append_bytes (.tmp 36) (.tmp 37) 22 rfl rfl info5 Tryd.underlying22 w4.heap.size _ 0 [] rfl hO _ Z rfl hR hl' hs ?_; intro v5 w5 hown5 hb5; simp only [List.nil_append, Nat.zero_add] at hown5; have HBx := Lib.hid ((HB4.out.trans (hB5.mono HB4.out.size)).trans (hb5.mono HB4.out.size)); have hs5 : w4.heap.size ≤ w5.heap.size := Nat.le_trans hs hb5.size; have hb45 := hB5.trans hb5; clear hO hR hb5 hB5)
              | (at_builtin; refine wpList_append_bytes (.tmp 38) (.tmp 39) 22 rfl rfl info5 Tryd.underlying22 w4.heap.size _ Z.length Z rfl hown5 _ body rfl (HR5.out.below HBx.out) hl2' hs5 ?_; intro v6 w6 hown6 hb6; have HB6 := Lib.hid (HBx.out.trans (hb6.mono HB4.out.size)); have hb46 := hb45.trans hb6; have hs6 : w4.heap.size ≤ w6.heap.size := hb46.size; have hzl : Z.length + body.length = (Z ++ body).length := (by simp); rw [hzl] at hown6; generalize hZB : Z ++ body = ZB at *; have HZB := Lib.hid hZB; have hzb1 : ZB.length ≤ 5300 := (by omega); have hzb0 : 0 < ZB.length := (by omega); obtain ⟨g6, cap6, rfl, hlc6, hcm6⟩ := Rd.pos hown6 hzb0; have HX6 := Lib.hid (row_below hb46 HX4.out); have HXZ := HX6; obtain ⟨x0, x1, x2, x3, x4, x5, x6, x7⟩ := cells8 HXZ.out; clear hown5 hb6 hs5 hb45 hZB hzl hb46)
              | (at_builtin; refine wpList_append_bytes (.tmp 46) (.tmp 47) 22 rfl rfl info5 Tryd.underlying22 w4.heap.size _ ZB.length ZB rfl hown6 _ behind rfl (HR6.out.below HB6.out) (by omega) hs6 ?_; intro v7 w7 hown7 hb7; have HBL := Lib.hid (HB6.out.trans (hb7.mono HB4.out.size)); have hzl : ZB.length + behind.length = (ZB ++ behind).length := (by simp); rw [hzl] at hown7; generalize hL : ZB ++ behind = L at *; have HL := Lib.hid hL; have hL1 : L.length ≤ 5600 := (by omega); have hL0 : 0 < L.length := (by omega); obtain ⟨g7, cap7, rfl, hlc7, hcm7⟩ := Rd.pos hown7 hL0; have HXL := Lib.hid (row_keep6 hs6 hb7 HX6.out HLT.out); clear hb7 hzl hL x0 x1 x2 x3 x4 x5 x6 x7))
            have hbyt : Byt L := by rw [← HL.out, ← HZB.out]; exact (HBY.out.app HR5.out.byt).app HR6.out.byt
            have hrL := (Rd.of_own hown7 hbyt).1
            have hRL : refP L = (h, Z.length, (ZB.length : Int), 0) := by
              have := refP_back (h := h) (body := body) (behind := behind) HX.out (by omega) (by rw [HWB.out, HZB.out, HL.out]; exact hbyt) (fun h => absurd h HK3.out)
              rw [HWB.out, HZB.out, HL.out] at this
              exact this
            clear hown6 hown7 hs6
            have HRL := Lib.hid hRL
            have hc := readhead_any hrL (.inr ⟨_, _, _, _, rfl⟩) (by omega)
            rw [hRL] at hc
            clear hRL hrL
            refine hc.mono ?_
            rintro e w8 ⟨vt, vf, vk, rfl, hh, hb8⟩
            obtain ⟨p1, n1, q1, rfl⟩ := hh.to.shape3
            obtain ⟨p2, n2, q2, rfl⟩ := hh.fr.shape3
            obtain ⟨p3, n3, q3, rfl⟩ := hh.tk.shape3
            simp only at hh
            have hX8 := row_below hb8 HXL.out
            have HB8 := Lib.hid (HBL.out.trans (hb8.mono HBL.out.size))
            have hall := below_alloc w8 (.cells #[.int .i64 h.k, .int .i64 h.v, .slice p1 n1 q1, .slice p2 n2 q2, .slice p3 n3 q3, .int .i64 h.p, .int .i64 h.n, .int .i64 h.w] 26)
            have hX9 := row_below hall hX8
            have HB9 := Lib.hid (HB8.out.trans (hall.mono HB8.out.size))
            have htold := told_true h (hh.below hall) (HR.out.below HB9.out)
            obtain ⟨x0, x1, x2, x3, x4, x5, x6, x7⟩ := cells8 hX9
            have hes := eq_self
            unfold hcells at *
            clear hc hh hb8 hall hX8 hX9
            go_wp2_with fail
            refine htold.mono ?_
            rintro e w10 ⟨rfl, hb10⟩
            have HB10 := Lib.hid (HB9.out.trans (hb10.mono HB9.out.size))
            clear htold hb10 x0 x1 x2 x3 x4 x5 x6 x7
            go_wp2_with fail
            refine (hawake_any w10).mono ?_
            rintro e w11 ⟨rfl, hb11⟩
            go_wp2_with fail
            go_ret
            exact ⟨rfl, HB10.out.trans (hb11.mono HB10.out.size)⟩
        · have hX' : rightB h = false := by simpa using hX
          have hW := write_none w2 h body.length b2 d2 b3 d3 b4 d4 l2 l3 l4 (.inl hX')
          clear hX hX'
          go_wp2_with fail
          refine hW.mono ?_
          rintro e w4 ⟨rfl, hb4⟩
          have HB4 := Lib.hid (HB2.out.trans (hb4.mono HB2.out.size))
          clear hW hb4
          go_wp2_with fail
          refine (hawake_any _).mono ?_
          rintro e w8 ⟨rfl, hb8⟩
          go_wp2_with fail
          go_ret
          exact ⟨rfl, HB4.out.trans (hb8.mono HB4.out.size)⟩
      · have d6 : decide (300 < (behind.length : Int)) = true := decide_eq_true (by omega)
        clear hl hr ht hw hb5 hb6 hbx
        go_enter Tryd.func6, Tryd.ntmps6
        go_wp2_with fail
        refine hL.mono ?_
        rintro e w1 ⟨rfl, hb1⟩
        go_wp2_with fail
        go_ret
        exact ⟨rfl, hB.trans (hb1.mono hB.size)⟩
    · have d5 : decide (300 < (body.length : Int)) = true := decide_eq_true (by omega)
      clear hl hr ht hw hb5 hb6 hbx
      go_enter Tryd.func6, Tryd.ntmps6
      go_wp2_with fail
      refine hL.mono ?_
      rintro e w1 ⟨rfl, hb1⟩
      go_wp2_with fail
      go_ret
      exact ⟨rfl, hB.trans (hb1.mono hB.size)⟩
  · have hl' : lightB h = false := by simpa using hl
    rw [hl'] at hL
    clear hl hl' hr ht hw hb5 hb6 hbx
    go_enter Tryd.func6, Tryd.ntmps6
    go_wp2_with fail
    refine hL.mono ?_
    rintro e w1 ⟨rfl, hb1⟩
    go_wp2_with fail
    go_ret
    exact ⟨rfl, hB.trans (hb1.mono hB.size)⟩
#print axioms hback_walk
end Go.Proofs.YtnnllnbegmdfaaaDoor
