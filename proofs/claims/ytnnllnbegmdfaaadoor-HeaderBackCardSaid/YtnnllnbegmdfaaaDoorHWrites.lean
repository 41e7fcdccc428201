/- HeaderWrites' walk: may any header be, and its bytes: both sides tell the same. -/
import Derived.Test.YtnnllnbegmdfaaaDoorOf
import Derived.Test.YtnnllnbegmdfaaaDoorHRefR
import Derived.Test.YtnnllnbegmdfaaaDoorHRefW
import Derived.Test.YtnnllnbegmdfaaaDoorHAwake
namespace Go.Proofs.YtnnllnbegmdfaaaDoor
open Go Go.RowKit

theorem cells8 {w : World} {B : Nat} {c0 c1 c2 c3 c4 c5 c6 c7 : Value} {T : TypeId} (h : w.heap[B]? = some (.cells #[c0, c1, c2, c3, c4, c5, c6, c7] T (0, 0))) :
    w.cell? ⟨B, 0, none⟩ = some c0 ∧ w.cell? ⟨B, 1, none⟩ = some c1 ∧ w.cell? ⟨B, 2, none⟩ = some c2 ∧ w.cell? ⟨B, 3, none⟩ = some c3 ∧ w.cell? ⟨B, 4, none⟩ = some c4 ∧ w.cell? ⟨B, 5, none⟩ = some c5 ∧ w.cell? ⟨B, 6, none⟩ = some c6 ∧ w.cell? ⟨B, 7, none⟩ = some c7 :=
  ⟨(cell_of_row _ B 0 _ T (0, 0) h).trans rfl, (cell_of_row _ B 1 _ T (0, 0) h).trans rfl, (cell_of_row _ B 2 _ T (0, 0) h).trans rfl, (cell_of_row _ B 3 _ T (0, 0) h).trans rfl, (cell_of_row _ B 4 _ T (0, 0) h).trans rfl, (cell_of_row _ B 5 _ T (0, 0) h).trans rfl, (cell_of_row _ B 6 _ T (0, 0) h).trans rfl, (cell_of_row _ B 7 _ T (0, 0) h).trans rfl⟩
theorem row_below {w w' : World} {B : Nat} {o : Obj} (hb : Below w.heap.size w w') (h : w.heap[B]? = some o) : w'.heap[B]? = some o := by
  rw [hb.block B (Array.getElem?_eq_some_iff.1 h).1]; exact h
theorem keep16 {w w' : World} {A B : Nat} {v0 v1 v2 v3 v4 v5 v6 v7 v8 v9 v10 v11 v12 v13 v14 v15 : Value} (hb : Below w.heap.size w w') (h : w.cell? ⟨A, 0, none⟩ = some v0 ∧ w.cell? ⟨A, 1, none⟩ = some v1 ∧ w.cell? ⟨A, 2, none⟩ = some v2 ∧ w.cell? ⟨A, 3, none⟩ = some v3 ∧ w.cell? ⟨A, 4, none⟩ = some v4 ∧ w.cell? ⟨A, 5, none⟩ = some v5 ∧ w.cell? ⟨A, 6, none⟩ = some v6 ∧ w.cell? ⟨A, 7, none⟩ = some v7 ∧ w.cell? ⟨B, 0, none⟩ = some v8 ∧ w.cell? ⟨B, 1, none⟩ = some v9 ∧ w.cell? ⟨B, 2, none⟩ = some v10 ∧ w.cell? ⟨B, 3, none⟩ = some v11 ∧ w.cell? ⟨B, 4, none⟩ = some v12 ∧ w.cell? ⟨B, 5, none⟩ = some v13 ∧ w.cell? ⟨B, 6, none⟩ = some v14 ∧ w.cell? ⟨B, 7, none⟩ = some v15) : w'.cell? ⟨A, 0, none⟩ = some v0 ∧ w'.cell? ⟨A, 1, none⟩ = some v1 ∧ w'.cell? ⟨A, 2, none⟩ = some v2 ∧ w'.cell? ⟨A, 3, none⟩ = some v3 ∧ w'.cell? ⟨A, 4, none⟩ = some v4 ∧ w'.cell? ⟨A, 5, none⟩ = some v5 ∧ w'.cell? ⟨A, 6, none⟩ = some v6 ∧ w'.cell? ⟨A, 7, none⟩ = some v7 ∧ w'.cell? ⟨B, 0, none⟩ = some v8 ∧ w'.cell? ⟨B, 1, none⟩ = some v9 ∧ w'.cell? ⟨B, 2, none⟩ = some v10 ∧ w'.cell? ⟨B, 3, none⟩ = some v11 ∧ w'.cell? ⟨B, 4, none⟩ = some v12 ∧ w'.cell? ⟨B, 5, none⟩ = some v13 ∧ w'.cell? ⟨B, 6, none⟩ = some v14 ∧ w'.cell? ⟨B, 7, none⟩ = some v15 := by
  obtain ⟨h0, h1, h2, h3, h4, h5, h6, h7, h8, h9, h10, h11, h12, h13, h14, h15⟩ := h
  exact ⟨keepS hb h0, keepS hb h1, keepS hb h2, keepS hb h3, keepS hb h4, keepS hb h5, keepS hb h6, keepS hb h7, keepS hb h8, keepS hb h9, keepS hb h10, keepS hb h11, keepS hb h12, keepS hb h13, keepS hb h14, keepS hb h15⟩
theorem light_len {h : Hv} (h1 : lightB h = true) : h.to.length ≤ 1000 ∧ h.fr.length ≤ 1000 ∧ h.tk.length ≤ 1000 := by
  unfold lightB at h1
  simp only [Bool.and_eq_true, decide_eq_true_eq] at h1
  omega
theorem right_kind {h : Hv} (hX : rightB h = true) : h.k = 3 ∨ h.k = 0 ∨ h.k = 1 ∨ h.k = 2 := by
  unfold rightB at hX
  by_cases h0 : h.k = 0
  · exact .inr (.inl h0)
  · rw [if_neg h0] at hX
    by_cases h1 : h.k = 1 ∨ h.k = 2
    · exact .inr (.inr h1)
    · rw [if_neg h1] at hX
      by_cases h3 : h.k = 3
      · exact .inl h3
      · rw [if_neg h3] at hX; cases hX
theorem write_yes (w : World) (h : Hv) (n : Int) (a2 : Option Addr) (c2 : Nat) (a3 : Option Addr) (c3 : Nat) (a4 : Option Addr) (c4 : Nat) (hr : Hr w h (.slice a2 h.to.length c2) (.slice a3 h.fr.length c3) (.slice a4 h.tk.length c4)) (hX : rightB h = true) (hn : 0 ≤ n ∧ n ≤ 16384) (ht : Tab w) (hw : 1 < w.heap.size) :
    Calls Tryd.prog 11 #[.agg #[.int .i64 h.k, .int .i64 h.v, .slice a2 h.to.length c2, .slice a3 h.fr.length c3, .slice a4 h.tk.length c4, .int .i64 h.p, .int .i64 h.n, .int .i64 h.w], .int .i64 n] w fun e w' => ∃ v', e = .returned v' ∧ w'.ownsRow w.heap.size 5 1 v' (wrB h n).length (by8 (wrB h n)) ∧ Below w.heap.size w w' := by
  rcases right_kind hX with hk | hk
  · exact write_short w h n a2 c2 a3 c3 a4 c4 hr hX hk hn
  · exact write_long w h n a2 c2 a3 c3 a4 c4 hr hX hk hn ht hw
theorem refwrite_yes (w : World) (h : Hv) (n : Int) (a2 : Option Addr) (c2 : Nat) (a3 : Option Addr) (c3 : Nat) (a4 : Option Addr) (c4 : Nat) (hr : Hr w h (.slice a2 h.to.length c2) (.slice a3 h.fr.length c3) (.slice a4 h.tk.length c4)) (hX : rightB h = true) (hn : 0 ≤ n ∧ n ≤ 16384) :
    Calls Tryd.prog 16 #[.agg #[.int .i64 h.k, .int .i64 h.v, .slice a2 h.to.length c2, .slice a3 h.fr.length c3, .slice a4 h.tk.length c4, .int .i64 h.p, .int .i64 h.n, .int .i64 h.w], .int .i64 n] w fun e w' => ∃ v', e = .returned v' ∧ w'.ownsRow w.heap.size 5 1 v' (wrB h n).length (by8 (wrB h n)) ∧ Below w.heap.size w w' := by
  rcases right_kind hX with hk | hk
  · exact refwrite_short w h n a2 c2 a3 c3 a4 c4 hr hX hk
  · exact refwrite_long w h n a2 c2 a3 c3 a4 c4 hr hX hk hn
theorem wrB_byt {h : Hv} {n : Int} {w : World} {vt vf vk : Value} (hr : Hr w h vt vf vk) (hX : rightB h = true) : Byt (wrB h n) := by
  have hnum : numB h = true := by
    cases hb : numB h with
    | true => rfl
    | false =>
      unfold rightB longB shortB at hX
      rw [hb] at hX
      simp at hX
  unfold numB at hnum
  simp only [Bool.and_eq_true, decide_eq_true_eq] at hnum
  unfold wrB
  rcases right_kind hX with hk | hk
  · rw [if_pos hk]
    have hp : 0 ≤ h.p ∧ h.p ≤ 1 := by
      unfold rightB shortB at hX
      rw [if_neg (by omega), if_neg (by omega), if_pos hk] at hX
      simp only [Bool.and_eq_true, Bool.or_eq_true, decide_eq_true_eq] at hX
      omega
    exact ((byt1 (by omega)).app hr.to.byt).app (big_byt _ _)
  · rw [if_neg (by omega)]
    have hl : h.to.length ≤ 20 ∧ h.fr.length ≤ 20 := by
      unfold rightB longB at hX
      rcases hk with hk | hk | hk
      · rw [if_pos hk] at hX; simp only [Bool.and_eq_true, decide_eq_true_eq] at hX; omega
      · rw [if_neg (by omega), if_pos (.inl hk)] at hX; simp only [Bool.and_eq_true, decide_eq_true_eq] at hX; omega
      · rw [if_neg (by omega), if_pos (.inr hk)] at hX; simp only [Bool.and_eq_true, decide_eq_true_eq] at hX; omega
    have hmid : Byt (if h.k = 0 then enc h.tk.length ++ h.tk else []) := by
      split
      · exact (enc_byt _).app hr.tk.byt
      · exact Byt.nil
    exact ((((((((byt1 (by omega)).app (big_byt _ _)).app (byt1 (by omega))).app hr.to.byt).app (byt1 (by omega))).app hr.fr.byt).app hmid).app (enc_byt _)).app (big_byt _ _)

set_option maxRecDepth 20000 in
set_option maxHeartbeats 8000000 in
theorem hwrites_walk {w : World} (h : Hv) (n : Int) (a2 : Option Addr) (c2 : Nat) (a3 : Option Addr) (c3 : Nat) (a4 : Option Addr) (c4 : Nat) (hr : Hr w h (.slice a2 h.to.length c2) (.slice a3 h.fr.length c3) (.slice a4 h.tk.length c4)) (ht : Tab w) (hw : 1 < w.heap.size) :
    Calls Tryd.prog 3 #[.agg #[.int .i64 h.k, .int .i64 h.v, .slice a2 h.to.length c2, .slice a3 h.fr.length c3, .slice a4 h.tk.length c4, .int .i64 h.p, .int .i64 h.n, .int .i64 h.w], .int .i64 n] w fun e w' => e = .returned (.bool true) ∧ Below w.heap.size w w' := by
  have hB := below_alloc w (.cells #[.int .i64 h.k, .int .i64 h.v, .slice a2 h.to.length c2, .slice a3 h.fr.length c3, .slice a4 h.tk.length c4, .int .i64 h.p, .int .i64 h.n, .int .i64 h.w] 24)
  have hbx : (w.alloc (.cells #[.int .i64 h.k, .int .i64 h.v, .slice a2 h.to.length c2, .slice a3 h.fr.length c3, .slice a4 h.tk.length c4, .int .i64 h.p, .int .i64 h.n, .int .i64 h.w] 24)).heap[w.heap.size]? = some (.cells #[.int .i64 h.k, .int .i64 h.v, .slice a2 h.to.length c2, .slice a3 h.fr.length c3, .slice a4 h.tk.length c4, .int .i64 h.p, .int .i64 h.n, .int .i64 h.w] 24 (0, 0)) := heap_alloc_new _ _
  have hL := light_any (w.alloc (.cells #[.int .i64 h.k, .int .i64 h.v, .slice a2 h.to.length c2, .slice a3 h.fr.length c3, .slice a4 h.tk.length c4, .int .i64 h.p, .int .i64 h.n, .int .i64 h.w] 24)) h a2 c2 a3 c3 a4 c4 hr.to.len hr.fr.len hr.tk.len
  by_cases hl : lightB h = true
  · obtain ⟨l2, l3, l4⟩ := light_len hl
    rw [hl] at hL
    have HR := Lib.hid hr
    have HTB := Lib.hid ht
    have HSW := Lib.hid hw
    clear hl hr ht hw
    go_enter Tryd.func3, Tryd.ntmps3
    go_wp2_with fail
    refine hL.mono ?_
    rintro e w1 ⟨rfl, hb1⟩
    have HX1 := Lib.hid (row_below hb1 hbx)
    obtain ⟨x0, x1, x2, x3, x4, x5, x6, x7⟩ := cells8 HX1.out
    have HB1 := Lib.hid (hB.trans (hb1.mono hB.size))
    clear hL hb1 hB hbx
    go_wp2_with fail
    refine (of_any h (HR.out.below HB1.out) l2 l3 l4).mono ?_
    rintro e w2 ⟨ut, uf, uk, rfl, hr2, hb2⟩
    obtain ⟨b2, d2, rfl⟩ := Rd.shape hr2.to
    obtain ⟨b3, d3, rfl⟩ := Rd.shape hr2.fr
    obtain ⟨b4, d4, rfl⟩ := Rd.shape hr2.tk
    unfold hcells
    have HX2 := Lib.hid (row_below hb2 HX1.out)
    have HB2 := Lib.hid (HB1.out.trans (hb2.mono HB1.out.size))
    have HR2 := Lib.hid hr2
    clear x0 x1 x2 x3 x4 x5 x6 x7 hb2 hr2
    have HX3 := Lib.hid (row_below (below_alloc w2 (.cells #[.int .i64 h.k, .int .i64 h.v, .slice b2 h.to.length d2, .slice b3 h.fr.length d3, .slice b4 h.tk.length d4, .int .i64 h.p, .int .i64 h.n, .int .i64 h.w] 26)) HX2.out)
    have HZ3 := Lib.hid (heap_alloc_new w2 (.cells #[.int .i64 h.k, .int .i64 h.v, .slice b2 h.to.length d2, .slice b3 h.fr.length d3, .slice b4 h.tk.length d4, .int .i64 h.p, .int .i64 h.n, .int .i64 h.w] 26))
    have HB3 := Lib.hid (HB2.out.trans ((below_alloc w2 (.cells #[.int .i64 h.k, .int .i64 h.v, .slice b2 h.to.length d2, .slice b3 h.fr.length d3, .slice b4 h.tk.length d4, .int .i64 h.p, .int .i64 h.n, .int .i64 h.w] 26)).mono HB2.out.size))
    have HR3 := Lib.hid (HR2.out.below (below_alloc w2 (.cells #[.int .i64 h.k, .int .i64 h.v, .slice b2 h.to.length d2, .slice b3 h.fr.length d3, .slice b4 h.tk.length d4, .int .i64 h.p, .int .i64 h.n, .int .i64 h.w] 26)))
    obtain ⟨z0, z1, z2, z3, z4, z5, z6, z7⟩ := cells8 HZ3.out
    have HS1 : Hid (1 < (w2.alloc (.cells #[.int .i64 h.k, .int .i64 h.v, .slice b2 h.to.length d2, .slice b3 h.fr.length d3, .slice b4 h.tk.length d4, .int .i64 h.p, .int .i64 h.n, .int .i64 h.w] 26)).heap.size) := Lib.hid (by have := HSW.out; have := HB2.out.size; simp; omega)
    by_cases hX : rightB h = true
    · by_cases hn : 0 ≤ n ∧ n ≤ 16384
      · have hn0 : decide (n < 0) = false := decide_eq_false (by omega)
        have hn1 : decide (16384 < n) = false := decide_eq_false (by omega)
        have hW := write_yes (w2.alloc (.cells #[.int .i64 h.k, .int .i64 h.v, .slice b2 h.to.length d2, .slice b3 h.fr.length d3, .slice b4 h.tk.length d4, .int .i64 h.p, .int .i64 h.n, .int .i64 h.w] 26)) h n b2 d2 b3 d3 b4 d4 HR3.out hX hn (HTB.out.below HB3.out) HS1.out
        have HBY := Lib.hid (wrB_byt (n := n) HR.out hX)
        have HX := Lib.hid hX
        have HN := Lib.hid hn
        clear hX hn
        go_wp2_with fail
        refine hW.mono ?_
        rintro e w4 ⟨v4, rfl, hown4, hb4⟩
        have HX4 := Lib.hid (row_below hb4 HX3.out)
        have HZ4 := Lib.hid (row_below hb4 HZ3.out)
        have HB4 := Lib.hid (HB3.out.trans (hb4.mono HB3.out.size))
        have HR4 := Lib.hid (HR3.out.below hb4)
        have HV4 := Lib.hid (Rd.of_own hown4 HBY.out).1
        clear hW hown4 hb4 z0 z1 z2 z3 z4 z5 z6 z7
        go_wp2_with fail
        obtain ⟨x0, x1, x2, x3, x4, x5, x6, x7⟩ := cells8 (w := w4.drew) HX4.out
        obtain ⟨z0, z1, z2, z3, z4, z5, z6, z7⟩ := cells8 (w := w4.drew) HZ4.out
        go_region_held3 (fun w' => w'.cell? ⟨w.heap.size, 0, none⟩ = some (.int .i64 h.k) ∧ w'.cell? ⟨w.heap.size, 1, none⟩ = some (.int .i64 h.v) ∧ w'.cell? ⟨w.heap.size, 2, none⟩ = some (.slice a2 h.to.length c2) ∧ w'.cell? ⟨w.heap.size, 3, none⟩ = some (.slice a3 h.fr.length c3) ∧ w'.cell? ⟨w.heap.size, 4, none⟩ = some (.slice a4 h.tk.length c4) ∧ w'.cell? ⟨w.heap.size, 5, none⟩ = some (.int .i64 h.p) ∧ w'.cell? ⟨w.heap.size, 6, none⟩ = some (.int .i64 h.n) ∧ w'.cell? ⟨w.heap.size, 7, none⟩ = some (.int .i64 h.w) ∧ w'.cell? ⟨w2.heap.size, 0, none⟩ = some (.int .i64 h.k) ∧ w'.cell? ⟨w2.heap.size, 1, none⟩ = some (.int .i64 h.v) ∧ w'.cell? ⟨w2.heap.size, 2, none⟩ = some (.slice b2 h.to.length d2) ∧ w'.cell? ⟨w2.heap.size, 3, none⟩ = some (.slice b3 h.fr.length d3) ∧ w'.cell? ⟨w2.heap.size, 4, none⟩ = some (.slice b4 h.tk.length d4) ∧ w'.cell? ⟨w2.heap.size, 5, none⟩ = some (.int .i64 h.p) ∧ w'.cell? ⟨w2.heap.size, 6, none⟩ = some (.int .i64 h.n) ∧ w'.cell? ⟨w2.heap.size, 7, none⟩ = some (.int .i64 h.w))
          (first | with_reducible exact ⟨x0, x1, x2, x3, x4, x5, x6, x7, z0, z1, z2, z3, z4, z5, z6, z7⟩ | with_reducible exact keep16 hb5 (by assumption) | with_reducible exact keep16 hb6 (by assumption))
          (first
            | (go_at_call 12; refine (right_any _ h b2 d2 b3 d3 b4 d4 l2 l3 l4).mono ?_; rintro e w5 ⟨rfl, hb5⟩)
            | (go_at_call 13; refine (refright_any _ h a2 c2 a3 c3 a4 c4 l2 l3 l4).mono ?_; rintro e w6 ⟨rfl, hb6⟩))
        have HX6 := Lib.hid (row_below hb6 (row_below hb5 (show w4.drew.heap[w.heap.size]? = _ from HX4.out)))
        have HB6 := Lib.hid ((HB4.out.drew.trans (hb5.mono (show w.heap.size ≤ w4.drew.heap.size from HB4.out.size))).trans (hb6.mono (Nat.le_trans (show w.heap.size ≤ w4.drew.heap.size from HB4.out.size) hb5.size)))
        have HV6 := Lib.hid ((HV4.out.drew.below hb5).below hb6)
        have HR6 := Lib.hid (HR.out.below HB6.out)
        have HXB := HX
        rw [HX.out]
        have hne : (true != true) = false := rfl
        clear hb5 hb6 x0 x1 x2 x3 x4 x5 x6 x7 z0 z1 z2 z3 z4 z5 z6 z7
        obtain ⟨x0, x1, x2, x3, x4, x5, x6, x7⟩ := cells8 HX6.out
        go_wp2_with fail
        refine (refright_any _ h a2 c2 a3 c3 a4 c4 l2 l3 l4).mono ?_
        rintro e w7 ⟨rfl, hb7⟩
        rw [HX.out]
        have HX7 := Lib.hid (row_below hb7 HX6.out)
        have HB7 := Lib.hid (HB6.out.trans (hb7.mono HB6.out.size))
        have HV7 := Lib.hid (HV6.out.below hb7)
        have HR7 := Lib.hid (HR.out.below HB7.out)
        clear hb7 x0 x1 x2 x3 x4 x5 x6 x7
        obtain ⟨x0, x1, x2, x3, x4, x5, x6, x7⟩ := cells8 HX7.out
        go_wp2_with fail
        refine (refwrite_yes w7 h n a2 c2 a3 c3 a4 c4 HR7.out HX.out HN.out).mono ?_
        rintro e w8 ⟨v8, rfl, hown8, hb8⟩
        have HW8 := Lib.hid (Rd.of_own hown8 HBY.out).1
        have HV8 := Lib.hid (HV7.out.below hb8)
        have HB8 := Lib.hid (HB7.out.trans (hb8.mono HB7.out.size))
        clear hown8 hb8 x0 x1 x2 x3 x4 x5 x6 x7
        go_wp2_with fail
        refine (same_true HV8.out HW8.out).mono ?_
        rintro e w9 ⟨rfl, hb9⟩
        have HB9 := Lib.hid (HB8.out.trans (hb9.mono HB8.out.size))
        clear hb9
        go_wp2_with fail
        refine (hawake_any w9).mono ?_
        rintro e w10 ⟨rfl, hb10⟩
        go_wp2_with fail
        go_ret
        exact ⟨rfl, HB9.out.trans (hb10.mono HB9.out.size)⟩
      · have hor : n < 0 ∨ 16384 < n := by omega
        have HX := Lib.hid hX
        clear hn
        by_cases hn0' : n < 0
        · have hn0 : decide (n < 0) = true := decide_eq_true hn0'
          clear hX
          have hW := write_none (w2.alloc (.cells #[.int .i64 h.k, .int .i64 h.v, .slice b2 h.to.length d2, .slice b3 h.fr.length d3, .slice b4 h.tk.length d4, .int .i64 h.p, .int .i64 h.n, .int .i64 h.w] 26)) h n b2 d2 b3 d3 b4 d4 l2 l3 l4 (by omega)
          clear hor
          go_wp2_with fail
          refine hW.mono ?_
          rintro e w4 ⟨rfl, hb4⟩
          have HX4 := Lib.hid (row_below hb4 HX3.out)
          have HZ4 := Lib.hid (row_below hb4 HZ3.out)
          have HB4 := Lib.hid (HB3.out.trans (hb4.mono HB3.out.size))
          clear hW hb4 z0 z1 z2 z3 z4 z5 z6 z7
          go_wp2_with fail
          obtain ⟨x0, x1, x2, x3, x4, x5, x6, x7⟩ := cells8 (w := w4.drew) HX4.out
          obtain ⟨z0, z1, z2, z3, z4, z5, z6, z7⟩ := cells8 (w := w4.drew) HZ4.out
          go_region_held3 (fun w' => w'.cell? ⟨w.heap.size, 0, none⟩ = some (.int .i64 h.k) ∧ w'.cell? ⟨w.heap.size, 1, none⟩ = some (.int .i64 h.v) ∧ w'.cell? ⟨w.heap.size, 2, none⟩ = some (.slice a2 h.to.length c2) ∧ w'.cell? ⟨w.heap.size, 3, none⟩ = some (.slice a3 h.fr.length c3) ∧ w'.cell? ⟨w.heap.size, 4, none⟩ = some (.slice a4 h.tk.length c4) ∧ w'.cell? ⟨w.heap.size, 5, none⟩ = some (.int .i64 h.p) ∧ w'.cell? ⟨w.heap.size, 6, none⟩ = some (.int .i64 h.n) ∧ w'.cell? ⟨w.heap.size, 7, none⟩ = some (.int .i64 h.w) ∧ w'.cell? ⟨w2.heap.size, 0, none⟩ = some (.int .i64 h.k) ∧ w'.cell? ⟨w2.heap.size, 1, none⟩ = some (.int .i64 h.v) ∧ w'.cell? ⟨w2.heap.size, 2, none⟩ = some (.slice b2 h.to.length d2) ∧ w'.cell? ⟨w2.heap.size, 3, none⟩ = some (.slice b3 h.fr.length d3) ∧ w'.cell? ⟨w2.heap.size, 4, none⟩ = some (.slice b4 h.tk.length d4) ∧ w'.cell? ⟨w2.heap.size, 5, none⟩ = some (.int .i64 h.p) ∧ w'.cell? ⟨w2.heap.size, 6, none⟩ = some (.int .i64 h.n) ∧ w'.cell? ⟨w2.heap.size, 7, none⟩ = some (.int .i64 h.w))
            (first | with_reducible exact ⟨x0, x1, x2, x3, x4, x5, x6, x7, z0, z1, z2, z3, z4, z5, z6, z7⟩ | with_reducible exact keep16 hb5 (by assumption) | with_reducible exact keep16 hb6 (by assumption))
            (first
              | (go_at_call 12; refine (right_any _ h b2 d2 b3 d3 b4 d4 l2 l3 l4).mono ?_; rintro e w5 ⟨rfl, hb5⟩)
              | (go_at_call 13; refine (refright_any _ h a2 c2 a3 c3 a4 c4 l2 l3 l4).mono ?_; rintro e w6 ⟨rfl, hb6⟩))
          have HX6 := Lib.hid (row_below hb6 (row_below hb5 (show w4.drew.heap[w.heap.size]? = _ from HX4.out)))
          have HB6 := Lib.hid ((HB4.out.drew.trans (hb5.mono (show w.heap.size ≤ w4.drew.heap.size from HB4.out.size))).trans (hb6.mono (Nat.le_trans (show w.heap.size ≤ w4.drew.heap.size from HB4.out.size) hb5.size)))
          rw [HX.out]
          have hne : (true != true) = false := rfl
          clear hb5 hb6 x0 x1 x2 x3 x4 x5 x6 x7 z0 z1 z2 z3 z4 z5 z6 z7
          obtain ⟨x0, x1, x2, x3, x4, x5, x6, x7⟩ := cells8 HX6.out
          go_wp2_with fail
          refine (refright_any _ h a2 c2 a3 c3 a4 c4 l2 l3 l4).mono ?_
          rintro e w7 ⟨rfl, hb7⟩
          rw [HX.out]
          have HB7 := Lib.hid (HB6.out.trans (hb7.mono HB6.out.size))
          clear hb7 x0 x1 x2 x3 x4 x5 x6 x7
          go_wp2_with fail
          refine (hawake_any _).mono ?_
          rintro e w10 ⟨rfl, hb10⟩
          go_wp2_with fail
          go_ret
          exact ⟨rfl, HB7.out.trans (hb10.mono HB7.out.size)⟩
        · have hn1' : 16384 < n := by omega
          have hn0 : decide (n < 0) = false := decide_eq_false hn0'
          have hn1 : decide (16384 < n) = true := decide_eq_true hn1'
          clear hX
          have hW := write_none (w2.alloc (.cells #[.int .i64 h.k, .int .i64 h.v, .slice b2 h.to.length d2, .slice b3 h.fr.length d3, .slice b4 h.tk.length d4, .int .i64 h.p, .int .i64 h.n, .int .i64 h.w] 26)) h n b2 d2 b3 d3 b4 d4 l2 l3 l4 (by omega)
          clear hor
          go_wp2_with fail
          refine hW.mono ?_
          rintro e w4 ⟨rfl, hb4⟩
          have HX4 := Lib.hid (row_below hb4 HX3.out)
          have HZ4 := Lib.hid (row_below hb4 HZ3.out)
          have HB4 := Lib.hid (HB3.out.trans (hb4.mono HB3.out.size))
          clear hW hb4 z0 z1 z2 z3 z4 z5 z6 z7
          go_wp2_with fail
          obtain ⟨x0, x1, x2, x3, x4, x5, x6, x7⟩ := cells8 (w := w4.drew) HX4.out
          obtain ⟨z0, z1, z2, z3, z4, z5, z6, z7⟩ := cells8 (w := w4.drew) HZ4.out
          go_region_held3 (fun w' => w'.cell? ⟨w.heap.size, 0, none⟩ = some (.int .i64 h.k) ∧ w'.cell? ⟨w.heap.size, 1, none⟩ = some (.int .i64 h.v) ∧ w'.cell? ⟨w.heap.size, 2, none⟩ = some (.slice a2 h.to.length c2) ∧ w'.cell? ⟨w.heap.size, 3, none⟩ = some (.slice a3 h.fr.length c3) ∧ w'.cell? ⟨w.heap.size, 4, none⟩ = some (.slice a4 h.tk.length c4) ∧ w'.cell? ⟨w.heap.size, 5, none⟩ = some (.int .i64 h.p) ∧ w'.cell? ⟨w.heap.size, 6, none⟩ = some (.int .i64 h.n) ∧ w'.cell? ⟨w.heap.size, 7, none⟩ = some (.int .i64 h.w) ∧ w'.cell? ⟨w2.heap.size, 0, none⟩ = some (.int .i64 h.k) ∧ w'.cell? ⟨w2.heap.size, 1, none⟩ = some (.int .i64 h.v) ∧ w'.cell? ⟨w2.heap.size, 2, none⟩ = some (.slice b2 h.to.length d2) ∧ w'.cell? ⟨w2.heap.size, 3, none⟩ = some (.slice b3 h.fr.length d3) ∧ w'.cell? ⟨w2.heap.size, 4, none⟩ = some (.slice b4 h.tk.length d4) ∧ w'.cell? ⟨w2.heap.size, 5, none⟩ = some (.int .i64 h.p) ∧ w'.cell? ⟨w2.heap.size, 6, none⟩ = some (.int .i64 h.n) ∧ w'.cell? ⟨w2.heap.size, 7, none⟩ = some (.int .i64 h.w))
            (first | with_reducible exact ⟨x0, x1, x2, x3, x4, x5, x6, x7, z0, z1, z2, z3, z4, z5, z6, z7⟩ | with_reducible exact keep16 hb5 (by assumption) | with_reducible exact keep16 hb6 (by assumption))
            (first
              | (go_at_call 12; refine (right_any _ h b2 d2 b3 d3 b4 d4 l2 l3 l4).mono ?_; rintro e w5 ⟨rfl, hb5⟩)
              | (go_at_call 13; refine (refright_any _ h a2 c2 a3 c3 a4 c4 l2 l3 l4).mono ?_; rintro e w6 ⟨rfl, hb6⟩))
          have HX6 := Lib.hid (row_below hb6 (row_below hb5 (show w4.drew.heap[w.heap.size]? = _ from HX4.out)))
          have HB6 := Lib.hid ((HB4.out.drew.trans (hb5.mono (show w.heap.size ≤ w4.drew.heap.size from HB4.out.size))).trans (hb6.mono (Nat.le_trans (show w.heap.size ≤ w4.drew.heap.size from HB4.out.size) hb5.size)))
          rw [HX.out]
          have hne : (true != true) = false := rfl
          clear hb5 hb6 x0 x1 x2 x3 x4 x5 x6 x7 z0 z1 z2 z3 z4 z5 z6 z7
          obtain ⟨x0, x1, x2, x3, x4, x5, x6, x7⟩ := cells8 HX6.out
          go_wp2_with fail
          refine (refright_any _ h a2 c2 a3 c3 a4 c4 l2 l3 l4).mono ?_
          rintro e w7 ⟨rfl, hb7⟩
          rw [HX.out]
          have HB7 := Lib.hid (HB6.out.trans (hb7.mono HB6.out.size))
          clear hb7 x0 x1 x2 x3 x4 x5 x6 x7
          go_wp2_with fail
          refine (hawake_any _).mono ?_
          rintro e w10 ⟨rfl, hb10⟩
          go_wp2_with fail
          go_ret
          exact ⟨rfl, HB7.out.trans (hb10.mono HB7.out.size)⟩
    · have hX9 : rightB h = false := by simpa using hX
      have HX := Lib.hid hX9
      clear hX
      have hW := write_none (w2.alloc (.cells #[.int .i64 h.k, .int .i64 h.v, .slice b2 h.to.length d2, .slice b3 h.fr.length d3, .slice b4 h.tk.length d4, .int .i64 h.p, .int .i64 h.n, .int .i64 h.w] 26)) h n b2 d2 b3 d3 b4 d4 l2 l3 l4 (.inl hX9)
      clear hX9
      go_wp2_with fail
      refine hW.mono ?_
      rintro e w4 ⟨rfl, hb4⟩
      have HX4 := Lib.hid (row_below hb4 HX3.out)
      have HZ4 := Lib.hid (row_below hb4 HZ3.out)
      have HB4 := Lib.hid (HB3.out.trans (hb4.mono HB3.out.size))
      clear hW hb4 z0 z1 z2 z3 z4 z5 z6 z7
      go_wp2_with fail
      obtain ⟨x0, x1, x2, x3, x4, x5, x6, x7⟩ := cells8 (w := w4.drew) HX4.out
      obtain ⟨z0, z1, z2, z3, z4, z5, z6, z7⟩ := cells8 (w := w4.drew) HZ4.out
      go_region_held3 (fun w' => w'.cell? ⟨w.heap.size, 0, none⟩ = some (.int .i64 h.k) ∧ w'.cell? ⟨w.heap.size, 1, none⟩ = some (.int .i64 h.v) ∧ w'.cell? ⟨w.heap.size, 2, none⟩ = some (.slice a2 h.to.length c2) ∧ w'.cell? ⟨w.heap.size, 3, none⟩ = some (.slice a3 h.fr.length c3) ∧ w'.cell? ⟨w.heap.size, 4, none⟩ = some (.slice a4 h.tk.length c4) ∧ w'.cell? ⟨w.heap.size, 5, none⟩ = some (.int .i64 h.p) ∧ w'.cell? ⟨w.heap.size, 6, none⟩ = some (.int .i64 h.n) ∧ w'.cell? ⟨w.heap.size, 7, none⟩ = some (.int .i64 h.w) ∧ w'.cell? ⟨w2.heap.size, 0, none⟩ = some (.int .i64 h.k) ∧ w'.cell? ⟨w2.heap.size, 1, none⟩ = some (.int .i64 h.v) ∧ w'.cell? ⟨w2.heap.size, 2, none⟩ = some (.slice b2 h.to.length d2) ∧ w'.cell? ⟨w2.heap.size, 3, none⟩ = some (.slice b3 h.fr.length d3) ∧ w'.cell? ⟨w2.heap.size, 4, none⟩ = some (.slice b4 h.tk.length d4) ∧ w'.cell? ⟨w2.heap.size, 5, none⟩ = some (.int .i64 h.p) ∧ w'.cell? ⟨w2.heap.size, 6, none⟩ = some (.int .i64 h.n) ∧ w'.cell? ⟨w2.heap.size, 7, none⟩ = some (.int .i64 h.w))
        (first | with_reducible exact ⟨x0, x1, x2, x3, x4, x5, x6, x7, z0, z1, z2, z3, z4, z5, z6, z7⟩ | with_reducible exact keep16 hb5 (by assumption) | with_reducible exact keep16 hb6 (by assumption))
        (first
          | (go_at_call 12; refine (right_any _ h b2 d2 b3 d3 b4 d4 l2 l3 l4).mono ?_; rintro e w5 ⟨rfl, hb5⟩)
          | (go_at_call 13; refine (refright_any _ h a2 c2 a3 c3 a4 c4 l2 l3 l4).mono ?_; rintro e w6 ⟨rfl, hb6⟩))
      have HX6 := Lib.hid (row_below hb6 (row_below hb5 (show w4.drew.heap[w.heap.size]? = _ from HX4.out)))
      have HB6 := Lib.hid ((HB4.out.drew.trans (hb5.mono (show w.heap.size ≤ w4.drew.heap.size from HB4.out.size))).trans (hb6.mono (Nat.le_trans (show w.heap.size ≤ w4.drew.heap.size from HB4.out.size) hb5.size)))
      rw [HX.out]
      have hne : (false != false) = false := rfl
      clear hb5 hb6 x0 x1 x2 x3 x4 x5 x6 x7 z0 z1 z2 z3 z4 z5 z6 z7
      obtain ⟨x0, x1, x2, x3, x4, x5, x6, x7⟩ := cells8 HX6.out
      go_wp2_with fail
      refine (refright_any _ h a2 c2 a3 c3 a4 c4 l2 l3 l4).mono ?_
      rintro e w7 ⟨rfl, hb7⟩
      rw [HX.out]
      have HB7 := Lib.hid (HB6.out.trans (hb7.mono HB6.out.size))
      clear hb7 x0 x1 x2 x3 x4 x5 x6 x7
      go_wp2_with fail
      refine (hawake_any _).mono ?_
      rintro e w10 ⟨rfl, hb10⟩
      go_wp2_with fail
      go_ret
      exact ⟨rfl, HB7.out.trans (hb10.mono HB7.out.size)⟩
  · have hl' : lightB h = false := by simpa using hl
    rw [hl'] at hL
    clear hl hl' hbx hr ht hw
    go_enter Tryd.func3, Tryd.ntmps3
    go_wp2_with (go_at_call 9; refine hL.mono ?_; rintro e w1 ⟨rfl, hb1⟩)
    go_ret
    exact ⟨rfl, hB.trans (hb1.mono hB.size)⟩
#print axioms hwrites_walk
end Go.Proofs.YtnnllnbegmdfaaaDoor
