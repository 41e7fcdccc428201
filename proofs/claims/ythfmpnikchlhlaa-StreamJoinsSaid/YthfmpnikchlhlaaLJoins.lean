/- law 13: StreamJoins. -/
import Derived.Test.YthfmpnikchlhlaaLMsgs
namespace Go.Proofs.Ythfmpnikchlhlaa
open Go Go.RowKit

theorem headN_app {a : List Int} (b : List Int) (h : 4 ≤ a.length) : headN (a ++ b) = headN a := by
  have g : ∀ i, i < 4 → (a ++ b).getD i 0 = a.getD i 0 := fun i hi => by
    simp only [List.getD_eq_getElem?_getD]
    rw [List.getElem?_append_left (by omega)]
  unfold headN
  rw [g 1 (by omega), g 2 (by omega), g 3 (by omega)]
theorem first_app {a : List Int} (b : List Int) (h : firstE a = 0) : firstE (a ++ b) = 0 := by
  obtain ⟨h1, h2, h3⟩ := first_ok h
  unfold firstE
  rw [headN_app b h1, List.length_append, if_neg (by omega), if_neg (by omega), if_neg (by omega)]
theorem msg_app : ∀ (n : Nat) (a b : List Int), a.length ≤ n → (msgP a).2 = 0 → msgP (a ++ b) = ((msgP a).1 ++ (msgP b).1, (msgP b).2) := by
  intro n
  induction n with
  | zero =>
    intro a b hn _
    obtain rfl := List.eq_nil_of_length_eq_zero (Nat.le_zero.1 hn)
    simp [msgP_nil]
  | succ n ih =>
    intro a b hn h0
    by_cases ha : a = []
    · subst ha
      simp [msgP_nil]
    · have hf : firstE a = 0 := by
        by_cases hf : firstE a = 0
        · exact hf
        · rw [msgP_err ha hf] at h0
          exact h0
      obtain ⟨h1, h2, h3⟩ := first_ok hf
      rw [msgP_ok ha hf] at h0 ⊢
      have hne : a ++ b ≠ [] := by simp [ha]
      rw [msgP_ok hne (first_app b hf), headN_app b h1, List.take_append_of_le_length h3, List.drop_append_of_le_length h3, ih _ b (by simp; omega) h0]
      simp

set_option maxRecDepth 20000 in
set_option maxHeartbeats 4000000 in
theorem sjoins_walk {w : World} {v u : Value} {xs ys : List Int} (hx : Rd w v xs) (hpx : Plain v) (hy : Rd w u ys) (hpy : Plain u) (hlx : xs.length ≤ 500) (hly : ys.length ≤ 500) :
    Calls Try.prog 6 #[v, u] w fun e w' => e = .returned (.bool true) ∧ Below w.heap.size w w' := by
  obtain ⟨ao, ac, rfl⟩ := hx.shape
  obtain ⟨bo, bc, rfl⟩ := hy.shape
  have HX := Lib.hid hx
  have HY := Lib.hid hy
  have HPX := Lib.hid hpx
  have HPY := Lib.hid hpy
  have hlt1 : ¬ (500 : Int) < (xs.length : Int) := by omega
  have hlt2 : ¬ (500 : Int) < (ys.length : Int) := by omega
  have hc := Lib.hid (msgs_any hx hpx (by omega))
  clear hx hpx hy hpy
  go_enter Try.func6, Try.ntmps6
  go_wp2_with fail
  refine hc.out.mono ?_
  rintro e w1 hpost
  obtain ⟨la, lc, qs, rfl, hdrop1, hqs, hb1⟩ := hpost.open
  clear hdrop1
  have HB1 := Lib.hid hb1
  have HQ1 := Lib.hid hqs
  have hc2 := Lib.hid (msgs_any (HY.out.below hb1) HPY.out (by omega))
  clear hpost hqs hb1 hc
  go_wp2_with fail
  refine hc2.out.mono ?_
  rintro e w2 hpost
  obtain ⟨ma, mc, rs, rfl, hdrop2, hrs, hb2⟩ := hpost.open
  clear hdrop2
  have HB2 := Lib.hid (HB1.out.trans (hb2.mono HB1.out.size))
  have HQ2 := Lib.hid hrs
  clear hpost hrs hb2 hc2
  go_wp2_with (first
    | (at_builtin; refine wpList_append_bytes (.tmp 30) (.tmp 31) 29 rfl rfl info5 Try.underlying29 w2.heap.size _ 0 [] rfl (own_fresh w2 5) _ xs rfl ((HX.out.below HB2.out).alloc _) (by omega) (by simp) ?_; intro v3 w3 hown3 hb3)
    | (at_builtin; refine wpList_append_bytes (.tmp 32) (.tmp 33) 29 rfl rfl info5 Try.underlying29 w2.heap.size _ _ _ rfl hown3 _ ys rfl ((HY.out.below HB2.out).below ((below_alloc w2 _).trans hb3)) (by omega) (((below_alloc w2 _).trans hb3).size) ?_; intro v4 w4 hown4 hb4))
  have hb24 := ((below_alloc w2 (.cells #[] 5)).trans hb3).trans hb4
  have HB4 := Lib.hid (HB2.out.trans (hb24.mono HB2.out.size))
  have hra := ra_own hown4 (by simpa using HX.out.byt.app HY.out.byt)
  simp only [List.nil_append] at hra
  have hc3 := Lib.hid (msgs_any hra.1.rd hra.2 (by simp; omega))
  obtain ⟨b4, m4, c4, rfl⟩ := hra.1.rd.shape3
  clear hb24 hown3 hown4 hb3 hb4 hra
  go_wp2_with fail
  refine hc3.out.mono ?_
  rintro e w5 hpost
  obtain ⟨na, nc, ts, rfl, hdrop3, hts, hb5⟩ := hpost.open
  have HB5 := Lib.hid (HB4.out.trans (hb5.mono HB4.out.size))
  have HQ3 := Lib.hid hts
  have haw := Lib.hid (awake_any (w := w5))
  clear hpost hts hb5 hc3 hdrop3
  by_cases h1 : (msgP xs).2 = 0
  · by_cases h2 : (msgP ys).2 = 0
    · have hm := msg_app xs.length xs ys (Nat.le_refl _) h1
      have h3 : (msgP (xs ++ ys)).2 = 0 := by rw [hm]; exact h2
      have hlen : ts.length = qs.length + rs.length := by
        have e1 := congrArg List.length HQ1.out
        have e2 := congrArg List.length HQ2.out
        have e3 := congrArg List.length HQ3.out
        rw [List.length_map, if_pos h1] at e1
        rw [List.length_map, if_pos h2] at e2
        rw [List.length_map, if_pos h3, hm, List.length_append] at e3
        omega
      have hql : qs.length ≤ 500 := by
        have e1 := congrArg List.length HQ1.out
        have := msgP_len xs
        rw [List.length_map, if_pos h1] at e1
        omega
      have hrl : rs.length ≤ 500 := by
        have e1 := congrArg List.length HQ2.out
        have := msgP_len ys
        rw [List.length_map, if_pos h2] at e1
        omega
      have ws : IntKind.i64.wrap ((qs.length : Int) + (rs.length : Int)) = (ts.length : Int) := wrap_nat (by omega) (by omega)
      rw [show decide ((msgP xs).2 = 0) = true from decide_eq_true h1, show decide ((msgP ys).2 = 0) = true from decide_eq_true h2, show decide ((msgP (xs ++ ys)).2 = 0) = true from decide_eq_true h3]
      clear hm hlen h1 h2 h3
      go_wp2_with fail
      refine haw.out.mono ?_
      rintro e w6 ⟨rfl, hb6⟩
      have HB6 := Lib.hid (HB5.out.trans (hb6.mono HB5.out.size))
      clear hb6 haw
      go_wp2_with fail
      go_ret
      exact ⟨rfl, HB6.out⟩
    · rw [show decide ((msgP xs).2 = 0) = true from decide_eq_true h1, show decide ((msgP ys).2 = 0) = false from decide_eq_false h2]
      generalize decide ((msgP (xs ++ ys)).2 = 0) = g3
      clear h1 h2
      go_wp2_with fail
      refine haw.out.mono ?_
      rintro e w6 ⟨rfl, hb6⟩
      have HB6 := Lib.hid (HB5.out.trans (hb6.mono HB5.out.size))
      clear hb6 haw
      go_wp2_with fail
      go_ret
      exact ⟨rfl, HB6.out⟩
  · rw [show decide ((msgP xs).2 = 0) = false from decide_eq_false h1]
    generalize decide ((msgP ys).2 = 0) = g2
    generalize decide ((msgP (xs ++ ys)).2 = 0) = g3
    clear h1
    go_wp2_with fail
    refine haw.out.mono ?_
    rintro e w6 ⟨rfl, hb6⟩
    have HB6 := Lib.hid (HB5.out.trans (hb6.mono HB5.out.size))
    clear hb6 haw
    go_wp2_with fail
    go_ret
    exact ⟨rfl, HB6.out⟩
theorem sjoins_any {w : World} {v u : Value} {xs ys : List Int} (hx : Rd w v xs) (hpx : Plain v) (hy : Rd w u ys) (hpy : Plain u) :
    Calls Try.prog 6 #[v, u] w fun e w' => e = .returned (.bool true) ∧ Below w.heap.size w w' := by
  by_cases hlx : xs.length ≤ 500
  · by_cases hly : ys.length ≤ 500
    · exact sjoins_walk hx hpx hy hpy hlx hly
    · obtain ⟨ao, ac, rfl⟩ := hx.shape
      obtain ⟨bo, bc, rfl⟩ := hy.shape
      have hlt1 : ¬ (500 : Int) < (xs.length : Int) := by omega
      have hlt2 : (500 : Int) < (ys.length : Int) := by omega
      clear hx hpx hy hpy
      go_enter Try.func6, Try.ntmps6
      go_wp2_with fail
      go_ret
      exact ⟨rfl, Below.refl _ _⟩
  · obtain ⟨ao, ac, rfl⟩ := hx.shape
    obtain ⟨bo, bc, rfl⟩ := hy.shape
    have hlt1 : (500 : Int) < (xs.length : Int) := by omega
    clear hx hpx hy hpy
    go_enter Try.func6, Try.ntmps6
    go_wp2_with fail
    go_ret
    exact ⟨rfl, Below.refl _ _⟩
#print axioms sjoins_any
end Go.Proofs.Ythfmpnikchlhlaa
