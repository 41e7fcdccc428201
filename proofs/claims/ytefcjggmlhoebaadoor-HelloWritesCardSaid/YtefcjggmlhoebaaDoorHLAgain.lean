/- HelloAgain, HelloCut: what is read is written as it was; a message that is cut is none: the walks. -/
import Derived.Test.YtefcjggmlhoebaaDoorHOk
import Derived.Test.YtefcjggmlhoebaaDoorFrame
namespace Go.Proofs.YtefcjggmlhoebaaDoor
open Go Go.RowKit

set_option maxRecDepth 20000 in
theorem plain_inH {W : World} {r : Reach} {b : Nat} {a : Option Addr} {len cap : Nat} (h : Value.okWide Tryd.prog W r b 22 (.slice a len cap)) : Plain (.slice a len cap) := by
  unfold Value.okWide at h
  rw [Tryd.underlying22] at h
  simp only [Cell.okWide, Tryd.underlying22, Cell.ok] at h
  cases a with
  | none =>
    split at h
    all_goals first
      | (rename_i e1 e2; cases e1; cases e2; exact .inl rfl)
      | (exfalso; simp_all; done)
  | some x =>
    obtain ⟨b, off, spot⟩ := x
    have hs : spot = none := h.2.2.2.1
    subst hs
    exact .inr ⟨_, _, _, _, rfl⟩
theorem hparse_nbyt {zs : List Int} (hb : Byt zs) {k : Int} {t t' : Nat} {x : Hm} (h : hParse zs k t = some (x, t')) : Byt x.n := by
  unfold hParse at h
  by_cases k1 : k = 1
  · rw [if_pos k1] at h
    repeat' split at h
    all_goals cases h
    exact Byt.nil
  rw [if_neg k1] at h
  by_cases k2 : k = 2
  · rw [if_pos k2] at h
    repeat' split at h
    all_goals cases h
    exact Byt.nil
  rw [if_neg k2] at h
  by_cases k4 : k = 4
  · rw [if_pos k4] at h
    repeat' split at h
    all_goals cases h
    exact Byt.nil
  rw [if_neg k4] at h
  by_cases k8 : k = 8
  · rw [if_pos k8] at h
    repeat' split at h
    all_goals cases h
    exact Byt.nil
  rw [if_neg k8] at h
  by_cases k11 : k = 11
  · rw [if_pos k11] at h
    cases h
    exact hb.drop t
  rw [if_neg k11] at h
  repeat' split at h
  all_goals cases h
  exact Byt.nil
/-- What is known of a message that was read. -/
theorem hread_facts {ok : List Int → Bool} {zs : List Int} (hb : Byt zs) {x : Hm} (h : hRead ok zs = some x) : Byt x.n ∧ x.p.length ≤ zs.length ∧ rightB (ok x.p) x = true ∧ wrM x = zs ∧ 4 ≤ zs.length := by
  obtain ⟨h1, h2, h3⟩ := hread_one h
  exact ⟨hparse_nbyt hb h2, hparse_plen hb h2 h1.1, (rightB_iff ok x).2 h3, hread_again hb h, h1.1⟩
set_option maxRecDepth 20000 in
set_option maxHeartbeats 4000000 in
theorem hhagain_walk {w : World} {v : Value} {zs : List Int} (hr : Rd w v zs) (hp : Plain v) (ht : Tab w) (hw : 1 < w.heap.size) :
    Calls Tryd.prog 6 #[v] w fun e w' => e = .returned (.bool true) ∧ Below w.heap.size w w' := by
  have hl := hr.len
  obtain ⟨ao, cap, rfl⟩ := hr.shape
  by_cases h8 : 800 < zs.length
  · clear hr hp ht hw
    go_enter Tryd.func6, Tryd.ntmps6
    go_wp2_with fail
    go_ret
    exact ⟨rfl, Below.refl _ _⟩
  · have hrd := hread_any prok vrok hr hp (by omega)
    have HR := Lib.hid hr
    have HT := Lib.hid ht
    have HW := Lib.hid hw
    have hbt := hr.byt
    clear hr hp ht hw
    go_enter Tryd.func6, Tryd.ntmps6
    go_wp2_with fail
    refine hrd.mono ?_
    unfold HRP
    rintro e w1 ⟨x, vp, n, rfl, hrx, hpx, hb1, hcase⟩
    obtain ⟨ax, cx, rfl⟩ := hrx.shape
    have hY := below_alloc w1 (.cells (mcl x.k x.r x.s x.t x.m x.f (.slice ax x.p.length cx) (bstr x.n) x.v x.l) 28)
    have hM := mbox_new w1 x.k x.r x.s x.t x.m x.f (.slice ax x.p.length cx) (bstr x.n) x.v x.l
    have HB2 := Lib.hid (hb1.trans (hY.mono hb1.size))
    have HRX := Lib.hid (hrx.below hY)
    obtain ⟨⟨c0, c1, c2, c3, c4, c5, c6, c7, c8, c9⟩, cf⟩ := hM.cells
    unfold mAgg mcl at *
    rcases hcase with ⟨rfl, -, -⟩ | ⟨rfl, hyes⟩
    · clear hrd hM c0 c1 c2 c3 c4 c5 c6 c7 c8 c9 cf hrx
      go_wp2_with (go_at_call 13; refine (hhawake_any _ (HT.out.below HB2.out) (by have := HW.out; have := HB2.out.size; omega)).mono ?_; rintro e w4 ⟨rfl, hb4⟩)
      go_ret
      exact ⟨rfl, HB2.out.trans (hb4.mono HB2.out.size)⟩
    · obtain ⟨f1, f2, f3, f4, _⟩ := hread_facts hbt hyes
      have hwr := hwrite_any prok vrok oklen x HRX.out hpx (by omega) f1 (HT.out.below HB2.out) (by have := HW.out; have := HB2.out.size; omega)
      unfold HWP at hwr
      rw [show wrH okP x = zs by unfold wrH; rw [if_pos f3, f4]] at hwr
      unfold mAgg mcl at hwr
      clear hrd hM hyes f1 f2 f3 f4 hrx hb1 hY hpx
      go_wp2_with fail
      refine hwr.mono ?_
      rintro e w2 ⟨v2, rfl, r2, _, hb2⟩
      have B2 := HB2.out.trans (hb2.mono HB2.out.size)
      have hsm := same_any r2 (HR.out.below B2)
      rw [decide_eq_true rfl] at hsm
      obtain ⟨a2, k2, rfl⟩ := r2.shape
      have HB := Lib.hid B2
      clear hb2 r2 B2 hwr c0 c1 c2 c3 c4 c5 c6 c7 c8 c9 cf
      go_wp2_with (first
        | (go_at_call 14; refine hsm.mono ?_; rintro e w3 ⟨rfl, hb3⟩)
        | (go_at_call 13; refine (hhawake_any _ (HT.out.below (HB.out.trans (hb3.mono HB.out.size))) (by have := HW.out; have := HB.out.size; have := hb3.size; omega)).mono ?_; rintro e w4 ⟨rfl, hb4⟩))
      go_ret
      have B3 := HB.out.trans (hb3.mono HB.out.size)
      exact ⟨rfl, B3.trans (hb4.mono B3.size)⟩
#print axioms hhagain_walk
end Go.Proofs.YtefcjggmlhoebaaDoor
