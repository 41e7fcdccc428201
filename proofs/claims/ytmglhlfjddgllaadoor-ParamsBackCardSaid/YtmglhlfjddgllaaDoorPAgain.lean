/- ParamsAgain: what is read is written as it was: the walk. -/
import Derived.Test.YtmglhlfjddgllaaDoorPRd10
import Derived.Test.YtmglhlfjddgllaaDoorPAwk
import Derived.Test.YtmglhlfjddgllaaDoorRInv
import Derived.Test.YtmglhlfjddgllaaDoorPIn
namespace Go.Proofs.YtmglhlfjddgllaaDoor
open Go Go.RowKit

theorem plain_inP {W : World} {r : Reach} {b : Nat} {a : Option Addr} {len cap : Nat} (h : Value.okWide Tryd.prog W r b 22 (.slice a len cap)) : Plain (.slice a len cap) := by
  unfold Value.okWide at h
  rw [Tryd.underlying22] at h
  simp only [Cell.okWide, Tryd.underlying22, Cell.ok] at h
  cases a with
  | none =>
    split at h
    all_goals first
      | (rename_i e1 e2; cases e1; cases e2; exact .inl rfl)
      | (exfalso; simp_all; done)
  | some x =>
    obtain ⟨b, off, spot⟩ := x
    have hs : spot = none := h.2.2.2.1
    subst hs
    exact .inr ⟨_, _, _, _, rfl⟩
theorem resP_cases (zs : List Int) : (∃ p, resP zs = (p, 0) ∧ readP zs = some p) ∨ ∃ k, resP zs = (p0, k) ∧ (k = 3 ∨ k = 4) := by
  unfold resP
  by_cases h : 500 < zs.length
  · rw [if_pos h]; exact .inr ⟨4, rfl, .inr rfl⟩
  · rw [if_neg h]
    cases readP zs with
    | none => exact .inr ⟨3, rfl, .inl rfl⟩
    | some p => exact .inl ⟨p, rfl, rfl⟩
set_option maxRecDepth 20000 in
set_option maxHeartbeats 4000000 in
theorem pagain_walk {w : World} {v : Value} {zs : List Int} (hr : Rd w v zs) (hp : Plain v) (ht : Tab w) (hw : 1 < w.heap.size) :
    Calls Tryd.prog 6 #[v] w fun e w' => e = .returned (.bool true) ∧ Below w.heap.size w w' := by
  have hl := hr.len
  obtain ⟨ao, cap, rfl⟩ := hr.shape
  by_cases h6 : 600 < zs.length
  · clear hr hp ht hw
    go_enter Tryd.func6, Tryd.ntmps6
    go_wp2_with fail
    go_ret
    exact ⟨rfl, Below.refl _ _⟩
  · have hrd := pread_any hr hp (by omega)
    have HR := Lib.hid hr
    have HT := Lib.hid ht
    have HW := Lib.hid hw
    unfold RPost at hrd
    rcases resP_cases zs with ⟨p, hres, hrp⟩ | ⟨k, hres, hk⟩
    · obtain ⟨hzs, hright⟩ := Rv.read_again hr.byt hrp
      rw [hres] at hrd
      dsimp only at hrd
      have HZ := Lib.hid hzs
      clear hr hp ht hw hres hrp hzs hright
      go_enter Tryd.func6, Tryd.ntmps6
      go_wp2_with (go_at_call 16; refine hrd.mono ?_; rintro e w1 ⟨v5, v6, v7, v9, rfl, hpr, hb1⟩; obtain ⟨a5, k5, rfl⟩ := hpr.g.shape; obtain ⟨a6, k6, rfl⟩ := hpr.o.shape; obtain ⟨a7, k7, rfl⟩ := hpr.r.shape; obtain ⟨a9, k9, rfl⟩ := hpr.l.shape; unfold pAgg)
      have hY := below_alloc w1 (.cells (pCells p (.slice a5 p.g.length k5) (.slice a6 p.o.length k6) (.slice a7 p.r.length k7) (.slice a9 p.l.length k9)) 27)
      have hwr := write_any (hpr.below hY) (HT.out.below (hb1.trans (hY.mono hb1.size))) (by have := HW.out; have := hb1.size; simp; omega)
      have HB2 := Lib.hid (hb1.trans (hY.mono hb1.size))
      clear hpr hY hrd
      dsimp only [pAgg, pCells] at hwr
      refine hwr.mono ?_
      rintro e w2 ⟨v2, rfl, ho2, hz2, hb2⟩
      have r2 := (Rd.of_own ho2 hz2).1
      have hsz1 := HB2.out.size
      have B2 := HB2.out.trans (hb2.mono hsz1)
      have hsm := same_any r2 (HR.out.below B2)
      rw [decide_eq_true HZ.out.symm] at hsm
      obtain ⟨a2, c2, rfl⟩ := own_shape ho2
      have HB := Lib.hid B2
      clear hb2 ho2 r2 B2 hwr hb1 hsz1 hz2
      go_wp2_with (first
        | (go_at_call 14; refine hsm.mono ?_; rintro e w3 ⟨rfl, hb3⟩)
        | (go_at_call 13; refine (pawake_any _ (HT.out.below (HB.out.trans (hb3.mono HB.out.size))) (by have := HW.out; have := HB.out.size; have := hb3.size; omega)).mono ?_; rintro e w4 ⟨rfl, hb4⟩))
      go_ret
      have B3 := HB.out.trans (hb3.mono HB.out.size)
      exact ⟨rfl, B3.trans (hb4.mono B3.size)⟩
    · have hne : ¬ k = 0 := by omega
      rw [hres] at hrd
      dsimp only at hrd
      clear hr hp ht hw hres hk
      go_enter Tryd.func6, Tryd.ntmps6
      go_wp2_with (go_at_call 16; refine hrd.mono ?_; rintro e w1 ⟨v5, v6, v7, v9, rfl, hpr, hb1⟩; obtain ⟨a5, k5, rfl⟩ := hpr.g.shape; obtain ⟨a6, k6, rfl⟩ := hpr.o.shape; obtain ⟨a7, k7, rfl⟩ := hpr.r.shape; obtain ⟨a9, k9, rfl⟩ := hpr.l.shape; unfold pAgg)
      have hY := below_alloc w1 (.cells (pCells p0 (.slice a5 p0.g.length k5) (.slice a6 p0.o.length k6) (.slice a7 p0.r.length k7) (.slice a9 p0.l.length k9)) 27)
      have B2 := hb1.trans (hY.mono hb1.size)
      refine (pawake_any _ (HT.out.below B2) (by have := HW.out; have := B2.size; omega)).mono ?_
      rintro e w4 ⟨rfl, hb4⟩
      go_wp2_with fail
      go_ret
      exact ⟨rfl, B2.trans (hb4.mono B2.size)⟩
end Go.Proofs.YtmglhlfjddgllaaDoor
