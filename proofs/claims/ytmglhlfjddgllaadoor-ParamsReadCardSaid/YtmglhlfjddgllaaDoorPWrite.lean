/- Write, whatever the params. -/
import Derived.Test.YtmglhlfjddgllaaDoorPW0
import Derived.Test.YtmglhlfjddgllaaDoorPW1
import Derived.Test.YtmglhlfjddgllaaDoorPW2
import Derived.Test.YtmglhlfjddgllaaDoorPW3
namespace Go.Proofs.YtmglhlfjddgllaaDoor
open Go Go.RowKit

set_option maxRecDepth 20000 in
set_option maxHeartbeats 1000000 in
theorem write_any {w : World} {p : Pv} {v5 v6 v7 v9 : Value} (h : Pr w p v5 v6 v7 v9) (ht : Tab w) (hw : 1 < w.heap.size) :
    Calls Tryd.prog 10 #[pAgg p v5 v6 v7 v9] w fun e w' => ∃ v', e = .returned v' ∧ w'.ownsRow w.heap.size 5 1 v' (wrP p).length (by8 (wrP p)) ∧ Byt (wrP p) ∧ Below w.heap.size w w' := by
  obtain ⟨a5, k5, rfl⟩ := h.g.shape
  obtain ⟨a6, k6, rfl⟩ := h.o.shape
  obtain ⟨a7, k7, rfl⟩ := h.r.shape
  obtain ⟨a9, k9, rfl⟩ := h.l.shape
  cases hr : rightP p with
  | false =>
    have hB0 := below_alloc w (.cells (pCells p (.slice a5 p.g.length k5) (.slice a6 p.o.length k6) (.slice a7 p.r.length k7) (.slice a9 p.l.length k9)) 27)
    have hri := right_any (h.below hB0)
    rw [hr] at hri
    have HWR : Hid (wrP p = []) := Lib.hid (by unfold wrP; rw [hr]; rfl)
    clear h ht
    go_enter Tryd.func10, Tryd.ntmps10
    go_wp2_with (go_at_call 12; refine hri.mono ?_; rintro e w1 ⟨rfl, hb1⟩)
    go_ret
    exact ⟨_, rfl, by rw [HWR.out]; exact own_nil0 _ _, by rw [HWR.out]; exact Byt.nil, hB0.trans (hb1.mono hB0.size)⟩
  | true =>
    obtain ⟨pi, pd, phg, pho, phr, pg, po, pr, pc, pl⟩ := p
    cases phg with
    | true =>
      cases pho with
      | true =>
        cases phr with
        | true => exact write_ttt h ht hw hr
        | false => exact write_ttf h ht hw hr
      | false =>
        cases phr with
        | true => exact write_tft h ht hw hr
        | false => exact write_tff h ht hw hr
    | false =>
      cases pho with
      | true =>
        cases phr with
        | true => exact write_ftt h ht hw hr
        | false => exact write_ftf h ht hw hr
      | false =>
        cases phr with
        | true => exact write_fft h ht hw hr
        | false => exact write_fff h ht hw hr
end Go.Proofs.YtmglhlfjddgllaaDoor
