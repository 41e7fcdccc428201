/- The document's Write, whatever the params that are right. -/
import Derived.Test.YtofljggagapjlaaDoorPR0
import Derived.Test.YtofljggagapjlaaDoorPR1
import Derived.Test.YtofljggagapjlaaDoorPR2
import Derived.Test.YtofljggagapjlaaDoorPR3
namespace Go.Proofs.YtofljggagapjlaaDoor
open Go Go.RowKit

theorem refwrite_any {w : World} {p : Pv} {v5 v6 v7 v9 : Value} (h : Pr w p v5 v6 v7 v9) (hr : rightP p = true) :
    Calls Tryd.prog 15 #[pAgg p v5 v6 v7 v9] w fun e w' => ∃ v', e = .returned v' ∧ w'.ownsRow w.heap.size 5 1 v' (wrP p).length (by8 (wrP p)) ∧ Byt (wrP p) ∧ Below w.heap.size w w' := by
  obtain ⟨a5, k5, rfl⟩ := h.g.shape
  obtain ⟨a6, k6, rfl⟩ := h.o.shape
  obtain ⟨a7, k7, rfl⟩ := h.r.shape
  obtain ⟨a9, k9, rfl⟩ := h.l.shape
  obtain ⟨pi, pd, phg, pho, phr, pg, po, pr, pc, pl⟩ := p
  cases phg with
  | true =>
    cases pho with
    | true =>
      cases phr with
      | true => exact refw_ttt h hr
      | false => exact refw_ttf h hr
    | false =>
      cases phr with
      | true => exact refw_tft h hr
      | false => exact refw_tff h hr
  | false =>
    cases pho with
    | true =>
      cases phr with
      | true => exact refw_ftt h hr
      | false => exact refw_ftf h hr
    | false =>
      cases phr with
      | true => exact refw_fft h hr
      | false => exact refw_fff h hr
end Go.Proofs.YtofljggagapjlaaDoor
