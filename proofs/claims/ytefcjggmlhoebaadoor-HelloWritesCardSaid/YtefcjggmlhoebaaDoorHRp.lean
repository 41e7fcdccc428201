/- The document's params, of any bytes. -/
import Derived.Test.YtefcjggmlhoebaaDoorHQZ0
import Derived.Test.YtefcjggmlhoebaaDoorHOk
import Derived.Test.YtefcjggmlhoebaaDoorPRd12
namespace Go.Proofs.YtefcjggmlhoebaaDoor
open Go Go.RowKit

set_option maxRecDepth 20000 in
set_option maxHeartbeats 2000000 in
theorem rpok : RqOk okP := fun W v ys hr hl => by
  have hrd := rread_any hr hl
  unfold RPost at hrd
  have HX : Hid (okP ys = ((resP ys).2 == 0)) := Lib.hid rfl
  generalize resP ys = R at *
  obtain ⟨q, e⟩ := R
  simp only at hrd HX
  obtain ⟨a, c, rfl⟩ := hr.shape
  clear hr
  go_enter Tryd.func23, Tryd.ntmps23
  go_wp2_with (go_at_call 55; refine hrd.mono ?_; rintro e1 w1 ⟨v5, v6, v7, v9, rfl, hpr, hb1⟩; obtain ⟨a5, k5, rfl⟩ := hpr.g.shape; obtain ⟨a6, k6, rfl⟩ := hpr.o.shape; obtain ⟨a7, k7, rfl⟩ := hpr.r.shape; obtain ⟨a9, k9, rfl⟩ := hpr.l.shape; unfold pAgg)
  go_ret
  exact ⟨ret_bl14 HX.out.symm, hb1.trans ((below_alloc w1 _).mono hb1.size)⟩
end Go.Proofs.YtefcjggmlhoebaaDoor
