/- Where the library's table is as it was laid, TrailingZeros tells 0, 1, 2, 3 of 1, 2, 4, 8. -/
import Derived.Test.YtefcjggmlhoebaaDoorKit
import Derived.Test.YtefcjggmlhoebaaDoorChecked
import Derived.Outline
namespace Go.Proofs.YtefcjggmlhoebaaDoor
open Go Go.RowKit

/-- The four cells of the library's table that are read. -/
def Tab (w : World) : Prop := w.cell? ⟨1, 0, none⟩ = some (.int .u8 0) ∧ w.cell? ⟨1, 1, none⟩ = some (.int .u8 1) ∧ w.cell? ⟨1, 3, none⟩ = some (.int .u8 2) ∧ w.cell? ⟨1, 7, none⟩ = some (.int .u8 3)
theorem Tab.below {w w' : World} (h : Tab w) (hb : Below w.heap.size w w') : Tab w' := by
  obtain ⟨h0, h1, h2, h3⟩ := h
  refine ⟨?_, ?_, ?_, ?_⟩
  · rw [hb.cell (cell_lt h0)]; exact h0
  · rw [hb.cell (cell_lt h1)]; exact h1
  · rw [hb.cell (cell_lt h2)]; exact h2
  · rw [hb.cell (cell_lt h3)]; exact h3

set_option maxRecDepth 20000 in
set_option maxHeartbeats 400000 in
theorem tz_1 {w : World} (h : Tab w) : Calls Tryd.prog 80 #[.int .u64 1] w fun e w' => e = .returned (.int .i64 0) ∧ w = w' := by
  obtain ⟨h0, h1, h2, h3⟩ := h
  have e1 : bits BinOp.and IntKind.u64 1 (IntKind.u64.wrap (-1)) = 1 := by kernel_rfl
  have e2 : IntKind.u64.wrap 285870213051353865 = 285870213051353865 := by kernel_rfl
  go_enter Tryd.func80, Tryd.ntmps80
  go_wp2
  go_ret
  exact ⟨rfl, rfl⟩
set_option maxRecDepth 20000 in
set_option maxHeartbeats 400000 in
theorem tz_2 {w : World} (h : Tab w) : Calls Tryd.prog 80 #[.int .u64 2] w fun e w' => e = .returned (.int .i64 1) ∧ w = w' := by
  obtain ⟨h0, h1, h2, h3⟩ := h
  have e1 : bits BinOp.and IntKind.u64 2 (IntKind.u64.wrap (-2)) = 2 := by kernel_rfl
  have e2 : IntKind.u64.wrap 571740426102707730 = 571740426102707730 := by kernel_rfl
  go_enter Tryd.func80, Tryd.ntmps80
  go_wp2
  go_ret
  exact ⟨rfl, rfl⟩
set_option maxRecDepth 20000 in
set_option maxHeartbeats 400000 in
theorem tz_4 {w : World} (h : Tab w) : Calls Tryd.prog 80 #[.int .u64 4] w fun e w' => e = .returned (.int .i64 2) ∧ w = w' := by
  obtain ⟨h0, h1, h2, h3⟩ := h
  have e1 : bits BinOp.and IntKind.u64 4 (IntKind.u64.wrap (-4)) = 4 := by kernel_rfl
  have e2 : IntKind.u64.wrap 1143480852205415460 = 1143480852205415460 := by kernel_rfl
  go_enter Tryd.func80, Tryd.ntmps80
  go_wp2
  go_ret
  exact ⟨rfl, rfl⟩
set_option maxRecDepth 20000 in
set_option maxHeartbeats 400000 in
theorem tz_8 {w : World} (h : Tab w) : Calls Tryd.prog 80 #[.int .u64 8] w fun e w' => e = .returned (.int .i64 3) ∧ w = w' := by
  obtain ⟨h0, h1, h2, h3⟩ := h
  have e1 : bits BinOp.and IntKind.u64 8 (IntKind.u64.wrap (-8)) = 8 := by kernel_rfl
  have e2 : IntKind.u64.wrap 2286961704410830920 = 2286961704410830920 := by kernel_rfl
  go_enter Tryd.func80, Tryd.ntmps80
  go_wp2
  go_ret
  exact ⟨rfl, rfl⟩
#print axioms tz_8
end Go.Proofs.YtefcjggmlhoebaaDoor
