/- fields: Want says nothing, or panics with the error's number; what a reader of bytes holds; cut, where it panics. -/
import Derived.Test.YtgcgmgcgbnepeaaDoorVal
import Derived.Deep.QuietTactic
import Derived.BigQuiet
import Derived.Deep.RegionWith
import Derived.BigRegion
import Derived.WalkLawsBesides
import Derived.RegionDies
import Derived.Deep.RegionHeld3
import Derived.Deep.DrawnRows
namespace Go.Proofs.YtgcgmgcgbnepeaaDoor
open Go Go.RowKit

/-- A panic of an error's number. -/
def errPanic (e : Int) : Ending := .panicked [{ v := .iface 35 (.int .i64 e), recovered := false }]
set_option maxRecDepth 20000 in
theorem want_yes (w : World) (e : Int) : Calls Tryd.prog 47 #[.bool true, .int .i64 e] w fun r w' => r = .returned (.tuple #[]) ∧ w = w' := by
  go_enter Tryd.func47, Tryd.ntmps47
  go_wp2_with fail
  go_end0
  exact ⟨rfl, rfl⟩
set_option maxRecDepth 20000 in
theorem want_no (w : World) (e : Int) : Calls Tryd.prog 47 #[.bool false, .int .i64 e] w fun r w' => r = errPanic e ∧ w = w' := by
  unfold errPanic
  go_enter Tryd.func47, Tryd.ntmps47
  go_wp2_with fail
  exact ⟨rfl, rfl, rfl⟩

/-- A reader of bytes: what is left, how many are taken, the error where they end too early. -/
structure Fr (w : World) (B : Nat) (rv : Value) (rest : List Int) (taken short : Int) : Prop where
  box : w.heap[B]? = some (.cells #[rv, .int .i64 taken, .int .i64 short] 78 (0, 0))
  rest : Rd w rv rest
theorem Fr.cells {w : World} {B : Nat} {rv : Value} {rest : List Int} {taken short : Int} (h : Fr w B rv rest taken short) :
    w.cell? ⟨B, 0, none⟩ = some rv ∧ w.cell? ⟨B, 1, none⟩ = some (.int .i64 taken) ∧ w.cell? ⟨B, 2, none⟩ = some (.int .i64 short) ∧ (∀ j, w.frozen? ⟨B, j, none⟩ = false) :=
  ⟨(cell_of_row _ B 0 _ _ (0, 0) h.box).trans rfl, (cell_of_row _ B 1 _ _ (0, 0) h.box).trans rfl, (cell_of_row _ B 2 _ _ (0, 0) h.box).trans rfl, fun j => by simp [World.frozen?, h.box]⟩

set_option maxRecDepth 20000 in
set_option maxHeartbeats 2000000 in
theorem cut_no {w : World} {B : Nat} {ao : Option Addr} {cap : Nat} {rest : List Int} {taken short : Int} (h : Fr w B (.slice ao rest.length cap) rest taken short) (n : Int) (hn : (rest.length : Int) < n) :
    Calls Tryd.prog 59 #[.pointer (some ⟨B, 0, none⟩), .int .i64 n] w fun r w' => r = errPanic short ∧ ∃ k, w' = w.drewN k := by
  obtain ⟨x0, x1, x2, xf⟩ := h.cells
  have hl := h.rest.len
  have d1 : decide (n ≤ (rest.length : Int)) = false := decide_eq_false (by omega)
  clear h
  go_enter Tryd.func59, Tryd.ntmps59
  go_wp2_with fail
  go_region_dies
  all_goals go_wp2_with (go_at_call 47; refine (want_no _ short).mono ?_; rintro e w' ⟨he, rfl⟩; rw [errPanic] at he; subst he)
  all_goals exact ⟨rfl, rfl, 1, rfl⟩
#print axioms cut_no
#print axioms want_yes
#print axioms want_no
end Go.Proofs.YtgcgmgcgbnepeaaDoor
