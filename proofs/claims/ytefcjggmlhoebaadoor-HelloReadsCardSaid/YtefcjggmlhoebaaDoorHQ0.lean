/- The document's Right of messages, kind by kind (term). -/
import Derived.Test.YtefcjggmlhoebaaDoorHTold
namespace Go.Proofs.YtefcjggmlhoebaaDoor
open Go Go.RowKit

/-- The document's Read of params tells of any bytes whether they are right. -/
def RpOk (ok : List Int → Bool) : Prop := ∀ (W : World) (v : Value) (ys : List Int), Rd W v ys → Plain v → ys.length ≤ 1000000 → Calls Tryd.prog 23 #[v] W fun e w' => e = .returned (.bool (ok ys)) ∧ Below W.heap.size W w'
theorem rterm_any (w : World) (t : Int) : Calls Tryd.prog 22 #[.int .i64 t] w fun e w' => e = .returned (.bool (tmD t)) ∧ w = w' := by
  by_cases h1 : 1 ≤ t
  · have e1 : decide (1 ≤ t) = true := decide_eq_true h1
    have HD : Hid (tmD t = decide (t ≤ 65536)) := Lib.hid (by unfold tmD; simp [h1])
    clear h1
    go_enter Tryd.func22, Tryd.ntmps22
    go_wp2_with fail
    go_ret
    exact ⟨ret_bl14 HD.out.symm, rfl⟩
  · have e1 : decide (1 ≤ t) = false := decide_eq_false h1
    have HD : Hid (tmD t = false) := Lib.hid (by unfold tmD; simp [h1])
    clear h1
    go_enter Tryd.func22, Tryd.ntmps22
    go_wp2_with fail
    go_ret
    exact ⟨ret_bl14 HD.out.symm, rfl⟩
end Go.Proofs.YtefcjggmlhoebaaDoor
