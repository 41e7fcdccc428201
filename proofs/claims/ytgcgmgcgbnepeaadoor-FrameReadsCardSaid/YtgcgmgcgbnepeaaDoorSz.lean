/- The two functions that tell a number's size give sz n, for every integer n. -/
import Derived.Test.YtgcgmgcgbnepeaaDoorChecked
import Derived.WalkKit
import Derived.WalkLawsBesides
import Derived.WalkSpells
import Derived.Outline
import Derived.Lib.Hide
namespace Go.Proofs.YtgcgmgcgbnepeaaDoor
open Go.RowKit

/-- A number's size. -/
def sz (n : Int) : Int := if n < 0 ∨ 4611686018427387904 ≤ n then 0 else if n < 64 then 1 else if n < 16384 then 2 else if n < 1073741824 then 4 else 8

theorem ret_int {k : IntKind} {a b : Int} (h : a = b) : Ending.returned (.int k a) = .returned (.int k b) := by rw [h]

theorem size_any (n : Int) (w : World) : Calls Tryd.prog 37 #[.int .i64 n] w fun e w' => e = .returned (.int .i64 (sz n)) ∧ w = w' := by
  have h : n < 0 ∨ 4611686018427387904 ≤ n ∨ (0 ≤ n ∧ n < 64) ∨ (64 ≤ n ∧ n < 16384) ∨ (16384 ≤ n ∧ n < 1073741824) ∨ (1073741824 ≤ n ∧ n < 4611686018427387904) := by omega
  rcases h with h | h | ⟨h, h'⟩ | ⟨h, h'⟩ | ⟨h, h'⟩ | ⟨h, h'⟩
  all_goals
    go_enter Tryd.func37, Tryd.ntmps37
    go_wp2
    go_ret
    refine ⟨ret_int ?_, rfl⟩
    unfold sz
    split <;> (try split) <;> (try split) <;> (try split) <;> omega

theorem refsize_any (n : Int) (w : World) : Calls Tryd.prog 25 #[.int .i64 n] w fun e w' => e = .returned (.int .i64 (sz n)) ∧ w = w' := by
  have h : n < 0 ∨ 4611686018427387904 ≤ n ∨ (0 ≤ n ∧ n < 64) ∨ (64 ≤ n ∧ n < 16384) ∨ (16384 ≤ n ∧ n < 1073741824) ∨ (1073741824 ≤ n ∧ n < 4611686018427387904) := by omega
  rcases h with h | h | ⟨h, h'⟩ | ⟨h, h'⟩ | ⟨h, h'⟩ | ⟨h, h'⟩
  all_goals
    go_enter Tryd.func25, Tryd.ntmps25
    go_wp2
    go_ret
    refine ⟨ret_int ?_, rfl⟩
    unfold sz
    split <;> (try split) <;> (try split) <;> (try split) <;> omega
#print axioms refsize_any
end Go.Proofs.YtgcgmgcgbnepeaaDoor
