/- pnum's small functions, and the document's. -/
import Derived.Test.YthlmodhglldajaaPnPure
import Derived.Test.YthlmodhglldajaaChecked
import Derived.WalkKit
import Derived.WalkLawsBesides
import Derived.Lib.Hide
namespace Go.Proofs.Ythlmodhglldajaa
open Go Go.RowKit

theorem isNumber_any (n : Int) (w : World) : Calls Try.prog 26 #[.int .i64 n] w fun e w' => e = .returned (.bool (isNum n)) ∧ w = w' := by
  by_cases h1 : 0 ≤ n
  · by_cases h2 : n ≤ 4611686018427387903
    · have e : isNum n = true := (isNum_iff n).2 ⟨h1, h2⟩
      rw [e]; clear e
      go_enter Try.func26, Try.ntmps26
      go_wp2
      go_ret
      exact ⟨rfl, rfl⟩
    · have e : isNum n = false := by rw [Bool.eq_false_iff]; intro h; exact h2 ((isNum_iff n).1 h).2
      rw [e]; clear e
      go_enter Try.func26, Try.ntmps26
      go_wp2
      go_ret
      exact ⟨rfl, rfl⟩
  · have e : isNum n = false := by rw [Bool.eq_false_iff]; intro h; exact h1 ((isNum_iff n).1 h).1
    rw [e]; clear e
    go_enter Try.func26, Try.ntmps26
    go_wp2
    go_ret
    exact ⟨rfl, rfl⟩
theorem isWid_iff (n : Int) : isWid n = true ↔ 1 ≤ n ∧ n ≤ 4 := by unfold isWid; simp
theorem isWidth_any (n : Int) (w : World) : Calls Try.prog 29 #[.int .i64 n] w fun e w' => e = .returned (.bool (isWid n)) ∧ w = w' := by
  by_cases h1 : 1 ≤ n
  · by_cases h2 : n ≤ 4
    · have e : isWid n = true := (isWid_iff n).2 ⟨h1, h2⟩
      rw [e]; clear e
      go_enter Try.func29, Try.ntmps29
      go_wp2
      go_ret
      exact ⟨rfl, rfl⟩
    · have e : isWid n = false := by rw [Bool.eq_false_iff]; intro h; exact h2 ((isWid_iff n).1 h).2
      rw [e]; clear e
      go_enter Try.func29, Try.ntmps29
      go_wp2
      go_ret
      exact ⟨rfl, rfl⟩
  · have e : isWid n = false := by rw [Bool.eq_false_iff]; intro h; exact h1 ((isWid_iff n).1 h).1
    rw [e]; clear e
    go_enter Try.func29, Try.ntmps29
    go_wp2
    go_ret
    exact ⟨rfl, rfl⟩
theorem turn_any (n : Int) (w : World) (h : isWid n = true) : Calls Try.prog 27 #[.int .i64 n] w fun e w' => e = .returned (.int .i64 (tn n)) ∧ w = w' := by
  rcases tn_cases h with ⟨rfl, e⟩ | ⟨rfl, e⟩ | ⟨rfl, e⟩ | ⟨rfl, e⟩
  all_goals
    rw [e]; clear e h
    go_enter Try.func27, Try.ntmps27
    go_wp2
    go_ret
    exact ⟨rfl, rfl⟩
theorem dst_any (a b : Int) (w : World) (ha : -4294967296 ≤ a) (ha2 : a ≤ 4611686030000000000) (hb : -1 ≤ b) (hb2 : b ≤ 4611686018427387904) : Calls Try.prog 30 #[.int .i64 a, .int .i64 b] w fun e w' => e = .returned (.int .i64 (dst a b)) ∧ w = w' := by
  by_cases h : b - a ≤ a - b
  · have e : dst a b = a - b := by unfold dst; rw [if_pos h]
    rw [e]; clear e
    go_enter Try.func30, Try.ntmps30
    go_wp2
    go_ret
    exact ⟨rfl, rfl⟩
  · have e : dst a b = b - a := by unfold dst; rw [if_neg h]
    rw [e]; clear e
    go_enter Try.func30, Try.ntmps30
    go_wp2
    go_ret
    exact ⟨rfl, rfl⟩
end Go.Proofs.Ythlmodhglldajaa
