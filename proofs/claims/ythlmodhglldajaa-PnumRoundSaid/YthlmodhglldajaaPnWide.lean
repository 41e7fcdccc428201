/- The program's Width and Cut. -/
import Derived.Test.YthlmodhglldajaaPnum
import Derived.Outline
namespace Go.Proofs.Ythlmodhglldajaa
open Go Go.RowKit

theorem ret_int {k : IntKind} {a b : Int} (h : a = b) : Ending.returned (.int k a) = .returned (.int k b) := by rw [h]
/-- What a width reaches. -/
def hal (k : Nat) : Int := if k = 0 then 0 else if k = 1 then 128 else if k = 2 then 32768 else if k = 3 then 8388608 else 2147483648
/-- The first width that reaches d. -/
def widD (d : Int) : Int := if d ≤ 128 then 1 else if d ≤ 32768 then 2 else if d ≤ 8388608 then 3 else if d ≤ 2147483648 then 4 else 0
theorem hal_at {k : Nat} (hk : k < 4) : isWid ((k : Int) + 1) = true ∧ tn ((k : Int) + 1) / 2 = hal (k + 1) ∧ 0 ≤ tn ((k : Int) + 1) ∧ tn ((k : Int) + 1) ≤ 4294967296 := by
  have : k = 0 ∨ k = 1 ∨ k = 2 ∨ k = 3 := by omega
  rcases this with rfl | rfl | rfl | rfl <;> decide
theorem widD_at {k : Nat} {d : Int} (hk : k < 4) (h1 : hal k < d) (h0 : 0 < d) (h2 : d ≤ hal (k + 1)) : widD d = (k : Int) + 1 := by
  have : k = 0 ∨ k = 1 ∨ k = 2 ∨ k = 3 := by omega
  unfold widD
  rcases this with rfl | rfl | rfl | rfl
  all_goals
    simp [hal] at h1 h2
    repeat' split
    all_goals omega
theorem widD_no {d : Int} (h : hal 4 < d) : widD d = 0 := by
  simp [hal] at h
  unfold widD
  repeat' split
  all_goals omega

theorem width_no (n a : Int) (W : World) (h : widOk n a = false) : Calls Try.prog 12 #[.int .i64 n, .int .i64 a] W fun e w' => e = .returned (.int .i64 0) ∧ W = w' := by
  unfold widOk at h
  cases h3 : isNum n with
  | false =>
    have H3 := Lib.hid h3
    clear h h3
    go_enter Try.func12, Try.ntmps12
    go_wp2_with (go_at_call 26; refine (isNumber_any _ _).mono ?_; rintro e w' ⟨rfl, rfl⟩; rw [H3.out])
    go_ret
    exact ⟨rfl, rfl⟩
  | true =>
    have H3 := Lib.hid h3
    rw [h3] at h
    clear h3
    by_cases h1 : a < -1
    · clear h
      go_enter Try.func12, Try.ntmps12
      go_wp2_with (go_at_call 26; refine (isNumber_any _ _).mono ?_; rintro e w' ⟨rfl, rfl⟩; rw [H3.out])
      go_ret
      exact ⟨rfl, rfl⟩
    · have h2 : n ≤ a := by
        simp only [Bool.and_eq_false_iff, decide_eq_false_iff_not, Bool.true_and] at h
        omega
      clear h
      go_enter Try.func12, Try.ntmps12
      go_wp2_with (go_at_call 26; refine (isNumber_any _ _).mono ?_; rintro e w' ⟨rfl, rfl⟩; rw [H3.out])
      go_ret
      exact ⟨rfl, rfl⟩

set_option maxHeartbeats 400000 in
theorem width_yes (n a : Int) (W : World) (h : widOk n a = true) : Calls Try.prog 12 #[.int .i64 n, .int .i64 a] W fun e w' => e = .returned (.int .i64 (widD (n - a))) ∧ W = w' := by
  unfold widOk at h
  simp only [Bool.and_eq_true, decide_eq_true_eq] at h
  obtain ⟨⟨h1, h2⟩, h3⟩ := h
  have H1 := Lib.hid h1
  have hb := (isNum_iff n).1 h1
  clear h1
  go_enter Try.func12, Try.ntmps12
  go_wp2_with (go_at_call 26; refine (isNumber_any _ _).mono ?_; rintro e w' ⟨rfl, rfl⟩; rw [H1.out])
  go_loop [19] (fun i => ∃ k : Nat, k ≤ 4 ∧ i = .int .i64 k ∧ hal k < n - a) (fun i => 4 - (intOf i).toNat)
  case atStart => exact ⟨0, by omega, rfl, by simp [hal]; omega⟩
  case round =>
    obtain ⟨k, hk, rfl, hl⟩ := hrel
    by_cases hlt : k < 4
    · obtain ⟨q1, q2, q3, q4⟩ := hal_at hlt
      have hk' : (k : Int) < 4 := by omega
      have HQ := Lib.hid q1
      have HT := Lib.hid q2
      clear q1 q2
      by_cases hd : n - a ≤ hal (k + 1)
      · have hd' : n - a ≤ tn ((k : Int) + 1) / 2 := by rw [HT.out]; exact hd
        have HE := Lib.hid (widD_at hlt hl (by omega) hd)
        clear hd hl
        go_wp2_with (go_at_call 27; refine (turn_any _ _ HQ.out).mono ?_; rintro e w' ⟨rfl, rfl⟩)
        go_ret
        exact ⟨ret_int HE.out.symm, rfl⟩
      · have hd' : ¬ (n - a ≤ tn ((k : Int) + 1) / 2) := by rw [HT.out]; exact hd
        have hl2 : hal (k + 1) < n - a := by omega
        clear hd hl
        go_wp2_with (go_at_call 27; refine (turn_any _ _ HQ.out).mono ?_; rintro e w' ⟨rfl, rfl⟩)
        go_round
        case rel => exact ⟨k + 1, by omega, by go_num, hl2⟩
        case measure => simp [intOf]; omega
    · obtain rfl : k = 4 := by omega
      have HE := Lib.hid (widD_no hl)
      go_wp2_with fail
      go_ret
      exact ⟨ret_int HE.out.symm, rfl⟩
theorem width_any (n a : Int) (W : World) : Calls Try.prog 12 #[.int .i64 n, .int .i64 a] W fun e w' => e = .returned (.int .i64 (widN n a)) ∧ W = w' := by
  cases h : widOk n a with
  | false =>
    have e : widN n a = 0 := by unfold widN; rw [if_pos h]
    rw [e]; exact width_no n a W h
  | true =>
    have e : widN n a = widD (n - a) := by unfold widN widD; rw [if_neg (by rw [h]; decide)]
    rw [e]; exact width_yes n a W h

theorem cut_any (n w : Int) (W : World) : Calls Try.prog 14 #[.int .i64 n, .int .i64 w] W fun e w' => e = .returned (.int .i64 (cutN n w)) ∧ W = w' := by
  unfold cutN cutOk
  cases h1 : isNum n with
  | false =>
    have H1 := Lib.hid h1
    clear h1
    simp only [Bool.false_and, Bool.false_eq_true, if_false]
    go_enter Try.func14, Try.ntmps14
    go_wp2_with (go_at_call 26; refine (isNumber_any _ _).mono ?_; rintro e w' ⟨rfl, rfl⟩; rw [H1.out])
    go_ret
    exact ⟨rfl, rfl⟩
  | true =>
    have H1 := Lib.hid h1
    have hb := (isNum_iff n).1 h1
    clear h1
    cases h2 : isWid w with
    | false =>
      have H2 := Lib.hid h2
      clear h2
      simp only [Bool.and_false, Bool.false_eq_true, if_false]
      go_enter Try.func14, Try.ntmps14
      go_wp2_with (first | (go_at_call 26; refine (isNumber_any _ _).mono ?_; rintro e w' ⟨rfl, rfl⟩; rw [H1.out]) | (go_at_call 29; refine (isWidth_any _ _).mono ?_; rintro e w' ⟨rfl, rfl⟩; rw [H2.out]))
      go_ret
      exact ⟨rfl, rfl⟩
    | true =>
      have H2 := Lib.hid h2
      simp only [Bool.and_true, if_true]
      have hT := fun v => turn_any w v h2
      rcases tn_cases h2 with ⟨rfl, e⟩ | ⟨rfl, e⟩ | ⟨rfl, e⟩ | ⟨rfl, e⟩
      all_goals
        rw [e] at hT
        rw [e]
        clear e h2
        go_enter Try.func14, Try.ntmps14
        go_wp2_with (first | (go_at_call 26; refine (isNumber_any _ _).mono ?_; rintro e w' ⟨rfl, rfl⟩; rw [H1.out]) | (go_at_call 29; refine (isWidth_any _ _).mono ?_; rintro e w' ⟨rfl, rfl⟩; rw [H2.out]) | (go_at_call 27; refine (hT _).mono ?_; rintro e w' ⟨rfl, rfl⟩))
        go_ret
        exact ⟨rfl, rfl⟩
end Go.Proofs.Ythlmodhglldajaa
