/- The laws of pnum, walked: as near as may be; a greater width. -/
import Derived.Test.YthlmodhglldajaaPnLaw
namespace Go.Proofs.Ythlmodhglldajaa
open Go Go.RowKit

theorem ret_tt {b : Bool} (h : b = true) : Ending.returned (.bool b) = .returned (.bool true) := by rw [h]
theorem full_bad {g c v : Int} (h : g < -1 ∨ 4611686018427387903 < g) : fullN g c v = -1 := by
  unfold fullN
  rw [if_neg]
  unfold fullOk
  rcases h with h | h
  · rw [decide_eq_false (p := -1 ≤ g) (by omega)]; simp
  · rw [decide_eq_false (p := g ≤ 4611686018427387903) (by omega)]; simp
theorem full_good {g c v : Int} (hv : isWid v = true) (h0 : -1 ≤ g) (h1 : g ≤ 4611686018427387903) (h2 : 0 ≤ c) (h3 : c < tn v) : fullN g c v = near (g + 1) c (tn v) := by
  unfold fullN
  have ho : fullOk g c v = true := by
    unfold fullOk
    rw [hv]
    simp only [Bool.and_true, Bool.and_eq_true, decide_eq_true_eq]
    omega
  rw [if_pos ho]
set_option maxHeartbeats 4000000 in
theorem pnear_walk (g c x : Int) (hg0 : -9223372036854775808 ≤ g) (hg1 : g ≤ 9223372036854775807) (hc0 : 0 ≤ c) (hc1 : c ≤ 4294967295) (hx0 : 0 ≤ x) (hx1 : x ≤ 255) (w : World) : Calls Try.prog 6 #[.int .i64 g, .int .u32 c, .int .u8 x] w fun e w' => e = .returned (.bool true) ∧ w = w' := by
  have hx : x % 4 = 0 ∨ x % 4 = 1 ∨ x % 4 = 2 ∨ x % 4 = 3 := by omega
  rcases hx with hx | hx | hx | hx
  · have hm := cut_lt c (T := 256) (by omega)
    by_cases h1 : g < -1
    · have hf := fun v => full_any g (c % 256) 1 v
      rw [full_bad (Or.inl h1)] at hf
      clear hm
      go_enter Try.func6, Try.ntmps6
      go_wp2_with (first | (go_at_call 17; refine (hf _).mono ?_; rintro e w' ⟨rfl, rfl⟩) | (go_at_call 16; refine (pawake_any _).mono ?_; rintro e w' ⟨rfl, rfl⟩))
      go_ret
      first | exact ⟨rfl, rfl⟩ | exact ⟨ret_tt (by simp only [Bool.or_eq_true, decide_eq_true_eq]; omega), rfl⟩
    by_cases h2 : 4611686018427387903 < g
    · have hf := fun v => full_any g (c % 256) 1 v
      rw [full_bad (Or.inr h2)] at hf
      clear hm
      go_enter Try.func6, Try.ntmps6
      go_wp2_with (first | (go_at_call 17; refine (hf _).mono ?_; rintro e w' ⟨rfl, rfl⟩) | (go_at_call 16; refine (pawake_any _).mono ?_; rintro e w' ⟨rfl, rfl⟩))
      go_ret
      first | exact ⟨rfl, rfl⟩ | exact ⟨ret_tt (by simp only [Bool.or_eq_true, decide_eq_true_eq]; omega), rfl⟩
    have hf := fun v => full_any g (c % 256) 1 v
    rw [full_good (by decide) (by omega) (by omega) hm.1 (show c % 256 < tn 1 from hm.2), show tn 1 = 256 from by decide] at hf
    obtain ⟨n1, n2, n3, n4⟩ := near_is (E := g + 1) (c := c % 256) (T := 256) (by omega) (by omega) (by omega) hm.1 hm.2
    generalize near (g + 1) (c % 256) 256 = n at hf n1 n2 n3 n4
    have t1 : (n % 256 == c % 256) = true := by rw [beq_iff_eq]; exact n3
    clear n3 hm
    by_cases k1 : n - g - 1 ≤ 128
    · by_cases k2 : -128 ≤ n - g - 1
      · clear n4
        go_enter Try.func6, Try.ntmps6
        go_wp2_with (first | (go_at_call 17; refine (hf _).mono ?_; rintro e w' ⟨rfl, rfl⟩) | (go_at_call 16; refine (pawake_any _).mono ?_; rintro e w' ⟨rfl, rfl⟩))
        go_ret
        first | exact ⟨rfl, rfl⟩ | exact ⟨ret_tt (by simp only [Bool.or_eq_true, decide_eq_true_eq]; omega), rfl⟩
      · by_cases k3 : n < 256
        · clear n4
          go_enter Try.func6, Try.ntmps6
          go_wp2_with (first | (go_at_call 17; refine (hf _).mono ?_; rintro e w' ⟨rfl, rfl⟩) | (go_at_call 16; refine (pawake_any _).mono ?_; rintro e w' ⟨rfl, rfl⟩))
          go_ret
          first | exact ⟨rfl, rfl⟩ | exact ⟨ret_tt (by simp only [Bool.or_eq_true, decide_eq_true_eq]; omega), rfl⟩
        · have k4 : 4611686018427387903 - 256 < n := by omega
          clear n4
          go_enter Try.func6, Try.ntmps6
          go_wp2_with (first | (go_at_call 17; refine (hf _).mono ?_; rintro e w' ⟨rfl, rfl⟩) | (go_at_call 16; refine (pawake_any _).mono ?_; rintro e w' ⟨rfl, rfl⟩))
          go_ret
          first | exact ⟨rfl, rfl⟩ | exact ⟨ret_tt (by simp only [Bool.or_eq_true, decide_eq_true_eq]; omega), rfl⟩
    · by_cases k3 : n < 256
      · clear n4
        go_enter Try.func6, Try.ntmps6
        go_wp2_with (first | (go_at_call 17; refine (hf _).mono ?_; rintro e w' ⟨rfl, rfl⟩) | (go_at_call 16; refine (pawake_any _).mono ?_; rintro e w' ⟨rfl, rfl⟩))
        go_ret
        first | exact ⟨rfl, rfl⟩ | exact ⟨ret_tt (by simp only [Bool.or_eq_true, decide_eq_true_eq]; omega), rfl⟩
      · have k4 : 4611686018427387903 - 256 < n := by omega
        clear n4
        go_enter Try.func6, Try.ntmps6
        go_wp2_with (first | (go_at_call 17; refine (hf _).mono ?_; rintro e w' ⟨rfl, rfl⟩) | (go_at_call 16; refine (pawake_any _).mono ?_; rintro e w' ⟨rfl, rfl⟩))
        go_ret
        first | exact ⟨rfl, rfl⟩ | exact ⟨ret_tt (by simp only [Bool.or_eq_true, decide_eq_true_eq]; omega), rfl⟩
  · have hm := cut_lt c (T := 65536) (by omega)
    by_cases h1 : g < -1
    · have hf := fun v => full_any g (c % 65536) 2 v
      rw [full_bad (Or.inl h1)] at hf
      clear hm
      go_enter Try.func6, Try.ntmps6
      go_wp2_with (first | (go_at_call 17; refine (hf _).mono ?_; rintro e w' ⟨rfl, rfl⟩) | (go_at_call 16; refine (pawake_any _).mono ?_; rintro e w' ⟨rfl, rfl⟩))
      go_ret
      first | exact ⟨rfl, rfl⟩ | exact ⟨ret_tt (by simp only [Bool.or_eq_true, decide_eq_true_eq]; omega), rfl⟩
    by_cases h2 : 4611686018427387903 < g
    · have hf := fun v => full_any g (c % 65536) 2 v
      rw [full_bad (Or.inr h2)] at hf
      clear hm
      go_enter Try.func6, Try.ntmps6
      go_wp2_with (first | (go_at_call 17; refine (hf _).mono ?_; rintro e w' ⟨rfl, rfl⟩) | (go_at_call 16; refine (pawake_any _).mono ?_; rintro e w' ⟨rfl, rfl⟩))
      go_ret
      first | exact ⟨rfl, rfl⟩ | exact ⟨ret_tt (by simp only [Bool.or_eq_true, decide_eq_true_eq]; omega), rfl⟩
    have hf := fun v => full_any g (c % 65536) 2 v
    rw [full_good (by decide) (by omega) (by omega) hm.1 (show c % 65536 < tn 2 from hm.2), show tn 2 = 65536 from by decide] at hf
    obtain ⟨n1, n2, n3, n4⟩ := near_is (E := g + 1) (c := c % 65536) (T := 65536) (by omega) (by omega) (by omega) hm.1 hm.2
    generalize near (g + 1) (c % 65536) 65536 = n at hf n1 n2 n3 n4
    have t1 : (n % 65536 == c % 65536) = true := by rw [beq_iff_eq]; exact n3
    clear n3 hm
    by_cases k1 : n - g - 1 ≤ 32768
    · by_cases k2 : -32768 ≤ n - g - 1
      · clear n4
        go_enter Try.func6, Try.ntmps6
        go_wp2_with (first | (go_at_call 17; refine (hf _).mono ?_; rintro e w' ⟨rfl, rfl⟩) | (go_at_call 16; refine (pawake_any _).mono ?_; rintro e w' ⟨rfl, rfl⟩))
        go_ret
        first | exact ⟨rfl, rfl⟩ | exact ⟨ret_tt (by simp only [Bool.or_eq_true, decide_eq_true_eq]; omega), rfl⟩
      · by_cases k3 : n < 65536
        · clear n4
          go_enter Try.func6, Try.ntmps6
          go_wp2_with (first | (go_at_call 17; refine (hf _).mono ?_; rintro e w' ⟨rfl, rfl⟩) | (go_at_call 16; refine (pawake_any _).mono ?_; rintro e w' ⟨rfl, rfl⟩))
          go_ret
          first | exact ⟨rfl, rfl⟩ | exact ⟨ret_tt (by simp only [Bool.or_eq_true, decide_eq_true_eq]; omega), rfl⟩
        · have k4 : 4611686018427387903 - 65536 < n := by omega
          clear n4
          go_enter Try.func6, Try.ntmps6
          go_wp2_with (first | (go_at_call 17; refine (hf _).mono ?_; rintro e w' ⟨rfl, rfl⟩) | (go_at_call 16; refine (pawake_any _).mono ?_; rintro e w' ⟨rfl, rfl⟩))
          go_ret
          first | exact ⟨rfl, rfl⟩ | exact ⟨ret_tt (by simp only [Bool.or_eq_true, decide_eq_true_eq]; omega), rfl⟩
    · by_cases k3 : n < 65536
      · clear n4
        go_enter Try.func6, Try.ntmps6
        go_wp2_with (first | (go_at_call 17; refine (hf _).mono ?_; rintro e w' ⟨rfl, rfl⟩) | (go_at_call 16; refine (pawake_any _).mono ?_; rintro e w' ⟨rfl, rfl⟩))
        go_ret
        first | exact ⟨rfl, rfl⟩ | exact ⟨ret_tt (by simp only [Bool.or_eq_true, decide_eq_true_eq]; omega), rfl⟩
      · have k4 : 4611686018427387903 - 65536 < n := by omega
        clear n4
        go_enter Try.func6, Try.ntmps6
        go_wp2_with (first | (go_at_call 17; refine (hf _).mono ?_; rintro e w' ⟨rfl, rfl⟩) | (go_at_call 16; refine (pawake_any _).mono ?_; rintro e w' ⟨rfl, rfl⟩))
        go_ret
        first | exact ⟨rfl, rfl⟩ | exact ⟨ret_tt (by simp only [Bool.or_eq_true, decide_eq_true_eq]; omega), rfl⟩
  · have hm := cut_lt c (T := 16777216) (by omega)
    by_cases h1 : g < -1
    · have hf := fun v => full_any g (c % 16777216) 3 v
      rw [full_bad (Or.inl h1)] at hf
      clear hm
      go_enter Try.func6, Try.ntmps6
      go_wp2_with (first | (go_at_call 17; refine (hf _).mono ?_; rintro e w' ⟨rfl, rfl⟩) | (go_at_call 16; refine (pawake_any _).mono ?_; rintro e w' ⟨rfl, rfl⟩))
      go_ret
      first | exact ⟨rfl, rfl⟩ | exact ⟨ret_tt (by simp only [Bool.or_eq_true, decide_eq_true_eq]; omega), rfl⟩
    by_cases h2 : 4611686018427387903 < g
    · have hf := fun v => full_any g (c % 16777216) 3 v
      rw [full_bad (Or.inr h2)] at hf
      clear hm
      go_enter Try.func6, Try.ntmps6
      go_wp2_with (first | (go_at_call 17; refine (hf _).mono ?_; rintro e w' ⟨rfl, rfl⟩) | (go_at_call 16; refine (pawake_any _).mono ?_; rintro e w' ⟨rfl, rfl⟩))
      go_ret
      first | exact ⟨rfl, rfl⟩ | exact ⟨ret_tt (by simp only [Bool.or_eq_true, decide_eq_true_eq]; omega), rfl⟩
    have hf := fun v => full_any g (c % 16777216) 3 v
    rw [full_good (by decide) (by omega) (by omega) hm.1 (show c % 16777216 < tn 3 from hm.2), show tn 3 = 16777216 from by decide] at hf
    obtain ⟨n1, n2, n3, n4⟩ := near_is (E := g + 1) (c := c % 16777216) (T := 16777216) (by omega) (by omega) (by omega) hm.1 hm.2
    generalize near (g + 1) (c % 16777216) 16777216 = n at hf n1 n2 n3 n4
    have t1 : (n % 16777216 == c % 16777216) = true := by rw [beq_iff_eq]; exact n3
    clear n3 hm
    by_cases k1 : n - g - 1 ≤ 8388608
    · by_cases k2 : -8388608 ≤ n - g - 1
      · clear n4
        go_enter Try.func6, Try.ntmps6
        go_wp2_with (first | (go_at_call 17; refine (hf _).mono ?_; rintro e w' ⟨rfl, rfl⟩) | (go_at_call 16; refine (pawake_any _).mono ?_; rintro e w' ⟨rfl, rfl⟩))
        go_ret
        first | exact ⟨rfl, rfl⟩ | exact ⟨ret_tt (by simp only [Bool.or_eq_true, decide_eq_true_eq]; omega), rfl⟩
      · by_cases k3 : n < 16777216
        · clear n4
          go_enter Try.func6, Try.ntmps6
          go_wp2_with (first | (go_at_call 17; refine (hf _).mono ?_; rintro e w' ⟨rfl, rfl⟩) | (go_at_call 16; refine (pawake_any _).mono ?_; rintro e w' ⟨rfl, rfl⟩))
          go_ret
          first | exact ⟨rfl, rfl⟩ | exact ⟨ret_tt (by simp only [Bool.or_eq_true, decide_eq_true_eq]; omega), rfl⟩
        · have k4 : 4611686018427387903 - 16777216 < n := by omega
          clear n4
          go_enter Try.func6, Try.ntmps6
          go_wp2_with (first | (go_at_call 17; refine (hf _).mono ?_; rintro e w' ⟨rfl, rfl⟩) | (go_at_call 16; refine (pawake_any _).mono ?_; rintro e w' ⟨rfl, rfl⟩))
          go_ret
          first | exact ⟨rfl, rfl⟩ | exact ⟨ret_tt (by simp only [Bool.or_eq_true, decide_eq_true_eq]; omega), rfl⟩
    · by_cases k3 : n < 16777216
      · clear n4
        go_enter Try.func6, Try.ntmps6
        go_wp2_with (first | (go_at_call 17; refine (hf _).mono ?_; rintro e w' ⟨rfl, rfl⟩) | (go_at_call 16; refine (pawake_any _).mono ?_; rintro e w' ⟨rfl, rfl⟩))
        go_ret
        first | exact ⟨rfl, rfl⟩ | exact ⟨ret_tt (by simp only [Bool.or_eq_true, decide_eq_true_eq]; omega), rfl⟩
      · have k4 : 4611686018427387903 - 16777216 < n := by omega
        clear n4
        go_enter Try.func6, Try.ntmps6
        go_wp2_with (first | (go_at_call 17; refine (hf _).mono ?_; rintro e w' ⟨rfl, rfl⟩) | (go_at_call 16; refine (pawake_any _).mono ?_; rintro e w' ⟨rfl, rfl⟩))
        go_ret
        first | exact ⟨rfl, rfl⟩ | exact ⟨ret_tt (by simp only [Bool.or_eq_true, decide_eq_true_eq]; omega), rfl⟩
  · have hm := cut_lt c (T := 4294967296) (by omega)
    by_cases h1 : g < -1
    · have hf := fun v => full_any g (c % 4294967296) 4 v
      rw [full_bad (Or.inl h1)] at hf
      clear hm
      go_enter Try.func6, Try.ntmps6
      go_wp2_with (first | (go_at_call 17; refine (hf _).mono ?_; rintro e w' ⟨rfl, rfl⟩) | (go_at_call 16; refine (pawake_any _).mono ?_; rintro e w' ⟨rfl, rfl⟩))
      go_ret
      first | exact ⟨rfl, rfl⟩ | exact ⟨ret_tt (by simp only [Bool.or_eq_true, decide_eq_true_eq]; omega), rfl⟩
    by_cases h2 : 4611686018427387903 < g
    · have hf := fun v => full_any g (c % 4294967296) 4 v
      rw [full_bad (Or.inr h2)] at hf
      clear hm
      go_enter Try.func6, Try.ntmps6
      go_wp2_with (first | (go_at_call 17; refine (hf _).mono ?_; rintro e w' ⟨rfl, rfl⟩) | (go_at_call 16; refine (pawake_any _).mono ?_; rintro e w' ⟨rfl, rfl⟩))
      go_ret
      first | exact ⟨rfl, rfl⟩ | exact ⟨ret_tt (by simp only [Bool.or_eq_true, decide_eq_true_eq]; omega), rfl⟩
    have hf := fun v => full_any g (c % 4294967296) 4 v
    rw [full_good (by decide) (by omega) (by omega) hm.1 (show c % 4294967296 < tn 4 from hm.2), show tn 4 = 4294967296 from by decide] at hf
    obtain ⟨n1, n2, n3, n4⟩ := near_is (E := g + 1) (c := c % 4294967296) (T := 4294967296) (by omega) (by omega) (by omega) hm.1 hm.2
    generalize near (g + 1) (c % 4294967296) 4294967296 = n at hf n1 n2 n3 n4
    have t1 : (n % 4294967296 == c % 4294967296) = true := by rw [beq_iff_eq]; exact n3
    clear n3 hm
    by_cases k1 : n - g - 1 ≤ 2147483648
    · by_cases k2 : -2147483648 ≤ n - g - 1
      · clear n4
        go_enter Try.func6, Try.ntmps6
        go_wp2_with (first | (go_at_call 17; refine (hf _).mono ?_; rintro e w' ⟨rfl, rfl⟩) | (go_at_call 16; refine (pawake_any _).mono ?_; rintro e w' ⟨rfl, rfl⟩))
        go_ret
        first | exact ⟨rfl, rfl⟩ | exact ⟨ret_tt (by simp only [Bool.or_eq_true, decide_eq_true_eq]; omega), rfl⟩
      · by_cases k3 : n < 4294967296
        · clear n4
          go_enter Try.func6, Try.ntmps6
          go_wp2_with (first | (go_at_call 17; refine (hf _).mono ?_; rintro e w' ⟨rfl, rfl⟩) | (go_at_call 16; refine (pawake_any _).mono ?_; rintro e w' ⟨rfl, rfl⟩))
          go_ret
          first | exact ⟨rfl, rfl⟩ | exact ⟨ret_tt (by simp only [Bool.or_eq_true, decide_eq_true_eq]; omega), rfl⟩
        · have k4 : 4611686018427387903 - 4294967296 < n := by omega
          clear n4
          go_enter Try.func6, Try.ntmps6
          go_wp2_with (first | (go_at_call 17; refine (hf _).mono ?_; rintro e w' ⟨rfl, rfl⟩) | (go_at_call 16; refine (pawake_any _).mono ?_; rintro e w' ⟨rfl, rfl⟩))
          go_ret
          first | exact ⟨rfl, rfl⟩ | exact ⟨ret_tt (by simp only [Bool.or_eq_true, decide_eq_true_eq]; omega), rfl⟩
    · by_cases k3 : n < 4294967296
      · clear n4
        go_enter Try.func6, Try.ntmps6
        go_wp2_with (first | (go_at_call 17; refine (hf _).mono ?_; rintro e w' ⟨rfl, rfl⟩) | (go_at_call 16; refine (pawake_any _).mono ?_; rintro e w' ⟨rfl, rfl⟩))
        go_ret
        first | exact ⟨rfl, rfl⟩ | exact ⟨ret_tt (by simp only [Bool.or_eq_true, decide_eq_true_eq]; omega), rfl⟩
      · have k4 : 4611686018427387903 - 4294967296 < n := by omega
        clear n4
        go_enter Try.func6, Try.ntmps6
        go_wp2_with (first | (go_at_call 17; refine (hf _).mono ?_; rintro e w' ⟨rfl, rfl⟩) | (go_at_call 16; refine (pawake_any _).mono ?_; rintro e w' ⟨rfl, rfl⟩))
        go_ret
        first | exact ⟨rfl, rfl⟩ | exact ⟨ret_tt (by simp only [Bool.or_eq_true, decide_eq_true_eq]; omega), rfl⟩

set_option maxHeartbeats 1000000 in
theorem pround_walk (n a : Int) (w : World) : Calls Try.prog 7 #[.int .i64 n, .int .i64 a] w fun e w' => e = .returned (.bool true) ∧ w = w' := by
  obtain ⟨W, hW⟩ : ∃ W, widN n a = W := ⟨_, rfl⟩
  have hw := fun v => width_any n a v
  rw [hW] at hw
  by_cases h0 : W = 0
  · subst h0
    clear hW
    go_enter Try.func7, Try.ntmps7
    go_wp2_with (first | (go_at_call 12; refine (hw _).mono ?_; rintro e w' ⟨rfl, rfl⟩) | (go_at_call 16; refine (pawake_any _).mono ?_; rintro e w' ⟨rfl, rfl⟩))
    go_ret
    exact ⟨rfl, rfl⟩
  · have hi := wid_is (n := n) (a := a) (by rw [hW]; exact h0)
    rw [hW] at hi
    clear hW
    obtain ⟨i1, i2, i3, i4, i5, i6⟩ := hi
    have hb0 : (W == 0) = false := by rw [beq_eq_false_iff_ne]; exact h0
    have hbd := (isWid_iff W).1 i1
    have hd : n - a ≤ 4294967296 := by have := tn_four i1; omega
    have hfb : ∀ k : Nat, W ≤ k → (k : Int) ≤ 4 → fullN (n - 1) (cutN n k) k = n := by
      intro k h1 h2
      have hk : isWid (k : Int) = true := (isWid_iff _).2 (by omega)
      have := tn_four hk
      exact full_back hk (by omega) (by omega) (by omega) i5
    have HF := Lib.hid hfb
    clear hfb
    obtain ⟨N, rfl⟩ : ∃ N : Nat, W = N := ⟨W.toNat, by omega⟩
    clear h0 i2
    go_enter Try.func7, Try.ntmps7
    go_wp2_with (go_at_call 12; refine (hw _).mono ?_; rintro e w' ⟨rfl, rfl⟩)
    go_loop [6] (fun i => ∃ k : Nat, N ≤ k ∧ k ≤ 5 ∧ i = .int .i64 k) (fun i => 5 - (intOf i).toNat)
    case atStart => exact ⟨N, by omega, by omega, rfl⟩
    case round =>
      obtain ⟨k, hk0, hk, rfl⟩ := hrel
      by_cases hlt : k ≤ 4
      · have hk' : (k : Int) ≤ 4 := by omega
        have hf := fun v => full_any (n - 1) (cutN n k) k v
        rw [HF.out k (by omega) (by omega)] at hf
        go_wp2_with (first | (go_at_call 14; refine (cut_any _ _ _).mono ?_; rintro e w' ⟨rfl, rfl⟩) | (go_at_call 17; refine (hf _).mono ?_; rintro e w' ⟨rfl, rfl⟩))
        go_round
        case rel => exact ⟨k + 1, by omega, by omega, by go_num⟩
        case measure => simp [intOf]; omega
      · obtain rfl : k = 5 := by omega
        have hN : N = 1 ∨ N = 2 ∨ N = 3 ∨ N = 4 := by omega
        clear hw HF
        rcases hN with rfl | rfl | rfl | rfl
        · go_wp2_with (go_at_call 16; refine (pawake_any _).mono ?_; rintro e w' ⟨rfl, rfl⟩)
          go_ret
          exact ⟨rfl, rfl⟩
        · have i7 : 256 < 2 * (n - a) := by rcases i6 with h | h; cases h; exact h
          clear i6
          go_wp2_with (go_at_call 16; refine (pawake_any _).mono ?_; rintro e w' ⟨rfl, rfl⟩)
          go_ret
          exact ⟨rfl, rfl⟩
        · have i7 : 65536 < 2 * (n - a) := by rcases i6 with h | h; cases h; exact h
          clear i6
          go_wp2_with (go_at_call 16; refine (pawake_any _).mono ?_; rintro e w' ⟨rfl, rfl⟩)
          go_ret
          exact ⟨rfl, rfl⟩
        · have i7 : 16777216 < 2 * (n - a) := by rcases i6 with h | h; cases h; exact h
          clear i6
          go_wp2_with (go_at_call 16; refine (pawake_any _).mono ?_; rintro e w' ⟨rfl, rfl⟩)
          go_ret
          exact ⟨rfl, rfl⟩
end Go.Proofs.Ythlmodhglldajaa
