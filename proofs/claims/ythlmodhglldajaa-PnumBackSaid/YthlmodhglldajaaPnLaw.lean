/- The laws of pnum, walked. -/
import Derived.Test.YthlmodhglldajaaPnFull
import Derived.Test.YthlmodhglldajaaPnRef
import Derived.Below
namespace Go.Proofs.Ythlmodhglldajaa
open Go Go.RowKit

/-- A call that leaves the world as it was leaves alone what was there. -/
theorem calls_below {n : Nat} {a : Array Value} {w : World} {v : Ending} (h : Calls Try.prog n a w fun e w' => e = v ∧ w = w') : Calls Try.prog n a w fun e w' => e = v ∧ Below w.heap.size w w' :=
  h.mono fun _ _ h => ⟨h.1, h.2 ▸ Below.refl _ _⟩
theorem aw1 (w : World) : Calls Try.prog 17 #[.int .i64 2821665002, .int .i64 39730, .int .i64 2] w fun e w' => e = .returned (.int .i64 2821692210) ∧ w = w' := by
  have h := full_any 2821665002 39730 2 w
  rwa [show fullN 2821665002 39730 2 = 2821692210 by decide +kernel] at h
theorem aw2 (w : World) : Calls Try.prog 12 #[.int .i64 11295746, .int .i64 11266227] w fun e w' => e = .returned (.int .i64 2) ∧ w = w' := by
  have h := width_any 11295746 11266227 w
  rwa [show widN 11295746 11266227 = 2 by decide +kernel] at h
/-- The chapter's examples stand. -/
theorem pawake_any (w : World) : Calls Try.prog 16 #[] w fun e w' => e = .returned (.bool true) ∧ w = w' := by
  go_enter Try.func16, Try.ntmps16
  go_wp2_with (first | (go_at_call 17; refine (aw1 _).mono ?_; rintro e w' ⟨rfl, rfl⟩) | (go_at_call 12; refine (aw2 _).mono ?_; rintro e w' ⟨rfl, rfl⟩))
  go_ret
  exact ⟨rfl, rfl⟩

theorem pwidths_walk (n a k : Int) (w : World) : Calls Try.prog 3 #[.int .i64 n, .int .i64 a, .int .i64 k] w fun e w' => e = .returned (.bool true) ∧ w = w' := by
  go_enter Try.func3, Try.ntmps3
  go_wp2_with (first | (go_at_call 12; refine (width_any _ _ _).mono ?_; rintro e w' ⟨rfl, rfl⟩) | (go_at_call 13; refine (rwidth_any _ _ _).mono ?_; rintro e w' ⟨rfl, rfl⟩) | (go_at_call 14; refine (cut_any _ _ _).mono ?_; rintro e w' ⟨rfl, rfl⟩) | (go_at_call 15; refine (rcut_any _ _ _).mono ?_; rintro e w' ⟨rfl, rfl⟩) | (go_at_call 16; refine (pawake_any _).mono ?_; rintro e w' ⟨rfl, rfl⟩))
  go_ret
  exact ⟨rfl, rfl⟩
theorem pfulls_walk (g c k : Int) (w : World) : Calls Try.prog 4 #[.int .i64 g, .int .i64 c, .int .i64 k] w fun e w' => e = .returned (.bool true) ∧ w = w' := by
  go_enter Try.func4, Try.ntmps4
  go_wp2_with (first | (go_at_call 17; refine (full_any _ _ _ _).mono ?_; rintro e w' ⟨rfl, rfl⟩) | (go_at_call 18; refine (rfull_any _ _ _ _).mono ?_; rintro e w' ⟨rfl, rfl⟩) | (go_at_call 16; refine (pawake_any _).mono ?_; rintro e w' ⟨rfl, rfl⟩))
  go_ret
  exact ⟨rfl, rfl⟩

/-- What is expected, and at most half a turn below: the number itself. -/
theorem near_back {E n T : Int} (hT : T = 256 ∨ T = 65536 ∨ T = 16777216 ∨ T = 4294967296) (h0 : 0 ≤ E) (h1 : E ≤ n) (h2 : 2 * (n - E) < T) (h3 : n ≤ 4611686018427387903) : near E (n % T) T = n := by
  have hd : (E = n ∧ (E - n % T) % T = n - n % T - n / T * T) ∨ (E < n ∧ (E - n % T) % T = E - n + T) := by
    rcases hT with rfl | rfl | rfl | rfl
    all_goals omega
  have hq : n - n % T - n / T * T = 0 := by
    have := Int.emod_add_mul_ediv n T
    rw [Int.mul_comm] at this
    omega
  rw [hq] at hd
  unfold near pick
  generalize (E - n % T) % T = d at hd
  have hTb : 256 ≤ T ∧ T ≤ 4294967296 := by omega
  clear hT hq
  repeat' split
  all_goals omega
/-- What is told again: a number with that rest, and as near as may be. -/
theorem near_is {E c T : Int} (hT : T = 256 ∨ T = 65536 ∨ T = 16777216 ∨ T = 4294967296) (h0 : 0 ≤ E) (h1 : E ≤ 4611686018427387904) (h2 : 0 ≤ c) (h3 : c < T) :
    0 ≤ near E c T ∧ near E c T ≤ 4611686018427387903 ∧ near E c T % T = c ∧ (near E c T - E ≤ T / 2 ∧ -(T / 2) ≤ near E c T - E ∨ near E c T < T ∨ 4611686018427387903 - T < near E c T) := by
  unfold near pick
  rcases hT with rfl | rfl | rfl | rfl
  all_goals
    repeat' split
    all_goals omega
theorem cut_lt (n : Int) {T : Int} (hT : T = 256 ∨ T = 65536 ∨ T = 16777216 ∨ T = 4294967296) : 0 ≤ n % T ∧ n % T < T := ⟨Int.emod_nonneg _ (by omega), Int.emod_lt_of_pos _ (by omega)⟩
theorem tn_four {w : Int} (h : isWid w = true) : tn w = 256 ∨ tn w = 65536 ∨ tn w = 16777216 ∨ tn w = 4294967296 := by
  rcases tn_cases h with h | h | h | h <;> omega
/-- Told again, whatever came last. -/
theorem full_back {l n v : Int} (hv : isWid v = true) (h0 : -1 ≤ l) (h1 : l < n) (h2 : 2 * (n - l - 1) < tn v) (h3 : n ≤ 4611686018427387903) : fullN l (cutN n v) v = n := by
  have hT := tn_four hv
  have hc : cutN n v = n % tn v := by unfold cutN cutOk; rw [hv, (isNum_iff n).2 (by omega)]; rfl
  have hl := cut_lt n hT
  rw [hc]
  unfold fullN
  have ho : fullOk l (n % tn v) v = true := by
    unfold fullOk
    rw [hv]
    simp only [Bool.and_true, Bool.and_eq_true, decide_eq_true_eq]
    omega
  rw [if_pos ho]
  exact near_back hT (by omega) (by omega) (by omega) h3
/-- The width that a number needs: half its turn reaches, and no smaller one's does. -/
theorem wid_is {n a : Int} (h : widN n a ≠ 0) : isWid (widN n a) = true ∧ 2 * (n - a) ≤ tn (widN n a) ∧ -1 ≤ a ∧ a < n ∧ n ≤ 4611686018427387903 ∧ (widN n a = 1 ∨ tn (widN n a - 1) < 2 * (n - a)) := by
  unfold widN at h ⊢
  by_cases ho : widOk n a = false
  · rw [if_pos ho] at h; exact absurd rfl h
  · rw [if_neg ho] at h ⊢
    have ho' : widOk n a = true := by revert ho; cases widOk n a <;> simp
    unfold widOk at ho'
    simp only [Bool.and_eq_true, decide_eq_true_eq] at ho'
    obtain ⟨⟨h1, h2⟩, h3⟩ := ho'
    have hb := (isNum_iff n).1 h1
    clear ho h1
    repeat' split
    all_goals (first | (simp [isWid, tn]; omega) | (exfalso; revert h; repeat' split; all_goals omega))
/-- A greater width reaches, too. -/
theorem tn_mono {v w : Int} (hv : isWid v = true) (hw : isWid w = true) (h : w ≤ v) : tn w ≤ tn v := by
  rcases tn_cases hv with ⟨rfl, e⟩ | ⟨rfl, e⟩ | ⟨rfl, e⟩ | ⟨rfl, e⟩ <;> rcases tn_cases hw with ⟨rfl, e'⟩ | ⟨rfl, e'⟩ | ⟨rfl, e'⟩ | ⟨rfl, e'⟩ <;> omega

theorem pback_walk (n a l : Int) (w : World) : Calls Try.prog 5 #[.int .i64 n, .int .i64 a, .int .i64 l] w fun e w' => e = .returned (.bool true) ∧ w = w' := by
  obtain ⟨W, hW⟩ : ∃ W, widN n a = W := ⟨_, rfl⟩
  have hw := fun v => width_any n a v
  rw [hW] at hw
  by_cases h0 : W = 0
  · subst h0
    clear hW
    go_enter Try.func5, Try.ntmps5
    go_wp2_with (first | (go_at_call 12; refine (hw _).mono ?_; rintro e w' ⟨rfl, rfl⟩) | (go_at_call 16; refine (pawake_any _).mono ?_; rintro e w' ⟨rfl, rfl⟩))
    go_ret
    exact ⟨rfl, rfl⟩
  · have hi := wid_is (n := n) (a := a) (by rw [hW]; exact h0)
    rw [hW] at hi
    clear hW
    obtain ⟨i1, i2, i3, i4, i5, _⟩ := hi
    have hb0 : (W == 0) = false := by rw [beq_eq_false_iff_ne]; exact h0
    have hbd := (isWid_iff W).1 i1
    by_cases h1 : l < a
    · clear h0
      go_enter Try.func5, Try.ntmps5
      go_wp2_with (first | (go_at_call 12; refine (hw _).mono ?_; rintro e w' ⟨rfl, rfl⟩) | (go_at_call 16; refine (pawake_any _).mono ?_; rintro e w' ⟨rfl, rfl⟩))
      go_ret
      exact ⟨rfl, rfl⟩
    by_cases h2 : n ≤ l
    · clear h0
      go_enter Try.func5, Try.ntmps5
      go_wp2_with (first | (go_at_call 12; refine (hw _).mono ?_; rintro e w' ⟨rfl, rfl⟩) | (go_at_call 16; refine (pawake_any _).mono ?_; rintro e w' ⟨rfl, rfl⟩))
      go_ret
      exact ⟨rfl, rfl⟩
    have hf := fun v => full_any l (cutN n W) W v
    rw [full_back i1 (by omega) (by omega) (by omega) i5] at hf
    clear h0 i1 i2
    go_enter Try.func5, Try.ntmps5
    go_wp2_with (first | (go_at_call 12; refine (hw _).mono ?_; rintro e w' ⟨rfl, rfl⟩) | (go_at_call 14; refine (cut_any _ _ _).mono ?_; rintro e w' ⟨rfl, rfl⟩) | (go_at_call 17; refine (hf _).mono ?_; rintro e w' ⟨rfl, rfl⟩) | (go_at_call 16; refine (pawake_any _).mono ?_; rintro e w' ⟨rfl, rfl⟩))
    go_ret
    exact ⟨rfl, rfl⟩
end Go.Proofs.Ythlmodhglldajaa
