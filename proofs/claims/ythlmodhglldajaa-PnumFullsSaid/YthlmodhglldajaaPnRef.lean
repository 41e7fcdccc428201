/- The document's Width, Cut and Full. -/
import Derived.Test.YthlmodhglldajaaPnWide
namespace Go.Proofs.Ythlmodhglldajaa
open Go Go.RowKit

/-- 256 so often. -/
def pw (k : Nat) : Int := if k = 0 then 1 else tn k
theorem pw_succ {k : Nat} (hk : k < 4) : pw (k + 1) = pw k * 256 ∧ 1 ≤ pw k ∧ pw k ≤ 16777216 := by
  have : k = 0 ∨ k = 1 ∨ k = 2 ∨ k = 3 := by omega
  rcases this with rfl | rfl | rfl | rfl <;> decide
theorem power_any (n : Int) (w : World) (h : isWid n = true) : Calls Try.prog 28 #[.int .i64 n] w fun e w' => e = .returned (.int .i64 (tn n)) ∧ w = w' := by
  have hb := (isWid_iff n).1 h
  obtain ⟨N, rfl⟩ : ∃ N : Nat, n = N := ⟨n.toNat, by omega⟩
  have e : tn (N : Int) = pw N := by unfold pw; rw [if_neg (by omega)]
  rw [e]
  clear e h
  go_enter Try.func28, Try.ntmps28
  go_wp2
  go_loop [3, 4] (fun p i => ∃ k : Nat, k ≤ N ∧ i = .int .i64 k ∧ p = .int .i64 (pw k)) (fun _ i => N - (intOf i).toNat)
  case atStart => exact ⟨0, by omega, rfl, rfl⟩
  case round =>
    obtain ⟨k, hk, rfl, rfl⟩ := hrel
    by_cases hlt : k < N
    · obtain ⟨q1, q2, q3⟩ := pw_succ (k := k) (by omega)
      have HQ := Lib.hid q1
      clear q1
      go_wp2
      go_round
      case rel => exact ⟨k + 1, by omega, by go_num, by rw [HQ.out]⟩
      case measure => simp [intOf]; omega
    · obtain rfl : k = N := by omega
      go_wp2
      go_ret
      exact ⟨rfl, rfl⟩

theorem rwidth_no (n a : Int) (W : World) (h : widOk n a = false) : Calls Try.prog 13 #[.int .i64 n, .int .i64 a] W fun e w' => e = .returned (.int .i64 0) ∧ W = w' := by
  have h' : n < 0 ∨ 4611686018427387903 < n ∨ a < -1 ∨ n ≤ a := by
    unfold widOk isNum at h
    simp only [Bool.and_eq_false_iff, decide_eq_false_iff_not] at h
    omega
  clear h
  by_cases h1 : n < 0
  · clear h'
    go_enter Try.func13, Try.ntmps13
    go_wp2
    go_ret
    exact ⟨rfl, rfl⟩
  by_cases h2 : 4611686018427387903 < n
  · clear h'
    go_enter Try.func13, Try.ntmps13
    go_wp2
    go_ret
    exact ⟨rfl, rfl⟩
  by_cases h3 : a < -1
  · clear h'
    go_enter Try.func13, Try.ntmps13
    go_wp2
    go_ret
    exact ⟨rfl, rfl⟩
  have h4 : n ≤ a := by omega
  clear h'
  go_enter Try.func13, Try.ntmps13
  go_wp2
  go_ret
  exact ⟨rfl, rfl⟩
theorem widD_at' {k : Nat} {d : Int} (h : 1 ≤ k) (hk : k ≤ 4) (h1 : hal (k - 1) < d) (h0 : 0 < d) (h2 : d ≤ hal k) : widD d = (k : Int) := by
  obtain ⟨j, rfl⟩ : ∃ j, k = j + 1 := ⟨k - 1, by omega⟩
  exact widD_at (by omega) h1 h0 h2
theorem hal_at' {k : Nat} (h1 : 1 ≤ k) (hk : k ≤ 4) : isWid (k : Int) = true ∧ tn (k : Int) / 2 = hal k ∧ 0 ≤ tn (k : Int) ∧ tn (k : Int) ≤ 4294967296 := by
  have : k = 1 ∨ k = 2 ∨ k = 3 ∨ k = 4 := by omega
  rcases this with rfl | rfl | rfl | rfl <;> decide
set_option maxHeartbeats 400000 in
theorem rwidth_yes (n a : Int) (W : World) (h : widOk n a = true) : Calls Try.prog 13 #[.int .i64 n, .int .i64 a] W fun e w' => e = .returned (.int .i64 (widD (n - a))) ∧ W = w' := by
  unfold widOk at h
  simp only [Bool.and_eq_true, decide_eq_true_eq] at h
  obtain ⟨⟨h1, h2⟩, h3⟩ := h
  have hb := (isNum_iff n).1 h1
  clear h1
  go_enter Try.func13, Try.ntmps13
  go_wp2
  go_loop [5] (fun i => ∃ k : Nat, 1 ≤ k ∧ k ≤ 5 ∧ i = .int .i64 k ∧ hal (k - 1) < n - a) (fun i => 5 - (intOf i).toNat)
  case atStart => exact ⟨1, by omega, by omega, rfl, by simp [hal]; omega⟩
  case round =>
    obtain ⟨k, hk0, hk, rfl, hl⟩ := hrel
    by_cases hlt : k ≤ 4
    · obtain ⟨q1, q2, q3, q4⟩ := hal_at' hk0 hlt
      have hk' : (k : Int) ≤ 4 := by omega
      have HQ := Lib.hid q1
      have HT := Lib.hid q2
      clear q1 q2
      by_cases hd : n - a ≤ hal k
      · have hd' : n - a ≤ tn (k : Int) / 2 := by rw [HT.out]; exact hd
        have HE := Lib.hid (widD_at' hk0 hlt hl (by omega) hd)
        clear hd hl
        go_wp2_with (go_at_call 28; refine (power_any _ _ HQ.out).mono ?_; rintro e w' ⟨rfl, rfl⟩)
        go_ret
        exact ⟨ret_int HE.out.symm, rfl⟩
      · have hd' : ¬ (n - a ≤ tn (k : Int) / 2) := by rw [HT.out]; exact hd
        have hl2 : hal (k + 1 - 1) < n - a := by rw [Nat.add_sub_cancel]; omega
        clear hd hl
        go_wp2_with (go_at_call 28; refine (power_any _ _ HQ.out).mono ?_; rintro e w' ⟨rfl, rfl⟩)
        go_round
        case rel => exact ⟨k + 1, by omega, by omega, by go_num, hl2⟩
        case measure => simp [intOf]; omega
    · obtain rfl : k = 5 := by omega
      have HE := Lib.hid (widD_no hl)
      go_wp2_with fail
      go_ret
      exact ⟨ret_int HE.out.symm, rfl⟩
theorem rwidth_any (n a : Int) (W : World) : Calls Try.prog 13 #[.int .i64 n, .int .i64 a] W fun e w' => e = .returned (.int .i64 (widN n a)) ∧ W = w' := by
  cases h : widOk n a with
  | false =>
    have e : widN n a = 0 := by unfold widN; rw [if_pos h]
    rw [e]; exact rwidth_no n a W h
  | true =>
    have e : widN n a = widD (n - a) := by unfold widN widD; rw [if_neg (by rw [h]; decide)]
    rw [e]; exact rwidth_yes n a W h

theorem rcut_any (n w : Int) (W : World) : Calls Try.prog 15 #[.int .i64 n, .int .i64 w] W fun e w' => e = .returned (.int .i64 (cutN n w)) ∧ W = w' := by
  by_cases h1 : n < 0
  · have e : cutN n w = 0 := by unfold cutN cutOk isNum; rw [decide_eq_false (by omega)]; rfl
    rw [e]; clear e
    go_enter Try.func15, Try.ntmps15
    go_wp2
    go_ret
    exact ⟨rfl, rfl⟩
  by_cases h2 : 4611686018427387903 < n
  · have e : cutN n w = 0 := by unfold cutN cutOk isNum; rw [decide_eq_false (p := n ≤ _) (by omega)]; simp
    rw [e]; clear e
    go_enter Try.func15, Try.ntmps15
    go_wp2
    go_ret
    exact ⟨rfl, rfl⟩
  by_cases h3 : w < 1
  · have e : cutN n w = 0 := by unfold cutN cutOk isWid; rw [decide_eq_false (p := 1 ≤ w) (by omega)]; simp
    rw [e]; clear e
    go_enter Try.func15, Try.ntmps15
    go_wp2
    go_ret
    exact ⟨rfl, rfl⟩
  by_cases h4 : 4 < w
  · have e : cutN n w = 0 := by unfold cutN cutOk isWid; rw [decide_eq_false (p := w ≤ 4) (by omega)]; simp
    rw [e]; clear e
    go_enter Try.func15, Try.ntmps15
    go_wp2
    go_ret
    exact ⟨rfl, rfl⟩
  have h5 : isWid w = true := (isWid_iff w).2 (by omega)
  have e : cutN n w = n % tn w := by unfold cutN cutOk; rw [h5, (isNum_iff n).2 (by omega)]; rfl
  rw [e]; clear e
  have hT := fun v => power_any w v h5
  rcases tn_cases h5 with ⟨rfl, e⟩ | ⟨rfl, e⟩ | ⟨rfl, e⟩ | ⟨rfl, e⟩
  all_goals
    rw [e] at hT
    rw [e]
    clear e h5 h3 h4
    go_enter Try.func15, Try.ntmps15
    go_wp2_with (go_at_call 28; refine (hT _).mono ?_; rintro e w' ⟨rfl, rfl⟩)
    go_ret
    exact ⟨rfl, rfl⟩

theorem rfull_no (g c w : Int) (W : World) (h : fullOk g c w = false) : Calls Try.prog 18 #[.int .i64 g, .int .i64 c, .int .i64 w] W fun e w' => e = .returned (.int .i64 (-1)) ∧ W = w' := by
  by_cases h1 : g < -1
  · clear h
    go_enter Try.func18, Try.ntmps18
    go_wp2_with fail
    go_ret
    exact ⟨rfl, rfl⟩
  by_cases h2 : 4611686018427387903 < g
  · clear h
    go_enter Try.func18, Try.ntmps18
    go_wp2_with fail
    go_ret
    exact ⟨rfl, rfl⟩
  by_cases h3 : w < 1
  · clear h
    go_enter Try.func18, Try.ntmps18
    go_wp2_with fail
    go_ret
    exact ⟨rfl, rfl⟩
  by_cases h4 : 4 < w
  · clear h
    go_enter Try.func18, Try.ntmps18
    go_wp2_with fail
    go_ret
    exact ⟨rfl, rfl⟩
  by_cases h5 : c < 0
  · clear h
    go_enter Try.func18, Try.ntmps18
    go_wp2_with fail
    go_ret
    exact ⟨rfl, rfl⟩
  have h6 : isWid w = true := (isWid_iff w).2 (by omega)
  have h7 : tn w ≤ c := by
    unfold fullOk at h
    rw [h6] at h
    simp only [Bool.and_eq_false_iff, decide_eq_false_iff_not] at h
    have : (true = false) = False := by simp
    simp only [this, or_false] at h
    omega
  have H6 := Lib.hid h6
  clear h h6
  go_enter Try.func18, Try.ntmps18
  go_wp2_with (go_at_call 28; refine (power_any _ _ H6.out).mono ?_; rintro e w' ⟨rfl, rfl⟩)
  go_ret
  exact ⟨rfl, rfl⟩
/-- The document's remainder, as it is reckoned. -/
theorem tm_at (x b : Int) (hb : 0 < b) : ∃ R, x.tmod b = R ∧ -b < R ∧ R < b ∧ (R + b) % b = x % b := by
  refine ⟨_, rfl, Int.lt_tmod_of_pos x hb, Int.tmod_lt_of_pos x hb, ?_⟩
  have h := Int.tmod_add_mul_tdiv x b
  have e : x.tmod b + b = x + b * (1 - x.tdiv b) := by rw [Int.mul_sub, Int.mul_one]; omega
  rw [e, Int.add_mul_emod_self_left]
set_option maxHeartbeats 4000000 in
theorem rfull_W (E c w T : Int) (W : World) (h1 : 0 ≤ E) (h2 : E ≤ 4611686018427387904) (h4 : 0 ≤ c) (h5 : c < T) (hc : w = 1 ∧ T = 256 ∨ w = 2 ∧ T = 65536 ∨ w = 3 ∧ T = 16777216 ∨ w = 4 ∧ T = 4294967296)
    (hT : ∀ v : World, Calls Try.prog 28 #[.int .i64 w] v fun e w' => e = .returned (.int .i64 T) ∧ v = w') :
    Calls Try.prog 18 #[.int .i64 (E - 1), .int .i64 c, .int .i64 w] W fun e w' => e = .returned (.int .i64 (near E c T)) ∧ W = w' := by
  obtain ⟨R, r1, r2, r3, r4⟩ := tm_at (E - c) T (by omega)
  obtain ⟨D, hD⟩ : ∃ D, (E - c) % T = D := ⟨_, rfl⟩
  have hD0 : 0 ≤ D ∧ D < T := by rw [← hD]; exact ⟨Int.emod_nonneg _ (by omega), Int.emod_lt_of_pos _ (by omega)⟩
  unfold near pick
  rw [hD]
  rw [hD] at r4
  clear hD
  rcases hc with ⟨rfl, rfl⟩ | ⟨rfl, rfl⟩ | ⟨rfl, rfl⟩ | ⟨rfl, rfl⟩
  · by_cases k1 : 4611686018427387903 < E - D
    · rw [if_pos k1]
      go_enter Try.func18, Try.ntmps18
      go_wp2_with (go_at_call 28; refine (hT _).mono ?_; rintro e w' ⟨rfl, rfl⟩)
      go_ret
      exact ⟨rfl, rfl⟩
    · rw [if_neg k1]
      by_cases k2 : E - D < 0
      · rw [if_pos (Or.inl k2)]
        go_enter Try.func18, Try.ntmps18
        go_wp2_with (go_at_call 28; refine (hT _).mono ?_; rintro e w' ⟨rfl, rfl⟩)
        go_ret
        exact ⟨rfl, rfl⟩
      · by_cases k3 : E - D + 256 - E ≤ E - (E - D)
        · by_cases k4 : E - D + 256 ≤ 4611686018427387903
          · rw [if_pos (Or.inr ⟨k3, k4⟩)]
            go_enter Try.func18, Try.ntmps18
            go_wp2_with (go_at_call 28; refine (hT _).mono ?_; rintro e w' ⟨rfl, rfl⟩)
            go_ret
            exact ⟨rfl, rfl⟩
          · rw [if_neg (fun h => by rcases h with h | ⟨_, h⟩; exact k2 h; exact k4 h)]
            go_enter Try.func18, Try.ntmps18
            go_wp2_with (go_at_call 28; refine (hT _).mono ?_; rintro e w' ⟨rfl, rfl⟩)
            go_ret
            exact ⟨rfl, rfl⟩
        · rw [if_neg (fun h => by rcases h with h | ⟨h, _⟩; exact k2 h; exact k3 h)]
          go_enter Try.func18, Try.ntmps18
          go_wp2_with (go_at_call 28; refine (hT _).mono ?_; rintro e w' ⟨rfl, rfl⟩)
          go_ret
          exact ⟨rfl, rfl⟩
  · by_cases k1 : 4611686018427387903 < E - D
    · rw [if_pos k1]
      go_enter Try.func18, Try.ntmps18
      go_wp2_with (go_at_call 28; refine (hT _).mono ?_; rintro e w' ⟨rfl, rfl⟩)
      go_ret
      exact ⟨rfl, rfl⟩
    · rw [if_neg k1]
      by_cases k2 : E - D < 0
      · rw [if_pos (Or.inl k2)]
        go_enter Try.func18, Try.ntmps18
        go_wp2_with (go_at_call 28; refine (hT _).mono ?_; rintro e w' ⟨rfl, rfl⟩)
        go_ret
        exact ⟨rfl, rfl⟩
      · by_cases k3 : E - D + 65536 - E ≤ E - (E - D)
        · by_cases k4 : E - D + 65536 ≤ 4611686018427387903
          · rw [if_pos (Or.inr ⟨k3, k4⟩)]
            go_enter Try.func18, Try.ntmps18
            go_wp2_with (go_at_call 28; refine (hT _).mono ?_; rintro e w' ⟨rfl, rfl⟩)
            go_ret
            exact ⟨rfl, rfl⟩
          · rw [if_neg (fun h => by rcases h with h | ⟨_, h⟩; exact k2 h; exact k4 h)]
            go_enter Try.func18, Try.ntmps18
            go_wp2_with (go_at_call 28; refine (hT _).mono ?_; rintro e w' ⟨rfl, rfl⟩)
            go_ret
            exact ⟨rfl, rfl⟩
        · rw [if_neg (fun h => by rcases h with h | ⟨h, _⟩; exact k2 h; exact k3 h)]
          go_enter Try.func18, Try.ntmps18
          go_wp2_with (go_at_call 28; refine (hT _).mono ?_; rintro e w' ⟨rfl, rfl⟩)
          go_ret
          exact ⟨rfl, rfl⟩
  · by_cases k1 : 4611686018427387903 < E - D
    · rw [if_pos k1]
      go_enter Try.func18, Try.ntmps18
      go_wp2_with (go_at_call 28; refine (hT _).mono ?_; rintro e w' ⟨rfl, rfl⟩)
      go_ret
      exact ⟨rfl, rfl⟩
    · rw [if_neg k1]
      by_cases k2 : E - D < 0
      · rw [if_pos (Or.inl k2)]
        go_enter Try.func18, Try.ntmps18
        go_wp2_with (go_at_call 28; refine (hT _).mono ?_; rintro e w' ⟨rfl, rfl⟩)
        go_ret
        exact ⟨rfl, rfl⟩
      · by_cases k3 : E - D + 16777216 - E ≤ E - (E - D)
        · by_cases k4 : E - D + 16777216 ≤ 4611686018427387903
          · rw [if_pos (Or.inr ⟨k3, k4⟩)]
            go_enter Try.func18, Try.ntmps18
            go_wp2_with (go_at_call 28; refine (hT _).mono ?_; rintro e w' ⟨rfl, rfl⟩)
            go_ret
            exact ⟨rfl, rfl⟩
          · rw [if_neg (fun h => by rcases h with h | ⟨_, h⟩; exact k2 h; exact k4 h)]
            go_enter Try.func18, Try.ntmps18
            go_wp2_with (go_at_call 28; refine (hT _).mono ?_; rintro e w' ⟨rfl, rfl⟩)
            go_ret
            exact ⟨rfl, rfl⟩
        · rw [if_neg (fun h => by rcases h with h | ⟨h, _⟩; exact k2 h; exact k3 h)]
          go_enter Try.func18, Try.ntmps18
          go_wp2_with (go_at_call 28; refine (hT _).mono ?_; rintro e w' ⟨rfl, rfl⟩)
          go_ret
          exact ⟨rfl, rfl⟩
  · by_cases k1 : 4611686018427387903 < E - D
    · rw [if_pos k1]
      go_enter Try.func18, Try.ntmps18
      go_wp2_with (go_at_call 28; refine (hT _).mono ?_; rintro e w' ⟨rfl, rfl⟩)
      go_ret
      exact ⟨rfl, rfl⟩
    · rw [if_neg k1]
      by_cases k2 : E - D < 0
      · rw [if_pos (Or.inl k2)]
        go_enter Try.func18, Try.ntmps18
        go_wp2_with (go_at_call 28; refine (hT _).mono ?_; rintro e w' ⟨rfl, rfl⟩)
        go_ret
        exact ⟨rfl, rfl⟩
      · by_cases k3 : E - D + 4294967296 - E ≤ E - (E - D)
        · by_cases k4 : E - D + 4294967296 ≤ 4611686018427387903
          · rw [if_pos (Or.inr ⟨k3, k4⟩)]
            go_enter Try.func18, Try.ntmps18
            go_wp2_with (go_at_call 28; refine (hT _).mono ?_; rintro e w' ⟨rfl, rfl⟩)
            go_ret
            exact ⟨rfl, rfl⟩
          · rw [if_neg (fun h => by rcases h with h | ⟨_, h⟩; exact k2 h; exact k4 h)]
            go_enter Try.func18, Try.ntmps18
            go_wp2_with (go_at_call 28; refine (hT _).mono ?_; rintro e w' ⟨rfl, rfl⟩)
            go_ret
            exact ⟨rfl, rfl⟩
        · rw [if_neg (fun h => by rcases h with h | ⟨h, _⟩; exact k2 h; exact k3 h)]
          go_enter Try.func18, Try.ntmps18
          go_wp2_with (go_at_call 28; refine (hT _).mono ?_; rintro e w' ⟨rfl, rfl⟩)
          go_ret
          exact ⟨rfl, rfl⟩
/-- The document's Full, told as a sum. -/
theorem rfull_any (g c w : Int) (W : World) : Calls Try.prog 18 #[.int .i64 g, .int .i64 c, .int .i64 w] W fun e w' => e = .returned (.int .i64 (fullN g c w)) ∧ W = w' := by
  cases h : fullOk g c w with
  | false =>
    have e : fullN g c w = -1 := by unfold fullN; rw [h]; rfl
    rw [e]
    exact rfull_no g c w W h
  | true =>
    have e : fullN g c w = near (g + 1) c (tn w) := by unfold fullN; rw [h]; rfl
    rw [e]
    unfold fullOk at h
    simp only [Bool.and_eq_true, decide_eq_true_eq] at h
    obtain ⟨⟨⟨⟨h1, h2⟩, h3⟩, h4⟩, h5⟩ := h
    have := rfull_W (g + 1) c w (tn w) W (by omega) (by omega) h4 h5 (tn_cases h3) (fun v => power_any w v h3)
    rwa [Int.add_sub_cancel] at this
end Go.Proofs.Ythlmodhglldajaa
