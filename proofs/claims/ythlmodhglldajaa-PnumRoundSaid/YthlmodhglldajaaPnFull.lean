/- The program's Full: of three numbers the nearest. -/
import Derived.Test.YthlmodhglldajaaPnum
import Derived.Outline
namespace Go.Proofs.Ythlmodhglldajaa
open Go Go.RowKit

/-- What is nearest behind so many rounds. -/
def bst (e m T : Int) : Nat → Int
  | 0 => -1
  | 1 => best e (-1) (m + T)
  | 2 => best e (best e (-1) (m + T)) m
  | _ => bests e m T
theorem best_in {e p n : Int} (hp : -1 ≤ p ∧ p ≤ 4611686018427387903) : -1 ≤ best e p n ∧ best e p n ≤ 4611686018427387903 := by
  unfold best
  split
  · rename_i h
    have := (isNum_iff n).1 h.1
    omega
  · exact hp
theorem bst_in (e m T : Int) (k : Nat) : -1 ≤ bst e m T k ∧ bst e m T k ≤ 4611686018427387903 := by
  match k with
  | 0 => exact ⟨by simp [bst], by simp [bst]⟩
  | 1 => exact best_in ⟨by decide, by decide⟩
  | 2 => exact best_in (best_in ⟨by decide, by decide⟩)
  | n + 3 => exact best_in (best_in (best_in ⟨by decide, by decide⟩))
theorem best_here {e p n : Int} (h1 : isNum n = true) (h2 : p = -1 ∨ dst n e < dst p e) : best e p n = n := if_pos ⟨h1, h2⟩
theorem best_stay {e p n : Int} (h2 : p ≠ -1) (h3 : ¬ dst n e < dst p e) : best e p n = p := if_neg fun ⟨_, h⟩ => by rcases h with h | h; exact h2 h; exact h3 h
theorem best_out {e p n : Int} (h1 : isNum n = false) : best e p n = p := if_neg fun ⟨h, _⟩ => by rw [h1] at h; cases h

theorem full_no (g c w : Int) (W : World) (h : fullOk g c w = false) : Calls Try.prog 17 #[.int .i64 g, .int .i64 c, .int .i64 w] W fun e w' => e = .returned (.int .i64 (-1)) ∧ W = w' := by
  unfold fullOk at h
  by_cases h1 : g < -1
  · clear h
    go_enter Try.func17, Try.ntmps17
    go_wp2_with fail
    go_ret
    exact ⟨rfl, rfl⟩
  by_cases h2 : 4611686018427387903 < g
  · clear h
    go_enter Try.func17, Try.ntmps17
    go_wp2_with fail
    go_ret
    exact ⟨rfl, rfl⟩
  cases h3 : isWid w with
  | false =>
    have H3 := Lib.hid h3
    clear h h3
    go_enter Try.func17, Try.ntmps17
    go_wp2_with (go_at_call 29; refine (isWidth_any _ _).mono ?_; rintro e w' ⟨rfl, rfl⟩; rw [H3.out])
    go_ret
    exact ⟨rfl, rfl⟩
  | true =>
    have H3 := Lib.hid h3
    by_cases h4 : c < 0
    · clear h h3
      go_enter Try.func17, Try.ntmps17
      go_wp2_with (go_at_call 29; refine (isWidth_any _ _).mono ?_; rintro e w' ⟨rfl, rfl⟩; rw [H3.out])
      go_ret
      exact ⟨rfl, rfl⟩
    have h5 : tn w ≤ c := by
      rw [h3] at h
      simp only [Bool.and_eq_false_iff, decide_eq_false_iff_not] at h
      have : (true = false) = False := by simp
      simp only [this, or_false] at h
      omega
    clear h h3
    go_enter Try.func17, Try.ntmps17
    go_wp2_with (first | (go_at_call 29; refine (isWidth_any _ _).mono ?_; rintro e w' ⟨rfl, rfl⟩; rw [H3.out]) | (go_at_call 27; refine (turn_any _ _ H3.out).mono ?_; rintro e w' ⟨rfl, rfl⟩))
    go_ret
    exact ⟨rfl, rfl⟩

/-- What a round does: the number at that place, and what is nearest behind it. -/
theorem round_at (E m T : Int) (k : Nat) (hk : k < 3) : ∃ n, (∀ w, (Instr.index 47 (.agg #[.int .i64 (m + T), .int .i64 m, .int .i64 (m - T)]) (.int .i64 k)).run Try.prog w = .ok (.int .i64 n) w) ∧ bst E m T (k + 1) = best E (bst E m T k) n ∧ (n = m + T ∨ n = m ∨ n = m - T) := by
  have hk' : k = 0 ∨ k = 1 ∨ k = 2 := by omega
  rcases hk' with rfl | rfl | rfl
  · exact ⟨m + T, fun w => by kernel_rfl, rfl, by omega⟩
  · exact ⟨m, fun w => by kernel_rfl, rfl, by omega⟩
  · exact ⟨m - T, fun w => by kernel_rfl, rfl, by omega⟩

set_option maxHeartbeats 1000000 in
theorem full_W (E c w T : Int) (W : World) (h1 : 0 ≤ E) (h2 : E ≤ 4611686018427387904) (h4 : 0 ≤ c) (h5 : c < T) (hc : w = 1 ∧ T = 256 ∨ w = 2 ∧ T = 65536 ∨ w = 3 ∧ T = 16777216 ∨ w = 4 ∧ T = 4294967296)
    (hT : ∀ v : World, Calls Try.prog 27 #[.int .i64 w] v fun e w' => e = .returned (.int .i64 T) ∧ v = w') (hW : ∀ v : World, Calls Try.prog 29 #[.int .i64 w] v fun e w' => e = .returned (.bool true) ∧ v = w') :
    Calls Try.prog 17 #[.int .i64 (E - 1), .int .i64 c, .int .i64 w] W fun e w' => e = .returned (.int .i64 (bests E (E - E % T + c) T)) ∧ W = w' := by
  rcases hc with ⟨rfl, rfl⟩ | ⟨rfl, rfl⟩ | ⟨rfl, rfl⟩ | ⟨rfl, rfl⟩

  · go_enter Try.func17, Try.ntmps17
    go_wp2_with (first | (go_at_call 29; refine (hW _).mono ?_; rintro e w' ⟨rfl, rfl⟩) | (go_at_call 27; refine (hT _).mono ?_; rintro e w' ⟨rfl, rfl⟩))
    go_loop [9, 53] (fun p i => ∃ (k : Nat), k ≤ 3 ∧ i = .int .i64 k ∧ p = .int .i64 (bst E (E - E % 256 + c) 256 k)) (fun _ i => 3 - (intOf i).toNat)
    case atStart => exact ⟨0, by omega, rfl, rfl⟩
    case round =>
      obtain ⟨k, hk, rfl, rfl⟩ := hrel
      by_cases hlt : k < 3
      · obtain ⟨n, hn, hb, hr⟩ := round_at E (E - E % 256 + c) 256 k hlt
        have hp := bst_in E (E - E % 256 + c) 256 k
        have hnb : -4294967296 ≤ n ∧ n ≤ 4611686030000000000 := by omega
        generalize bst E (E - E % 256 + c) 256 k = p at hb hp
        have HB := Lib.hid hb
        clear hb hr hT hW
        have hk' : (k : Int) < 3 := by omega
        cases hi : isNum n with
        | false =>
          have HI := Lib.hid hi
          clear hi
          go_wp2_with (go_at_call 26; refine (isNumber_any _ _).mono ?_; rintro e w' ⟨rfl, rfl⟩; rw [HI.out])
          go_round
          case rel => exact ⟨k + 1, by omega, by go_num, by rw [HB.out, best_out HI.out]⟩
          case measure => simp [intOf]; omega
        | true =>
          have HI := Lib.hid hi
          clear hi
          by_cases hp1 : p = -1
          · have hpb : (p == -1) = true := by rw [beq_iff_eq]; exact hp1
            have HP := Lib.hid hp1
            clear hp1
            go_wp2_with (go_at_call 26; refine (isNumber_any _ _).mono ?_; rintro e w' ⟨rfl, rfl⟩; rw [HI.out])
            go_round
            case rel => exact ⟨k + 1, by omega, by go_num, by rw [HB.out, best_here HI.out (Or.inl HP.out)]⟩
            case measure => simp [intOf]; omega
          · have hpb : (p == -1) = false := by rw [beq_eq_false_iff_ne]; exact hp1
            have HP := Lib.hid hp1
            clear hp1
            by_cases hd : dst n E < dst p E
            · go_wp2_with (first | (go_at_call 26; refine (isNumber_any _ _).mono ?_; rintro e w' ⟨rfl, rfl⟩; rw [HI.out]) | (go_at_call 30; refine (dst_any _ _ _ (by omega) (by omega) (by omega) (by omega)).mono ?_; rintro e w' ⟨rfl, rfl⟩))
              go_round
              case rel => exact ⟨k + 1, by omega, by go_num, by rw [HB.out, best_here HI.out (Or.inr hd)]⟩
              case measure => simp [intOf]; omega
            · go_wp2_with (first | (go_at_call 26; refine (isNumber_any _ _).mono ?_; rintro e w' ⟨rfl, rfl⟩; rw [HI.out]) | (go_at_call 30; refine (dst_any _ _ _ (by omega) (by omega) (by omega) (by omega)).mono ?_; rintro e w' ⟨rfl, rfl⟩))
              go_round
              case rel => exact ⟨k + 1, by omega, by go_num, by rw [HB.out, best_stay HP.out (by omega)]⟩
              case measure => simp [intOf]; omega
      · obtain rfl : k = 3 := by omega
        go_wp2_with fail
        go_ret
        exact ⟨rfl, rfl⟩
  · go_enter Try.func17, Try.ntmps17
    go_wp2_with (first | (go_at_call 29; refine (hW _).mono ?_; rintro e w' ⟨rfl, rfl⟩) | (go_at_call 27; refine (hT _).mono ?_; rintro e w' ⟨rfl, rfl⟩))
    go_loop [9, 53] (fun p i => ∃ (k : Nat), k ≤ 3 ∧ i = .int .i64 k ∧ p = .int .i64 (bst E (E - E % 65536 + c) 65536 k)) (fun _ i => 3 - (intOf i).toNat)
    case atStart => exact ⟨0, by omega, rfl, rfl⟩
    case round =>
      obtain ⟨k, hk, rfl, rfl⟩ := hrel
      by_cases hlt : k < 3
      · obtain ⟨n, hn, hb, hr⟩ := round_at E (E - E % 65536 + c) 65536 k hlt
        have hp := bst_in E (E - E % 65536 + c) 65536 k
        have hnb : -4294967296 ≤ n ∧ n ≤ 4611686030000000000 := by omega
        generalize bst E (E - E % 65536 + c) 65536 k = p at hb hp
        have HB := Lib.hid hb
        clear hb hr hT hW
        have hk' : (k : Int) < 3 := by omega
        cases hi : isNum n with
        | false =>
          have HI := Lib.hid hi
          clear hi
          go_wp2_with (go_at_call 26; refine (isNumber_any _ _).mono ?_; rintro e w' ⟨rfl, rfl⟩; rw [HI.out])
          go_round
          case rel => exact ⟨k + 1, by omega, by go_num, by rw [HB.out, best_out HI.out]⟩
          case measure => simp [intOf]; omega
        | true =>
          have HI := Lib.hid hi
          clear hi
          by_cases hp1 : p = -1
          · have hpb : (p == -1) = true := by rw [beq_iff_eq]; exact hp1
            have HP := Lib.hid hp1
            clear hp1
            go_wp2_with (go_at_call 26; refine (isNumber_any _ _).mono ?_; rintro e w' ⟨rfl, rfl⟩; rw [HI.out])
            go_round
            case rel => exact ⟨k + 1, by omega, by go_num, by rw [HB.out, best_here HI.out (Or.inl HP.out)]⟩
            case measure => simp [intOf]; omega
          · have hpb : (p == -1) = false := by rw [beq_eq_false_iff_ne]; exact hp1
            have HP := Lib.hid hp1
            clear hp1
            by_cases hd : dst n E < dst p E
            · go_wp2_with (first | (go_at_call 26; refine (isNumber_any _ _).mono ?_; rintro e w' ⟨rfl, rfl⟩; rw [HI.out]) | (go_at_call 30; refine (dst_any _ _ _ (by omega) (by omega) (by omega) (by omega)).mono ?_; rintro e w' ⟨rfl, rfl⟩))
              go_round
              case rel => exact ⟨k + 1, by omega, by go_num, by rw [HB.out, best_here HI.out (Or.inr hd)]⟩
              case measure => simp [intOf]; omega
            · go_wp2_with (first | (go_at_call 26; refine (isNumber_any _ _).mono ?_; rintro e w' ⟨rfl, rfl⟩; rw [HI.out]) | (go_at_call 30; refine (dst_any _ _ _ (by omega) (by omega) (by omega) (by omega)).mono ?_; rintro e w' ⟨rfl, rfl⟩))
              go_round
              case rel => exact ⟨k + 1, by omega, by go_num, by rw [HB.out, best_stay HP.out (by omega)]⟩
              case measure => simp [intOf]; omega
      · obtain rfl : k = 3 := by omega
        go_wp2_with fail
        go_ret
        exact ⟨rfl, rfl⟩
  · go_enter Try.func17, Try.ntmps17
    go_wp2_with (first | (go_at_call 29; refine (hW _).mono ?_; rintro e w' ⟨rfl, rfl⟩) | (go_at_call 27; refine (hT _).mono ?_; rintro e w' ⟨rfl, rfl⟩))
    go_loop [9, 53] (fun p i => ∃ (k : Nat), k ≤ 3 ∧ i = .int .i64 k ∧ p = .int .i64 (bst E (E - E % 16777216 + c) 16777216 k)) (fun _ i => 3 - (intOf i).toNat)
    case atStart => exact ⟨0, by omega, rfl, rfl⟩
    case round =>
      obtain ⟨k, hk, rfl, rfl⟩ := hrel
      by_cases hlt : k < 3
      · obtain ⟨n, hn, hb, hr⟩ := round_at E (E - E % 16777216 + c) 16777216 k hlt
        have hp := bst_in E (E - E % 16777216 + c) 16777216 k
        have hnb : -4294967296 ≤ n ∧ n ≤ 4611686030000000000 := by omega
        generalize bst E (E - E % 16777216 + c) 16777216 k = p at hb hp
        have HB := Lib.hid hb
        clear hb hr hT hW
        have hk' : (k : Int) < 3 := by omega
        cases hi : isNum n with
        | false =>
          have HI := Lib.hid hi
          clear hi
          go_wp2_with (go_at_call 26; refine (isNumber_any _ _).mono ?_; rintro e w' ⟨rfl, rfl⟩; rw [HI.out])
          go_round
          case rel => exact ⟨k + 1, by omega, by go_num, by rw [HB.out, best_out HI.out]⟩
          case measure => simp [intOf]; omega
        | true =>
          have HI := Lib.hid hi
          clear hi
          by_cases hp1 : p = -1
          · have hpb : (p == -1) = true := by rw [beq_iff_eq]; exact hp1
            have HP := Lib.hid hp1
            clear hp1
            go_wp2_with (go_at_call 26; refine (isNumber_any _ _).mono ?_; rintro e w' ⟨rfl, rfl⟩; rw [HI.out])
            go_round
            case rel => exact ⟨k + 1, by omega, by go_num, by rw [HB.out, best_here HI.out (Or.inl HP.out)]⟩
            case measure => simp [intOf]; omega
          · have hpb : (p == -1) = false := by rw [beq_eq_false_iff_ne]; exact hp1
            have HP := Lib.hid hp1
            clear hp1
            by_cases hd : dst n E < dst p E
            · go_wp2_with (first | (go_at_call 26; refine (isNumber_any _ _).mono ?_; rintro e w' ⟨rfl, rfl⟩; rw [HI.out]) | (go_at_call 30; refine (dst_any _ _ _ (by omega) (by omega) (by omega) (by omega)).mono ?_; rintro e w' ⟨rfl, rfl⟩))
              go_round
              case rel => exact ⟨k + 1, by omega, by go_num, by rw [HB.out, best_here HI.out (Or.inr hd)]⟩
              case measure => simp [intOf]; omega
            · go_wp2_with (first | (go_at_call 26; refine (isNumber_any _ _).mono ?_; rintro e w' ⟨rfl, rfl⟩; rw [HI.out]) | (go_at_call 30; refine (dst_any _ _ _ (by omega) (by omega) (by omega) (by omega)).mono ?_; rintro e w' ⟨rfl, rfl⟩))
              go_round
              case rel => exact ⟨k + 1, by omega, by go_num, by rw [HB.out, best_stay HP.out (by omega)]⟩
              case measure => simp [intOf]; omega
      · obtain rfl : k = 3 := by omega
        go_wp2_with fail
        go_ret
        exact ⟨rfl, rfl⟩
  · go_enter Try.func17, Try.ntmps17
    go_wp2_with (first | (go_at_call 29; refine (hW _).mono ?_; rintro e w' ⟨rfl, rfl⟩) | (go_at_call 27; refine (hT _).mono ?_; rintro e w' ⟨rfl, rfl⟩))
    go_loop [9, 53] (fun p i => ∃ (k : Nat), k ≤ 3 ∧ i = .int .i64 k ∧ p = .int .i64 (bst E (E - E % 4294967296 + c) 4294967296 k)) (fun _ i => 3 - (intOf i).toNat)
    case atStart => exact ⟨0, by omega, rfl, rfl⟩
    case round =>
      obtain ⟨k, hk, rfl, rfl⟩ := hrel
      by_cases hlt : k < 3
      · obtain ⟨n, hn, hb, hr⟩ := round_at E (E - E % 4294967296 + c) 4294967296 k hlt
        have hp := bst_in E (E - E % 4294967296 + c) 4294967296 k
        have hnb : -4294967296 ≤ n ∧ n ≤ 4611686030000000000 := by omega
        generalize bst E (E - E % 4294967296 + c) 4294967296 k = p at hb hp
        have HB := Lib.hid hb
        clear hb hr hT hW
        have hk' : (k : Int) < 3 := by omega
        cases hi : isNum n with
        | false =>
          have HI := Lib.hid hi
          clear hi
          go_wp2_with (go_at_call 26; refine (isNumber_any _ _).mono ?_; rintro e w' ⟨rfl, rfl⟩; rw [HI.out])
          go_round
          case rel => exact ⟨k + 1, by omega, by go_num, by rw [HB.out, best_out HI.out]⟩
          case measure => simp [intOf]; omega
        | true =>
          have HI := Lib.hid hi
          clear hi
          by_cases hp1 : p = -1
          · have hpb : (p == -1) = true := by rw [beq_iff_eq]; exact hp1
            have HP := Lib.hid hp1
            clear hp1
            go_wp2_with (go_at_call 26; refine (isNumber_any _ _).mono ?_; rintro e w' ⟨rfl, rfl⟩; rw [HI.out])
            go_round
            case rel => exact ⟨k + 1, by omega, by go_num, by rw [HB.out, best_here HI.out (Or.inl HP.out)]⟩
            case measure => simp [intOf]; omega
          · have hpb : (p == -1) = false := by rw [beq_eq_false_iff_ne]; exact hp1
            have HP := Lib.hid hp1
            clear hp1
            by_cases hd : dst n E < dst p E
            · go_wp2_with (first | (go_at_call 26; refine (isNumber_any _ _).mono ?_; rintro e w' ⟨rfl, rfl⟩; rw [HI.out]) | (go_at_call 30; refine (dst_any _ _ _ (by omega) (by omega) (by omega) (by omega)).mono ?_; rintro e w' ⟨rfl, rfl⟩))
              go_round
              case rel => exact ⟨k + 1, by omega, by go_num, by rw [HB.out, best_here HI.out (Or.inr hd)]⟩
              case measure => simp [intOf]; omega
            · go_wp2_with (first | (go_at_call 26; refine (isNumber_any _ _).mono ?_; rintro e w' ⟨rfl, rfl⟩; rw [HI.out]) | (go_at_call 30; refine (dst_any _ _ _ (by omega) (by omega) (by omega) (by omega)).mono ?_; rintro e w' ⟨rfl, rfl⟩))
              go_round
              case rel => exact ⟨k + 1, by omega, by go_num, by rw [HB.out, best_stay HP.out (by omega)]⟩
              case measure => simp [intOf]; omega
      · obtain rfl : k = 3 := by omega
        go_wp2_with fail
        go_ret
        exact ⟨rfl, rfl⟩
/-- The program's Full is the document's. -/
theorem full_any (g c w : Int) (W : World) : Calls Try.prog 17 #[.int .i64 g, .int .i64 c, .int .i64 w] W fun e w' => e = .returned (.int .i64 (fullN g c w)) ∧ W = w' := by
  cases h : fullOk g c w with
  | false =>
    have e : fullN g c w = -1 := by unfold fullN; rw [h]; rfl
    rw [e]
    exact full_no g c w W h
  | true =>
    have e : fullN g c w = near (g + 1) c (tn w) := by unfold fullN; rw [h]; rfl
    rw [e]
    unfold fullOk at h
    simp only [Bool.and_eq_true, decide_eq_true_eq] at h
    obtain ⟨⟨⟨⟨h1, h2⟩, h3⟩, h4⟩, h5⟩ := h
    have hc := tn_cases h3
    rw [← bests_near (by omega) (by omega) (by omega) h4 h5]
    have := full_W (g + 1) c w (tn w) W (by omega) (by omega) h4 h5 hc (fun v => turn_any w v h3) (fun v => by have := isWidth_any w v; rw [h3] at this; exact this)
    rwa [Int.add_sub_cancel] at this
end Go.Proofs.Ythlmodhglldajaa
