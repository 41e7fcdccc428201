/- Add whatever the number; told; what the chapter's example says; numbers that follow one another. -/
import Derived.Test.YtnfednhleedljaaSpAdd4
namespace Go.Proofs.Ytnfednhleedljaa
open Go Go.RowKit

/-- Behind Add: the set as the plain function has it; nothing else has changed. -/
def Added (w : World) (B : Nat) (s : Set0) (n : Int) (w' : World) : Prop := Sn w' B (addS s n) ∧ But B w w'
theorem add_any {w : World} {B : Nat} {s : Set0} (h : Sn w B s) (n : Int) : Calls Try.prog 7 #[.pointer (some ⟨B, 0, none⟩), .int .i64 n] w fun e w' => e = .returned (.bool (okB s n)) ∧ Added w B s n w' := by
  cases hb : okB s n with
  | false =>
    refine (add_no h n hb).mono fun e w' ⟨he, hw⟩ => ⟨he, ?_, But.of_below hw⟩
    have e : addS s n = s := by unfold addS; rw [hb]; rfl
    rw [e]; exact h.below hw
  | true =>
    have e : addS s n = keepS (midS s.1 n) s.2 := by unfold addS; rw [if_pos hb]
    by_cases he : s.1 = []
    · refine (add_first h n hb he).mono fun e' w' ⟨h1, h2⟩ => ⟨h1, ?_⟩
      unfold Added; rw [e]; exact h2
    · refine (add_more h n hb he).mono fun e' w' ⟨h1, h2⟩ => ⟨h1, ?_⟩
      unfold Added; rw [e]; exact h2
theorem set_new (w : World) : Sn (w.alloc (.cells #[.slice none 0 0, .int .i64 0] 26)) w.heap.size ([], 0) :=
  ⟨OkS.nil, .slice none 0 0, heap_alloc_new _ _, Rs.nil _, fun h => absurd rfl h, fun _ => rfl⟩
theorem Sn.drewN {w : World} {B : Nat} {s : Set0} (h : Sn w B s) (k : Nat) : Sn (w.drewN k) B s := h.below ⟨rfl, rfl, rfl, Nat.le_refl _, fun _ _ => rfl⟩
theorem drewN_below (w : World) (k : Nat) : Below w.heap.size w (w.drewN k) := ⟨rfl, rfl, rfl, Nat.le_refl _, fun _ _ => rfl⟩

set_option maxHeartbeats 1000000 in
theorem told_some {w : World} {b off cap b' off' cap' : Nat} {S : List Sp} (h : At w b off S) (h' : At w b' off' S) (hl : S.length ≤ 1000) :
    Calls Try.prog 9 #[.slice (some ⟨b, off, none⟩) S.length cap, .slice (some ⟨b', off', none⟩) S.length cap'] w fun e w' => e = .returned (.bool true) ∧ ∃ k, w' = w.drewN k := by
  have H := Lib.hid h
  have H' := Lib.hid h'
  have hl' : (S.length : Int) ≤ 1000 := by omega
  clear h h'
  go_enter Try.func9, Try.ntmps9
  go_wp2_with fail
  go_loopw [5] (fun i wr => ∃ k m : Nat, i = .int .i64 k ∧ k ≤ S.length ∧ wr = w.drewN m) (fun i _ => S.length - (intOf i).toNat)
  case atStart => exact ⟨0, 0, rfl, by omega, rfl⟩
  case round =>
    obtain ⟨k, m, rfl, hk, rfl⟩ := hrel
    have hk' : (k : Int) ≤ (S.length : Int) := by omega
    by_cases hlt : k < S.length
    · have hlt' : (k : Int) < (S.length : Int) := by omega
      obtain ⟨x1, x2⟩ := H.out k hlt
      obtain ⟨y1, y2⟩ := H'.out k hlt
      generalize (S.getD k (0, 0)).1 = x at *
      generalize (S.getD k (0, 0)).2 = y at *
      go_wp2_with fail
      go_quiet (fail)
      go_wp2_with fail
      go_roundw
      case rel => exact ⟨k + 1, _, by go_num, by omega, rfl⟩
      case measure => simp [intOf]; omega
    · obtain rfl : k = S.length := by omega
      go_wp2_with fail
      go_ret
      exact ⟨rfl, _, rfl⟩
theorem told_none {w : World} {ao bo : Option Addr} {cap cap' : Nat} :
    Calls Try.prog 9 #[.slice ao 0 cap, .slice bo 0 cap'] w fun e w' => e = .returned (.bool true) ∧ ∃ k, w' = w.drewN k := by
  go_enter Try.func9, Try.ntmps9
  go_wp2_with fail
  go_loop [5] (fun i => i = .int .i64 0) (fun _ => 0)
  case atStart => rfl
  case round =>
    subst hrel
    go_wp2_with fail
    go_ret
    exact ⟨rfl, 0, rfl⟩
theorem told_true {w : World} {v u : Value} {S : List Sp} (h : Rs w v S) (h' : Rs w u S) (hl : S.length ≤ 1000) :
    Calls Try.prog 9 #[v, u] w fun e w' => e = .returned (.bool true) ∧ ∃ k, w' = w.drewN k := by
  rcases h.cases with ⟨rfl, ao, cap, rfl, _⟩ | ⟨b, off, cap, rfl, h1, _, _, _, h5⟩
  · obtain ⟨bo, cap', rfl⟩ := h'.out
    exact told_none
  · rcases h'.cases with ⟨rfl, _⟩ | ⟨b', off', cap', rfl, _, _, _, _, g5⟩
    · simp at h1
    · exact told_some h5 g5 hl

/-- Numbers that follow one another. -/
def runS (f : Int) (i : Nat) : Set0 := if i = 0 then ([], 0) else ([(f, f + i - 1)], 0)
theorem run_ok {f : Int} {i : Nat} (h0 : 0 ≤ f) (h1 : f ≤ 4294967295) (hi : i ≤ 300) : okB (runS f i) (f + i) = true ∧ addS (runS f i) (f + i) = runS f (i + 1) := by
  unfold runS
  by_cases h : i = 0
  · subst h
    have e : okB ([], 0) (f + (0 : Nat)) = true := okB_iff.2 ⟨by simp; omega, by simp; omega, by simp; omega, rfl⟩
    refine ⟨by simpa using e, ?_⟩
    unfold addS
    rw [if_pos rfl, if_pos e]
    simp [midS, keepS, abv, blw, topA, botB]
  · rw [if_neg h]
    have hd : decide (f + (i : Int) < f) = false := decide_eq_false (by omega)
    have e : okB ([(f, f + (i : Int) - 1)], 0) (f + (i : Int)) = true := okB_iff.2 ⟨by omega, by omega, by simp; omega, by
      simp only [hasB, blw, List.dropWhile_cons, hd]
      simp; omega⟩
    refine ⟨e, ?_⟩
    unfold addS
    rw [if_pos e]
    simp only [midS, abv, blw, List.takeWhile_cons, List.dropWhile_cons, hd]
    simp [keepS, topA, botB]
    omega
theorem ex_1 : okB ([], 0) 1 = true ∧ addS ([], 0) 1 = ([(1, 1)], 0) := by decide
theorem ex_3 : okB ([(1, 1)], 0) 3 = true ∧ addS ([(1, 1)], 0) 3 = ([(3, 3), (1, 1)], 0) := by decide
theorem ex_2 : okB ([(3, 3), (1, 1)], 0) 2 = true ∧ addS ([(3, 3), (1, 1)], 0) 2 = ([(1, 3)], 0) := by decide
theorem ex_4 : okB ([(1, 3)], 0) 2 = false ∧ addS ([(1, 3)], 0) 2 = ([(1, 3)], 0) := by decide
theorem add_to {w : World} {B : Nat} {s t : Set0} {n : Int} {b : Bool} (h : Sn w B s) (hb : okB s n = b ∧ addS s n = t) : Calls Try.prog 7 #[.pointer (some ⟨B, 0, none⟩), .int .i64 n] w fun e w' => e = .returned (.bool b) ∧ Sn w' B t ∧ But B w w' := by
  have := add_any h n
  rw [hb.1] at this
  refine this.mono fun e w' ⟨he, hs, hw⟩ => ⟨he, ?_, hw⟩
  rw [← hb.2]; exact hs
theorem lit_one (w : World) (f t : Int) (T : TypeId) : Rs (w.alloc (.cells #[.int .i64 f, .int .i64 t] T)) (.slice (some ⟨w.heap.size, 0, none⟩) 1 1) [(f, t)] := by
  refine ⟨some ⟨w.heap.size, 0, none⟩, 1, rfl, Nat.le_refl _, by simp [maxLen], (fun h => by cases h), fun a ha j hj => ?_⟩
  cases ha
  obtain rfl : j = 0 := by simp at hj; omega
  simp [go_sem, Addr.add]
set_option maxHeartbeats 1000000 in
theorem awake_any (w : World) : Calls Try.prog 15 #[] w fun e w' => e = .returned (.bool true) ∧ Below w.heap.size w w' := by
  have hS := set_new w
  have hbut := But.refl w.heap.size (w.alloc (.cells #[.slice none 0 0, .int .i64 0] 26))
  go_enter Try.func15, Try.ntmps15
  go_wp2_with (first
    | (go_at_call 7; refine (add_to hS ex_1).mono ?_; rintro e w1 ⟨rfl, hS, hb1⟩; have hbut := hbut.trans hb1; clear hb1)
    | (go_at_call 7; refine (add_to hS ex_3).mono ?_; rintro e w1 ⟨rfl, hS, hb1⟩; have hbut := hbut.trans hb1; clear hb1)
    | (go_at_call 7; refine (add_to hS ex_2).mono ?_; rintro e w1 ⟨rfl, hS, hb1⟩; have hbut := hbut.trans hb1; clear hb1)
    | (go_at_call 7; refine (add_to hS ex_4).mono ?_; rintro e w1 ⟨rfl, hS, hb1⟩; have hbut := hbut.trans hb1; clear hb1)
    | (go_at_call 10; refine (spans_any hS).mono ?_; rintro e w5 ⟨v5, rfl, ho5, hb5⟩; have h5 := Lib.hid (Rs.of_own ho5).1; clear ho5)
    | (go_at_call 9; refine (told_true (h5.out.below (below_alloc _ _)) (lit_one _ _ _ _) (by simp)).mono ?_; rintro e w6 ⟨rfl, k6, rfl⟩))
  go_ret
  refine ⟨rfl, ?_⟩
  have hb0 := hbut.below (below_alloc w _) (Nat.le_refl _) (by simp)
  have hz := hb0.size
  exact ((hb0.trans (hb5.mono hz)).alloc (by have := hb5.size; omega) _).trans ((drewN_below _ _).mono (by simp; have := hb5.size; omega))
set_option maxHeartbeats 1000000 in
theorem runs_walk (f m : Int) (h0 : 0 ≤ f) (h1 : f ≤ 4294967295) (h2 : 0 ≤ m) (h3 : m ≤ 65535) (w : World) : Calls Try.prog 6 #[.int .u32 f, .int .u16 m] w fun e w' => e = .returned (.bool true) ∧ Below w.heap.size w w' := by
  have hS := set_new w
  have hbut := But.refl w.heap.size (w.alloc (.cells #[.slice none 0 0, .int .i64 0] 26))
  have hr0 : 0 ≤ m % 300 := by omega
  have hr1 : m % 300 ≤ 299 := by omega
  go_enter Try.func6, Try.ntmps6
  go_wp2_with fail
  generalize m % 300 = r at *
  obtain ⟨K, rfl⟩ := Int.eq_ofNat_of_zero_le hr0
  clear hr0
  go_loopw [7] (fun i wr => ∃ k : Nat, i = .int .i64 k ∧ k ≤ K + 1 ∧ Sn wr w.heap.size (runS f k) ∧ But w.heap.size (w.alloc (.cells #[.slice none 0 0, .int .i64 0] 26)) wr) (fun i _ => K + 1 - (intOf i).toNat)
  case atStart => exact ⟨0, rfl, by omega, hS, hbut⟩
  case round =>
    clear hS hbut
    obtain ⟨k, rfl, hk, hS, hbut⟩ := hrel
    have hk' : (k : Int) ≤ (K : Int) + 1 := by omega
    by_cases hlt : k < K + 1
    · have hlt' : (k : Int) < (K : Int) + 1 := by omega
      have hr := Lib.hid (run_ok (f := f) (i := k) h0 h1 (by omega))
      go_wp2_with (go_at_call 7; refine (add_to hS hr.out).mono ?_; rintro e w1 ⟨rfl, hS1, hb1⟩)
      go_roundw
      case rel => exact ⟨k + 1, by go_num, by omega, hS1, hbut.trans hb1⟩
      case measure => simp [intOf]; omega
    · obtain rfl : k = K + 1 := by omega
      have e : runS f (K + 1) = ([(f, f + (K : Int))], 0) := by unfold runS; rw [if_neg (by omega)]; simp; omega
      rw [e] at hS
      have HB := Lib.hid (hbut.below (below_alloc w _) (Nat.le_refl _) (by simp))
      clear e hk hlt hbut
      go_wp2_with fail
      refine (spans_any hS).mono ?_
      rintro e w5 ⟨v5, rfl, ho5, hb5⟩
      rcases (Rs.of_own ho5).1.cases with ⟨h, _⟩ | ⟨b, off, cap, rfl, _, _, _, _, h5⟩
      · cases h
      have hx := h5 0 (by simp)
      simp only [List.getD_cons_zero, Nat.zero_mul, Nat.add_zero] at hx
      have hfl := floor_any (hS.below hb5)
      have hz := Nat.le_trans HB.out.size hb5.size
      have HB5 := Lib.hid (HB.out.trans (hb5.mono HB.out.size))
      clear h5 ho5 hb5 hS
      go_wp2_with (first
        | (go_at_call 12; refine hfl.mono ?_; rintro e w' ⟨rfl, rfl⟩)
        | (go_at_call 15; refine (awake_any _).mono ?_; rintro e w6 ⟨rfl, hb6⟩))
      go_ret
      exact ⟨rfl, HB5.out.trans (hb6.mono hz)⟩
end Go.Proofs.Ytnfednhleedljaa
