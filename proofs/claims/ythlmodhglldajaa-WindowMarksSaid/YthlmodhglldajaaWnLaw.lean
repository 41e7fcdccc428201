/- The program's window: whatever is marked; the chapter's example; the laws of old numbers. -/
import Derived.Test.YthlmodhglldajaaWn
import Derived.Below
namespace Go.Proofs.Ythlmodhglldajaa
open Go Go.RowKit

/-- A window in block B, and nothing else changed. -/
def Mkd (w : World) (B : Nat) (L : List Int) (w' : World) : Prop := (∃ m', Wn w' B L m') ∧ But B w w'
theorem mark_any {w : World} {B : Nat} {L : List Int} {m : Nat} (h : Wn w B L m) (n : Int) : Calls Try.prog 21 #[.pointer (some ⟨B, 0, none⟩), .int .i64 n] w fun e w' => e = .returned (.bool (frB L n)) ∧ Mkd w B (mk L n) w' := by
  cases hf : frB L n with
  | false =>
    rw [mk_no hf]
    exact (mark_no h n hf).mono fun e w' ⟨h1, h2⟩ => ⟨h1, ⟨m, h2 ▸ h⟩, h2 ▸ But.refl _ _⟩
  | true =>
    rw [mk_yes hf]
    by_cases hn : n ≤ gr L
    · exact (mark_low h n hf hn).mono fun e w' ⟨h1, m', h2, h3⟩ => ⟨h1, ⟨m', h2⟩, h3⟩
    · exact (mark_high h n hf (by omega)).mono fun e w' ⟨h1, m', h2, h3⟩ => ⟨h1, ⟨m', h2⟩, h3⟩
theorem wn_new (w : World) : Wn (w.alloc (.cells #[.int .i64 0, .int .u64 0] 33)) w.heap.size [] 0 :=
  ⟨Ok.nil, Bits.nil, by have := heap_alloc_new w (.cells #[Value.int .i64 0, Value.int .u64 0] 33); exact this⟩

theorem wawake_any (w : World) : Calls Try.prog 25 #[] w fun e w' => e = .returned (.bool true) ∧ Below w.heap.size w w' := by
  have h0 := wn_new w
  have b0 := below_alloc w (.cells #[.int .i64 0, .int .u64 0] 33)
  have s0 : w.heap.size ≤ (w.alloc (.cells #[.int .i64 0, .int .u64 0] 33)).heap.size := b0.size
  go_enter Try.func25, Try.ntmps25
  go_wp2_with fail
  refine (mark_any h0 100).mono ?_
  rw [show frB [] 100 = true by decide, show mk [] 100 = [100] by decide]
  rintro e w1 ⟨rfl, ⟨m1, h1⟩, u1⟩
  have b1 := u1.below b0 (Nat.le_refl _) s0
  clear u1
  go_wp2_with fail
  refine (mark_any h1 37).mono ?_
  rw [show frB [100] 37 = true by decide, show mk [100] 37 = [100, 37] by decide]
  rintro e w2 ⟨rfl, ⟨m2, h2⟩, u2⟩
  have b2 := u2.below b1 (Nat.le_refl _) b1.size
  clear u2
  go_wp2_with fail
  refine (mark_any h2 36).mono ?_
  rw [show frB [100, 37] 36 = false by decide, show mk [100, 37] 36 = [100, 37] by decide]
  rintro e w3 ⟨rfl, ⟨m3, h3⟩, u3⟩
  have b3 := u3.below b2 (Nat.le_refl _) b2.size
  clear u3
  go_wp2_with fail
  refine (mark_any h3 100).mono ?_
  rw [show frB [100, 37] 100 = false by decide, show mk [100, 37] 100 = [100, 37] by decide]
  rintro e w4 ⟨rfl, ⟨m4, h4⟩, u4⟩
  have b4 := u4.below b3 (Nat.le_refl _) b3.size
  clear u4
  go_wp2_with fail
  refine (grt_any h4).mono ?_
  rw [show gr [100, 37] = 100 by decide]
  rintro e w5 ⟨rfl, rfl⟩
  clear h0 h1 h2 h3 h4
  go_wp2_with fail
  go_ret
  exact ⟨rfl, b4⟩

theorem old_walk (n b : Int) (hn0 : 0 ≤ n) (hn1 : n ≤ 4294967295) (hb0 : 0 ≤ b) (hb1 : b ≤ 65535) (w : World) : Calls Try.prog 11 #[.int .u32 n, .int .u16 b] w fun e w' => e = .returned (.bool true) ∧ Below w.heap.size w w' := by
  have h0 := wn_new w
  have b0 := below_alloc w (.cells #[.int .i64 0, .int .u64 0] 33)
  have s0 : w.heap.size ≤ (w.alloc (.cells #[.int .i64 0, .int .u64 0] 33)).heap.size := b0.size
  obtain ⟨k, hk⟩ : ∃ k : Int, b % 100 = k := ⟨_, rfl⟩
  have hk0 : 0 ≤ k ∧ k < 100 := by omega
  have hm : frB [] (n + 100) = true := by rw [frB_iff]; simp [gr]; omega
  have hM : mk [] (n + 100) = [n + 100] := mk_yes hm
  have hg : gr [n + 100] = n + 100 := by simp [gr]; omega
  have hf : frB [n + 100] (n + 100 - k) = (decide (1 ≤ k) && decide (k < 64)) := by
    rw [Bool.eq_iff_iff, frB_iff, hg]
    simp
    omega
  have HM := Lib.hid hM
  have Hm := Lib.hid hm
  have HF := Lib.hid hf
  clear hM hm hf hg
  have hmk := mark_any h0 (n + 100)
  rw [HM.out, Hm.out] at hmk
  go_enter Try.func11, Try.ntmps11
  go_wp2_with fail
  refine hmk.mono ?_
  rintro e w1 ⟨rfl, ⟨m1, h1⟩, u1⟩
  have b1 := u1.below b0 (Nat.le_refl _) s0
  clear u1 hmk
  have hfr := fresh_any h1 (n + 100 - k)
  rw [HF.out] at hfr
  clear h0 h1
  by_cases k1 : 1 ≤ k
  · by_cases k2 : k < 64
    · rw [decide_eq_true k1, decide_eq_true k2] at hfr
      go_wp2_with (first | (go_at_call 19; refine hfr.mono ?_; rintro e w' ⟨rfl, rfl⟩) | (go_at_call 25; refine (wawake_any _).mono ?_; rintro e w2 ⟨rfl, b2⟩))
      go_ret
      exact ⟨rfl, b1.trans (b2.mono b1.size)⟩
    · rw [decide_eq_true k1, decide_eq_false k2] at hfr
      go_wp2_with (first | (go_at_call 19; refine hfr.mono ?_; rintro e w' ⟨rfl, rfl⟩) | (go_at_call 25; refine (wawake_any _).mono ?_; rintro e w2 ⟨rfl, b2⟩))
      go_ret
      exact ⟨ret_bl (by simp; omega), b1.trans (b2.mono b1.size)⟩
  · rw [decide_eq_false k1] at hfr
    go_wp2_with (first | (go_at_call 19; refine hfr.mono ?_; rintro e w' ⟨rfl, rfl⟩) | (go_at_call 25; refine (wawake_any _).mono ?_; rintro e w2 ⟨rfl, b2⟩))
    go_ret
    exact ⟨rfl, b1.trans (b2.mono b1.size)⟩
end Go.Proofs.Ythlmodhglldajaa
