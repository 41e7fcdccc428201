/- header's reader: the first byte; which methods stand behind it. -/
import Derived.Test.YtgnjmmaahpngpaaDoorHMeth2
namespace Go.Proofs.YtgnjmmaahpngpaaDoor
open Go Go.RowKit

theorem byte_nat : ∀ b : Fin 256, bits BinOp.and IntKind.i64 (b.val : Int) 3 = (b.val : Int) % 4 ∧ bits BinOp.andNot IntKind.i64 (b.val : Int) 7 = (b.val : Int) / 8 * 8 ∧ bits BinOp.and IntKind.i64 ((b.val : Int) / 4) 1 = (b.val : Int) / 4 % 2 ∧
    bits BinOp.andNot IntKind.i64 (b.val : Int) 51 = (b.val : Int) / 64 * 64 + (b.val : Int) / 4 % 4 * 4 ∧ bits BinOp.and IntKind.i64 ((b.val : Int) / 16) 3 = (b.val : Int) / 16 % 4 := by decide +kernel
theorem byte_int (b : Int) (h0 : 0 ≤ b) (h1 : b ≤ 255) : bits BinOp.and IntKind.i64 b 3 = b % 4 ∧ bits BinOp.andNot IntKind.i64 b 7 = b / 8 * 8 ∧ bits BinOp.and IntKind.i64 (b / 4) 1 = b / 4 % 2 ∧
    bits BinOp.andNot IntKind.i64 b 51 = b / 64 * 64 + b / 4 % 4 * 4 ∧ bits BinOp.and IntKind.i64 (b / 16) 3 = b / 16 % 4 := by
  have := byte_nat ⟨b.toNat, by omega⟩
  simpa [Int.toNat_of_nonneg h0] using this
set_option maxRecDepth 20000 in
set_option maxHeartbeats 2000000 in
theorem first_okW (zs : List Int) (hz : Byt zs) (w0 w : World) (X : Nat × Obj) (R B : Nat) (h : Hs w0 zs X R B ⟨Hv.empty, 0, 0⟩ w) (s' : Ps) (e : pFirst zs ⟨Hv.empty, 0, 0⟩ = .ok s') :
    Calls Tryd.prog 28 #[.pointer (some ⟨R, 0, none⟩)] w fun e w' => e = .returned (.tuple #[]) ∧ Hs w0 zs X R B s' w' := by
  obtain ⟨vt, vf, vk, c0, _, _, _, _, _, _, _, _, _, _⟩ := h.cells
  rcases first_cases hz with ⟨h1, _⟩ | ⟨b, hb0, hb1, hn, hp⟩
  · rw [h1] at e; cases e
  have hx : pFix zs 1 0 = .ok (b, 1) := by
    cases zs with
    | nil => simp [pFirst] at hp; split at hp <;> (try cases hp); split at hp <;> cases hp
    | cons z r =>
      have := inNumber1_cons (t := 0) (zs := z :: r) (b := z) (r := r) rfl
      rw [this] at hn
      cases hn
      exact fix1_at (r := r) rfl
  have hc := hfixed_ok h 1 (by decide) (by decide) hx
  obtain ⟨q1, q2, q3, q4, q5⟩ := byte_int b hb0 hb1
  rw [hp] at e
  clear hp hn hx
  by_cases hs : 64 ≤ b ∧ b < 72
  · rw [if_pos hs] at e
    cases e
    have t1 : (b / 8 * 8 == 64) = true := by rw [beq_iff_eq]; omega
    clear h
    go_enter Tryd.func28, Tryd.ntmps28
    go_wp2_with fail
    refine hc.mono ?_
    rintro e w1 ⟨rfl, h1⟩
    have h2 := h1.setw (b % 4 + 1)
    have h3 := h2.setk 3
    have h4 := h3.setp (b / 4 % 2)
    have H4 := Lib.hid h4
    obtain ⟨vt, vf, vk, _, _, _, _, _, _, _, _, d8, _, df⟩ := h1.cells
    obtain ⟨vt2, vf2, vk2, _, g1, _, _, _, _, _, _, _, _, gf⟩ := h2.cells
    obtain ⟨vt3, vf3, vk3, _, _, _, _, _, _, i6, _, _, _, iff⟩ := h3.cells
    clear h1 h2 h3 h4 hc
    go_wp2_with fail
    go_end0
    exact ⟨rfl, H4.out⟩
  · rw [if_neg hs] at e
    by_cases hl : 192 ≤ b ∧ b < 240 ∧ b % 16 < 4
    · rw [if_pos hl] at e
      cases e
      have t1 : (b / 8 * 8 == 64) = false := by rw [beq_eq_false_iff_ne]; omega
      have t2 : (b / 64 * 64 + b / 4 % 4 * 4 == 192) = true := by rw [beq_iff_eq]; omega
      have t3 : (b / 16 % 4 != 3) = true := by rw [bne_iff_ne]; omega
      have t4 : (b / 16 % 4 == 3) = false := by rw [beq_eq_false_iff_ne]; omega
      have HK : Hid (b / 16 % 4 = (b - 192) / 16) := Lib.hid (by omega)
      clear h hs hl
      go_enter Tryd.func28, Tryd.ntmps28
      go_wp2_with fail
      refine hc.mono ?_
      rintro e w1 ⟨rfl, h1⟩
      have h2 := h1.setw (b % 4 + 1)
      have h3 := h2.setk (b / 16 % 4)
      have H3 := Lib.hid h3
      obtain ⟨vt, vf, vk, _, _, _, _, _, _, _, _, d8, _, df⟩ := h1.cells
      obtain ⟨vt2, vf2, vk2, _, g1, _, _, _, _, _, _, _, _, gf⟩ := h2.cells
      clear h1 h2 h3 hc
      go_wp2_with fail
      go_end0
      exact ⟨rfl, by rw [← HK.out]; exact H3.out⟩
    · rw [if_neg hl] at e; cases e
set_option maxRecDepth 20000 in
set_option maxHeartbeats 2000000 in
theorem first_errW (zs : List Int) (hz : Byt zs) (w0 w : World) (X : Nat × Obj) (R B : Nat) (h : Hs w0 zs X R B ⟨Hv.empty, 0, 0⟩ w) (k : Int) (e : pFirst zs ⟨Hv.empty, 0, 0⟩ = .error k) :
    Calls Tryd.prog 28 #[.pointer (some ⟨R, 0, none⟩)] w fun e w' => e = errPanic k ∧ Below w0.heap.size w0 w' := by
  obtain ⟨vt, vf, vk, c0, _, _, _, _, _, _, _, _, _, _⟩ := h.cells
  have H := Lib.hid h
  rcases first_cases hz with ⟨h1, hn⟩ | ⟨b, hb0, hb1, hn, hp⟩
  · rw [h1] at e
    cases e
    have hx : pFix zs 1 0 = .error 2 := by
      cases zs with
      | nil => rfl
      | cons z r =>
        have := inNumber1_cons (t := 0) (zs := z :: r) (b := z) (r := r) rfl
        rw [this] at hn
        simp at hn
    have hc := hfixed_err h 1 hx
    clear h h1 hn hx
    go_enter Tryd.func28, Tryd.ntmps28
    go_wp2_with fail
    refine hc.mono ?_
    rintro e w1 ⟨he, hb⟩
    rw [errPanic] at he
    subst he
    go_wp2_with fail
    exact ⟨rfl, rfl, out_err H hb⟩
  have hx : pFix zs 1 0 = .ok (b, 1) := by
    cases zs with
    | nil => simp [pFirst] at hp; split at hp <;> (try cases hp); split at hp <;> cases hp
    | cons z r =>
      have := inNumber1_cons (t := 0) (zs := z :: r) (b := z) (r := r) rfl
      rw [this] at hn
      cases hn
      exact fix1_at (r := r) rfl
  have hc := hfixed_ok h 1 (by decide) (by decide) hx
  obtain ⟨q1, q2, q3, q4, q5⟩ := byte_int b hb0 hb1
  rw [hp] at e
  clear hp hn hx
  by_cases hs : 64 ≤ b ∧ b < 72
  · rw [if_pos hs] at e; cases e
  rw [if_neg hs] at e
  by_cases hl : 192 ≤ b ∧ b < 240 ∧ b % 16 < 4
  · rw [if_pos hl] at e; cases e
  rw [if_neg hl] at e
  cases e
  have t1 : (b / 8 * 8 == 64) = false := by rw [beq_eq_false_iff_ne]; omega
  by_cases h2 : b / 64 * 64 + b / 4 % 4 * 4 = 192
  · have t2 : (b / 64 * 64 + b / 4 % 4 * 4 == 192) = true := by rw [beq_iff_eq]; omega
    have t3 : (b / 16 % 4 != 3) = false := by rw [bne_eq_false_iff_eq]; omega
    have t4 : (b / 16 % 4 == 3) = true := by rw [beq_iff_eq]; omega
    clear h hs hl h2
    go_enter Tryd.func28, Tryd.ntmps28
    go_wp2_with fail
    refine hc.mono ?_
    rintro e w1 ⟨rfl, h1⟩
    have h2 := h1.setw (b % 4 + 1)
    have H2 := Lib.hid h2
    obtain ⟨vt, vf, vk, _, _, _, _, _, _, _, _, d8, _, df⟩ := h1.cells
    clear h1 h2 hc
    go_wp2_with fail
    exact ⟨rfl, rfl, H2.out.fq.bel⟩
  · have t2 : (b / 64 * 64 + b / 4 % 4 * 4 == 192) = false := by rw [beq_eq_false_iff_ne]; omega
    clear h hs hl h2
    go_enter Tryd.func28, Tryd.ntmps28
    go_wp2_with fail
    refine hc.mono ?_
    rintro e w1 ⟨rfl, h1⟩
    have h2 := h1.setw (b % 4 + 1)
    have H2 := Lib.hid h2
    obtain ⟨vt, vf, vk, _, _, _, _, _, _, _, _, d8, _, df⟩ := h1.cells
    clear h1 h2 hc
    go_wp2_with fail
    exact ⟨rfl, rfl, H2.out.fq.bel⟩
#print axioms first_okW
#print axioms first_errW
end Go.Proofs.YtgnjmmaahpngpaaDoor
