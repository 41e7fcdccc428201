/- What both sides read out of four bytes. -/
import Derived.Test.YtgcgmgcgbnepeaaDoorQNum
import Derived.Laws.BitsLemmas
import Derived.WalkSmall
namespace Go.Proofs.YtgcgmgcgbnepeaaDoor
open Go Go.RowKit

/-- The number that four bytes say. -/
def say4 (zs : List Int) : Int := match zs with
  | [a, b, c, d] => ((a * 256 + b) * 256 + c) * 256 + d
  | _ => 0
/-- The number that bytes are; 0: they are none. -/
def numd (zs : List Int) : Int := if zs.length = 4 ∧ 1 ≤ say4 zs ∧ say4 zs ≤ 65536 then say4 zs else 0

theorem wraps_i64q (n : Int) (h₀ : 0 ≤ n) (h₁ : n < 2 ^ 50) : IntKind.i64.wrap n = n := by
  have h2 : n < 1125899906842624 := h₁
  rw [IntKind.wrap_i64]; omega
theorem or8 (x y : Int) (hx : 0 ≤ x) (hx1 : x ≤ 4294967296) (hy : 0 ≤ y) (hy1 : y ≤ 255) : bits BinOp.or IntKind.i64 (x * 256) y = x * 256 + y := by
  have h1 : x * 256 % 256 = 0 := by omega
  have h2 : x * 256 < 1125899906842624 := by omega
  have h3 : y < 1125899906842624 := by omega
  have h4 : y < 256 := by omega
  exact bits_join .i64 50 (by decide) wraps_i64q 8 (x * 256) y (by omega) h1 h2 hy h4 h3

theorem arr_ptr (w : World) (b off cap n : Nat) (hn : 4 ≤ n) : (Instr.arrayAt 88 (.slice (some ⟨b, off, none⟩) n cap)).run Tryd.prog w = .ok (.pointer (some ⟨b, off, none⟩)) w := by
  simp [Instr.arrayAt, run_underlying Tryd.underlying88]
  omega

theorem arr_at0 (w : World) (x0 x1 x2 x3 : Int) : (Instr.index 88 (.agg #[.int .u8 x0, .int .u8 x1, .int .u8 x2, .int .u8 x3]) (.int .i64 0)).run Tryd.prog w = .ok (.int .u8 x0) w := by kernel_rfl
theorem arr_at1 (w : World) (x0 x1 x2 x3 : Int) : (Instr.index 88 (.agg #[.int .u8 x0, .int .u8 x1, .int .u8 x2, .int .u8 x3]) (.int .i64 1)).run Tryd.prog w = .ok (.int .u8 x1) w := by kernel_rfl
theorem arr_at2 (w : World) (x0 x1 x2 x3 : Int) : (Instr.index 88 (.agg #[.int .u8 x0, .int .u8 x1, .int .u8 x2, .int .u8 x3]) (.int .i64 2)).run Tryd.prog w = .ok (.int .u8 x2) w := by kernel_rfl
theorem arr_at3 (w : World) (x0 x1 x2 x3 : Int) : (Instr.index 88 (.agg #[.int .u8 x0, .int .u8 x1, .int .u8 x2, .int .u8 x3]) (.int .i64 3)).run Tryd.prog w = .ok (.int .u8 x3) w := by kernel_rfl
set_option maxRecDepth 20000 in
theorem numbered_four {w : World} {v : Value} {x0 x1 x2 x3 : Int} (h : Rd w v [x0, x1, x2, x3]) (hb : Byt [x0, x1, x2, x3]) : Calls Tryd.prog 65 #[v] w fun e w' => e = .returned (.tuple #[.int .i64 (numd [x0, x1, x2, x3]), .bool (decide (numd [x0, x1, x2, x3] ≠ 0))]) ∧ w = w' := by
  have b0 := hb x0 (by simp)
  have b1 := hb x1 (by simp)
  have b2 := hb x2 (by simp)
  have b3 := hb x3 (by simp)
  rcases h.cases with ⟨h0, _⟩ | ⟨b, off, cap, rfl, _, hlc, hcap, _, hc⟩
  · cases h0
  have hc0 : w.cell? ⟨b, off, none⟩ = some (.int .u8 x0) := hc 0 (by simp)
  have hc1 : w.cell? ⟨b, off + 1, none⟩ = some (.int .u8 x1) := hc 1 (by simp)
  have hc2 : w.cell? ⟨b, off + 2, none⟩ = some (.int .u8 x2) := hc 2 (by simp)
  have hc3 : w.cell? ⟨b, off + 3, none⟩ = some (.int .u8 x3) := hc 3 (by simp)
  have hp := fun w => arr_ptr w b off cap 4 (Nat.le_refl _)
  have a0 := fun w => arr_at0 w x0 x1 x2 x3
  have a1 := fun w => arr_at1 w x0 x1 x2 x3
  have a2 := fun w => arr_at2 w x0 x1 x2 x3
  have a3 := fun w => arr_at3 w x0 x1 x2 x3
  have e0 : bits BinOp.or IntKind.i64 0 x0 = x0 := by simpa using or8 0 x0 (by omega) (by omega) (by omega) (by omega)
  have w0 : wrap64 (x0 * 256) = x0 * 256 := by unfold wrap64; omega
  have e1 := or8 x0 x1 (by omega) (by omega) (by omega) (by omega)
  have w1 : wrap64 ((x0 * 256 + x1) * 256) = (x0 * 256 + x1) * 256 := by unfold wrap64; omega
  have e2 := or8 (x0 * 256 + x1) x2 (by omega) (by omega) (by omega) (by omega)
  have w2 : wrap64 (((x0 * 256 + x1) * 256 + x2) * 256) = ((x0 * 256 + x1) * 256 + x2) * 256 := by unfold wrap64; omega
  have e3 := or8 ((x0 * 256 + x1) * 256 + x2) x3 (by omega) (by omega) (by omega) (by omega)
  have HX : Hid (numd [x0, x1, x2, x3] = if 1 ≤ ((x0 * 256 + x1) * 256 + x2) * 256 + x3 ∧ ((x0 * 256 + x1) * 256 + x2) * 256 + x3 ≤ 65536 then ((x0 * 256 + x1) * 256 + x2) * 256 + x3 else 0) := Lib.hid (by simp [numd, say4])
  have v0 : wrap64 x0 = x0 := by unfold wrap64; omega
  have v1 : wrap64 x1 = x1 := by unfold wrap64; omega
  have v2 : wrap64 x2 = x2 := by unfold wrap64; omega
  have v3 : wrap64 x3 = x3 := by unfold wrap64; omega
  clear b0 b1 b2 b3
  by_cases hX : 1 ≤ ((x0 * 256 + x1) * 256 + x2) * 256 + x3 ∧ ((x0 * 256 + x1) * 256 + x2) * 256 + x3 ≤ 65536
  · have hcall := isnum_yes hX w
    rw [HX.out, if_pos hX, show decide (((x0 * 256 + x1) * 256 + x2) * 256 + x3 ≠ 0) = true from decide_eq_true (by omega)]
    clear hX HX
    go_enter Tryd.func65, Tryd.ntmps65
    go_wp2
    refine wp_loop_rounds 5 ?_
    rw [rounds_succ]
    go_wp2
    rw [rounds_succ]
    go_wp2
    rw [rounds_succ]
    go_wp2
    rw [rounds_succ]
    go_wp2
    rw [rounds_succ]
    go_wp2_with (go_at_call 50; refine hcall.mono ?_; rintro e w' ⟨rfl, rfl⟩)
    go_ret2
    exact ⟨rfl, rfl⟩
  · have hcall := isnum_no hX w
    rw [HX.out, if_neg hX, show decide ((0 : Int) ≠ 0) = false from rfl]
    clear hX HX
    go_enter Tryd.func65, Tryd.ntmps65
    go_wp2
    refine wp_loop_rounds 5 ?_
    rw [rounds_succ]
    go_wp2
    rw [rounds_succ]
    go_wp2
    rw [rounds_succ]
    go_wp2
    rw [rounds_succ]
    go_wp2
    rw [rounds_succ]
    go_wp2_with (go_at_call 50; refine hcall.mono ?_; rintro e w' ⟨rfl, rfl⟩)
    go_ret2
    exact ⟨rfl, rfl⟩

theorem numd_len {zs : List Int} (h : zs.length ≠ 4) : numd zs = 0 := if_neg fun e => h e.1
theorem four {zs : List Int} (h : zs.length = 4) : ∃ a b c d, zs = [a, b, c, d] := by
  match zs, h with
  | [a, b, c, d], _ => exact ⟨a, b, c, d, rfl⟩

/-- What the program's Numbered tells. -/
theorem numbered_any {w : World} {v : Value} {zs : List Int} (h : Rd w v zs) (hb : Byt zs) : Calls Tryd.prog 65 #[v] w fun e w' => e = .returned (.tuple #[.int .i64 (numd zs), .bool (decide (numd zs ≠ 0))]) ∧ w = w' := by
  by_cases hl : zs.length = 4
  · obtain ⟨a, b, c, d, rfl⟩ := four hl
    exact numbered_four h hb
  · rw [numd_len hl]
    obtain ⟨ao, cap, rfl, _⟩ := h
    have hne : ((zs.length : Int) != 4) = true := by rw [bne_iff_ne]; omega
    clear hl hb
    go_enter Tryd.func65, Tryd.ntmps65
    go_wp2
    go_ret2
    exact ⟨rfl, rfl⟩

/-- What the document's Numbered tells. -/
theorem rnumbered_any {w : World} {v : Value} {zs : List Int} (h : Rd w v zs) (hb : Byt zs) : Calls Tryd.prog 49 #[v] w fun e w' => e = .returned (.int .i64 (numd zs)) ∧ ∃ m, w' = w.drewN m := by
  by_cases hl : zs.length = 4
  · obtain ⟨x0, x1, x2, x3, rfl⟩ := four hl
    have b0 := hb x0 (by simp)
    have b1 := hb x1 (by simp)
    have b2 := hb x2 (by simp)
    have b3 := hb x3 (by simp)
    rcases h.cases with ⟨h0, _⟩ | ⟨b, off, cap, rfl, _, hlc, hcap, _, hc⟩
    · cases h0
    have hc0 : w.cell? ⟨b, off, none⟩ = some (.int .u8 x0) := hc 0 (by simp)
    have hc1 : w.cell? ⟨b, off + 1, none⟩ = some (.int .u8 x1) := hc 1 (by simp)
    have hc2 : w.cell? ⟨b, off + 2, none⟩ = some (.int .u8 x2) := hc 2 (by simp)
    have hc3 : w.cell? ⟨b, off + 3, none⟩ = some (.int .u8 x3) := hc 3 (by simp)
    have HX : Hid (numd [x0, x1, x2, x3] = if 1 ≤ ((x0 * 256 + x1) * 256 + x2) * 256 + x3 ∧ ((x0 * 256 + x1) * 256 + x2) * 256 + x3 ≤ 65536 then ((x0 * 256 + x1) * 256 + x2) * 256 + x3 else 0) := Lib.hid (by simp [numd, say4])
    clear h hb hc
    simp only [List.length_cons, List.length_nil, Nat.zero_add, Nat.reduceAdd] at *
    have v1 : wrap64 x1 = x1 := by unfold wrap64; omega
    have v2 : wrap64 x2 = x2 := by unfold wrap64; omega
    have v3 : wrap64 x3 = x3 := by unfold wrap64; omega
    by_cases h0 : x0 = 0
    · subst h0
      by_cases h1 : x1 ≤ 1
      · have t1 : decide ((1 : Int) < x1) = false := decide_eq_false (by omega)
        have e1 : wrap64 (65536 * x1) = 65536 * x1 := by unfold wrap64; omega
        have e2 : wrap64 (256 * x2) = 256 * x2 := by unfold wrap64; omega
        have e3 : wrap64 (65536 * x1 + 256 * x2) = 65536 * x1 + 256 * x2 := by unfold wrap64; omega
        have e4 : wrap64 (65536 * x1 + 256 * x2 + x3) = 65536 * x1 + 256 * x2 + x3 := by unfold wrap64; omega
        by_cases h2 : 65536 * x1 + 256 * x2 + x3 ≤ 65536
        · have t2 : decide ((65536 : Int) < 65536 * x1 + 256 * x2 + x3) = false := decide_eq_false (by omega)
          have HR : numd [0, x1, x2, x3] = 65536 * x1 + 256 * x2 + x3 := by
            rw [HX.out]
            split <;> omega
          rw [HR]
          clear h1 h2 HX b0 b1 b2 b3 HR
          go_enter Tryd.func49, Tryd.ntmps49
          go_wp2
          go_quiet (fail)
          go_wp2
          go_ret
          exact ⟨congrArg (fun z => Ending.returned (Value.int .i64 z)) e4, nq, rfl⟩
        · have t2 : decide ((65536 : Int) < 65536 * x1 + 256 * x2 + x3) = true := decide_eq_true (by omega)
          have HR : numd [0, x1, x2, x3] = 0 := by
            rw [HX.out]
            split <;> omega
          rw [HR]
          clear h1 h2 HX b0 b1 b2 b3 HR
          go_enter Tryd.func49, Tryd.ntmps49
          go_wp2
          go_quiet (fail)
          go_wp2
          go_ret
          exact ⟨rfl, nq, rfl⟩
      · have t1 : decide ((1 : Int) < x1) = true := decide_eq_true (by omega)
        have HR : numd [0, x1, x2, x3] = 0 := by
          rw [HX.out]
          split <;> omega
        rw [HR]
        clear h1 HX b0 b1 b2 b3 HR
        go_enter Tryd.func49, Tryd.ntmps49
        go_wp2
        go_ret
        exact ⟨rfl, 0, rfl⟩
    · have t0 : (x0 != 0) = true := bne_iff_ne.2 h0
      have HR : numd [x0, x1, x2, x3] = 0 := by
        rw [HX.out]
        split <;> omega
      rw [HR]
      clear h0 HX b0 b1 b2 b3 HR
      go_enter Tryd.func49, Tryd.ntmps49
      go_wp2
      go_ret
      exact ⟨rfl, 0, rfl⟩
  · rw [numd_len hl]
    obtain ⟨ao, cap, rfl, _⟩ := h
    have hne : ((zs.length : Int) != 4) = true := by rw [bne_iff_ne]; omega
    clear hl hb
    go_enter Tryd.func49, Tryd.ntmps49
    go_wp2
    go_ret
    exact ⟨rfl, 0, rfl⟩
end Go.Proofs.YtgcgmgcgbnepeaaDoor
