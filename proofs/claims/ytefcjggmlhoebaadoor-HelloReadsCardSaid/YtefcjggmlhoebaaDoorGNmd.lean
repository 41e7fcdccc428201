/- What both sides read out of four bytes. -/
import Derived.Test.YtefcjggmlhoebaaDoorInv
import Derived.Deep.QuietTactic
import Derived.BigQuiet
import Derived.Outline
import Derived.Laws.BitsLemmas
import Derived.WalkSmall
namespace Go.Proofs.YtefcjggmlhoebaaDoor
open Go Go.RowKit

/-- The bytes of a number; none, if it may not be. -/
def numB (h : Int) : List Int := if 1 ≤ h ∧ h ≤ 65536 then [0, h / 65536, h / 256 % 256, h % 256] else []
theorem numB_yes {h : Int} (h1 : 1 ≤ h ∧ h ≤ 65536) : numB h = [0, h / 65536, h / 256 % 256, h % 256] := if_pos h1
theorem numB_no {h : Int} (h1 : ¬ (1 ≤ h ∧ h ≤ 65536)) : numB h = [] := if_neg h1

theorem numB_byt (h : Int) : Byt (numB h) := by
  unfold numB
  split
  · intro z hz
    simp only [List.mem_cons, List.not_mem_nil, or_false] at hz
    rcases hz with rfl | rfl | rfl | rfl <;> omega
  · exact Byt.nil
/-- A row of any type of one-cell elements, read as bytes. -/
theorem lit_any (e : Nat) (w : World) (zs : List Int) (h : zs.length ≤ 1000) (hb : Byt zs) : Rd (w.alloc (.cells (by8 zs).toArray e)) (.slice (some ⟨w.heap.size, 0, none⟩) zs.length zs.length) zs := by
  refine ⟨some ⟨w.heap.size, 0, none⟩, zs.length, rfl, Nat.le_refl _, by unfold maxLen; omega, (fun h => by cases h), hb, fun a ha j hj => ?_⟩
  cases ha
  rw [Addr.add_lit]
  have := cell_of_row (w.alloc (.cells (by8 zs).toArray e)) w.heap.size (0 + j) (by8 zs).toArray e (0, 0) (heap_alloc_new w _)
  rw [this]
  simp [by8, hj]
theorem isnum_yes {h : Int} (h1 : 1 ≤ h ∧ h ≤ 65536) (w : World) : Calls Tryd.prog 65 #[.int .i64 h] w fun e w' => e = .returned (.bool true) ∧ w = w' := by
  have ha : decide ((1 : Int) ≤ h) = true := decide_eq_true h1.1
  have hb : decide (h ≤ (65536 : Int)) = true := decide_eq_true h1.2
  clear h1
  go_enter Tryd.func65, Tryd.ntmps65
  go_wp2
  go_ret
  exact ⟨rfl, rfl⟩
theorem isnum_no {h : Int} (h1 : ¬ (1 ≤ h ∧ h ≤ 65536)) (w : World) : Calls Tryd.prog 65 #[.int .i64 h] w fun e w' => e = .returned (.bool false) ∧ w = w' := by
  by_cases h2 : 1 ≤ h
  · have ha : decide ((1 : Int) ≤ h) = true := decide_eq_true h2
    have hb : decide (h ≤ (65536 : Int)) = false := decide_eq_false (fun e => h1 ⟨h2, e⟩)
    clear h1 h2
    go_enter Tryd.func65, Tryd.ntmps65
    go_wp2
    go_ret
    exact ⟨rfl, rfl⟩
  · have ha : decide ((1 : Int) ≤ h) = false := decide_eq_false h2
    clear h1 h2
    go_enter Tryd.func65, Tryd.ntmps65
    go_wp2
    go_ret
    exact ⟨rfl, rfl⟩

theorem u8_wrap (x : Int) : IntKind.u8.wrap x = x % 256 := by simp [IntKind.wrap, IntKind.bits, IntKind.signed]
theorem num_cells {h : Int} (h1 : 1 ≤ h ∧ h ≤ 65536) : h / 16777216 % 256 = 0 ∧ h / 65536 % 256 = h / 65536 ∧ wrap64 (h.tdiv 65536) % 256 = h / 65536 ∧ (wrap64 (h.tdiv 256)).tmod 256 % 256 = h / 256 % 256 ∧ h.tmod 256 % 256 = h % 256 := by
  have h2 : h.tdiv 65536 = h / 65536 := Int.tdiv_eq_ediv_of_nonneg (by omega)
  have h3 : h.tdiv 256 = h / 256 := Int.tdiv_eq_ediv_of_nonneg (by omega)
  have h4 : h.tmod 256 = h % 256 := Int.tmod_eq_emod_of_nonneg (by omega)
  have w1 : wrap64 (h / 65536) = h / 65536 := (by unfold wrap64; omega)
  have w2 : wrap64 (h / 256) = h / 256 := (by unfold wrap64; omega)
  have h5 : (h / 256).tmod 256 = h / 256 % 256 := Int.tmod_eq_emod_of_nonneg (by omega)
  rw [h2, h3, h4, w1, w2, h5]
  omega

/-- The program's Number. -/
theorem number_yes {h : Int} (h1 : 1 ≤ h ∧ h ≤ 65536) (w : World) : Calls Tryd.prog 50 #[.int .i64 h] w fun e w' => e = .returned (.slice (some ⟨w.heap.size, 0, none⟩) 4 4) ∧ w' = w.alloc (.cells (by8 (numB h)).toArray 96) := by
  have H1 := Lib.hid h1
  have hc := isnum_yes h1 w
  clear h1
  go_enter Tryd.func50, Tryd.ntmps50
  go_wp2_with (go_at_call 65; refine hc.mono ?_; rintro e w' ⟨rfl, rfl⟩)
  go_ret
  obtain ⟨e1, e2, e3, e4, e5⟩ := num_cells H1.out
  rw [e1, e2, numB_yes H1.out]
  exact ⟨rfl, rfl⟩
theorem number_no {h : Int} (h1 : ¬ (1 ≤ h ∧ h ≤ 65536)) (w : World) : Calls Tryd.prog 50 #[.int .i64 h] w fun e w' => e = .returned (.slice none 0 0) ∧ w' = w := by
  have hc := isnum_no h1 w
  clear h1
  go_enter Tryd.func50, Tryd.ntmps50
  go_wp2_with (go_at_call 65; refine hc.mono ?_; rintro e w' ⟨rfl, rfl⟩)
  go_ret
  exact ⟨rfl, rfl⟩
/-- The document's Number. -/
theorem rnumber_yes {h : Int} (h1 : 1 ≤ h ∧ h ≤ 65536) (w : World) : Calls Tryd.prog 31 #[.int .i64 h] w fun e w' => e = .returned (.slice (some ⟨w.heap.size, 0, none⟩) 4 4) ∧ w' = w.alloc (.cells (by8 (numB h)).toArray 5) := by
  have ha : decide (h < (1 : Int)) = false := decide_eq_false (by omega)
  have hb : decide ((65536 : Int) < h) = false := decide_eq_false (by omega)
  have H1 := Lib.hid h1
  clear h1
  go_enter Tryd.func31, Tryd.ntmps31
  go_wp2
  go_ret
  obtain ⟨e1, e2, e3, e4, e5⟩ := num_cells H1.out
  rw [e3, e4, e5, numB_yes H1.out]
  exact ⟨rfl, rfl⟩
theorem rnumber_no {h : Int} (h1 : ¬ (1 ≤ h ∧ h ≤ 65536)) (w : World) : Calls Tryd.prog 31 #[.int .i64 h] w fun e w' => e = .returned (.slice none 0 0) ∧ w' = w := by
  by_cases h2 : h < 1
  · have ha : decide (h < (1 : Int)) = true := decide_eq_true h2
    clear h1 h2
    go_enter Tryd.func31, Tryd.ntmps31
    go_wp2
    go_ret
    exact ⟨rfl, rfl⟩
  · have ha : decide (h < (1 : Int)) = false := decide_eq_false h2
    have hb : decide ((65536 : Int) < h) = true := decide_eq_true (by omega)
    clear h1 h2
    go_enter Tryd.func31, Tryd.ntmps31
    go_wp2
    go_ret
    exact ⟨rfl, rfl⟩

/-- What both tell, as bytes. -/
theorem inumber_any (h : Int) (w : World) : Calls Tryd.prog 50 #[.int .i64 h] w fun e w' => ∃ v, e = .returned v ∧ Rd w' v (numB h) ∧ Below w.heap.size w w' := by
  by_cases h1 : 1 ≤ h ∧ h ≤ 65536
  · refine (number_yes h1 w).mono ?_
    rintro e w' ⟨rfl, rfl⟩
    have hl : (numB h).length = 4 := by rw [numB_yes h1]; rfl
    have := lit_any 96 w (numB h) (by omega) (numB_byt h)
    rw [hl] at this
    exact ⟨_, rfl, this, below_alloc w _⟩
  · refine (number_no h1 w).mono ?_
    rintro e w' ⟨rfl, rfl⟩
    rw [numB_no h1]
    exact ⟨_, rfl, Rd.nil _, Below.refl _ _⟩
theorem rnumber_any (h : Int) (w : World) : Calls Tryd.prog 31 #[.int .i64 h] w fun e w' => ∃ v, e = .returned v ∧ w'.ownsRow w.heap.size 5 1 v (numB h).length (by8 (numB h)) ∧ Below w.heap.size w w' := by
  by_cases h1 : 1 ≤ h ∧ h ≤ 65536
  · refine (rnumber_yes h1 w).mono ?_
    rintro e w' ⟨rfl, rfl⟩
    have hl : (numB h).length = 4 := by rw [numB_yes h1]; rfl
    have := own_lit w (numB h) (by omega)
    rw [hl] at this ⊢
    exact ⟨_, rfl, this, below_alloc w _⟩
  · refine (rnumber_no h1 w).mono ?_
    rintro e w' ⟨rfl, rfl⟩
    rw [numB_no h1]
    exact ⟨_, rfl, World.ownsRow_nil _ _ _ _, Below.refl _ _⟩
#print axioms inumber_any
#print axioms rnumber_any
end Go.Proofs.YtefcjggmlhoebaaDoor
namespace Go.Proofs.YtefcjggmlhoebaaDoor
open Go Go.RowKit

/-- The number that four bytes say. -/
def say4 (zs : List Int) : Int := match zs with
  | [a, b, c, d] => ((a * 256 + b) * 256 + c) * 256 + d
  | _ => 0
/-- The number that bytes are; 0: they are none. -/
def numd (zs : List Int) : Int := if zs.length = 4 ∧ 1 ≤ say4 zs ∧ say4 zs ≤ 65536 then say4 zs else 0

theorem wraps_i64q (n : Int) (h₀ : 0 ≤ n) (h₁ : n < 2 ^ 50) : IntKind.i64.wrap n = n := by
  have h2 : n < 1125899906842624 := h₁
  rw [IntKind.wrap_i64]; omega
theorem or8 (x y : Int) (hx : 0 ≤ x) (hx1 : x ≤ 4294967296) (hy : 0 ≤ y) (hy1 : y ≤ 255) : bits BinOp.or IntKind.i64 (x * 256) y = x * 256 + y := by
  have h1 : x * 256 % 256 = 0 := by omega
  have h2 : x * 256 < 1125899906842624 := by omega
  have h3 : y < 1125899906842624 := by omega
  have h4 : y < 256 := by omega
  exact bits_join .i64 50 (by decide) wraps_i64q 8 (x * 256) y (by omega) h1 h2 hy h4 h3

theorem arr_ptr (w : World) (b off cap n : Nat) (hn : 4 ≤ n) : (Instr.arrayAt 96 (.slice (some ⟨b, off, none⟩) n cap)).run Tryd.prog w = .ok (.pointer (some ⟨b, off, none⟩)) w := by
  simp [Instr.arrayAt, run_underlying Tryd.underlying96]
  omega

theorem arr_at0 (w : World) (x0 x1 x2 x3 : Int) : (Instr.index 96 (.agg #[.int .u8 x0, .int .u8 x1, .int .u8 x2, .int .u8 x3]) (.int .i64 0)).run Tryd.prog w = .ok (.int .u8 x0) w := by kernel_rfl
theorem arr_at1 (w : World) (x0 x1 x2 x3 : Int) : (Instr.index 96 (.agg #[.int .u8 x0, .int .u8 x1, .int .u8 x2, .int .u8 x3]) (.int .i64 1)).run Tryd.prog w = .ok (.int .u8 x1) w := by kernel_rfl
theorem arr_at2 (w : World) (x0 x1 x2 x3 : Int) : (Instr.index 96 (.agg #[.int .u8 x0, .int .u8 x1, .int .u8 x2, .int .u8 x3]) (.int .i64 2)).run Tryd.prog w = .ok (.int .u8 x2) w := by kernel_rfl
theorem arr_at3 (w : World) (x0 x1 x2 x3 : Int) : (Instr.index 96 (.agg #[.int .u8 x0, .int .u8 x1, .int .u8 x2, .int .u8 x3]) (.int .i64 3)).run Tryd.prog w = .ok (.int .u8 x3) w := by kernel_rfl
set_option maxRecDepth 20000 in
theorem numbered_four {w : World} {v : Value} {x0 x1 x2 x3 : Int} (h : Rd w v [x0, x1, x2, x3]) (hb : Byt [x0, x1, x2, x3]) : Calls Tryd.prog 103 #[v] w fun e w' => e = .returned (.tuple #[.int .i64 (numd [x0, x1, x2, x3]), .bool (decide (numd [x0, x1, x2, x3] ≠ 0))]) ∧ w = w' := by
  have b0 := hb x0 (by simp)
  have b1 := hb x1 (by simp)
  have b2 := hb x2 (by simp)
  have b3 := hb x3 (by simp)
  rcases h.cases with ⟨h0, _⟩ | ⟨b, off, cap, rfl, _, hlc, hcap, _, hc⟩
  · cases h0
  have hc0 : w.cell? ⟨b, off, none⟩ = some (.int .u8 x0) := hc 0 (by simp)
  have hc1 : w.cell? ⟨b, off + 1, none⟩ = some (.int .u8 x1) := hc 1 (by simp)
  have hc2 : w.cell? ⟨b, off + 2, none⟩ = some (.int .u8 x2) := hc 2 (by simp)
  have hc3 : w.cell? ⟨b, off + 3, none⟩ = some (.int .u8 x3) := hc 3 (by simp)
  have hp := fun w => arr_ptr w b off cap 4 (Nat.le_refl _)
  have a0 := fun w => arr_at0 w x0 x1 x2 x3
  have a1 := fun w => arr_at1 w x0 x1 x2 x3
  have a2 := fun w => arr_at2 w x0 x1 x2 x3
  have a3 := fun w => arr_at3 w x0 x1 x2 x3
  have e0 : bits BinOp.or IntKind.i64 0 x0 = x0 := by simpa using or8 0 x0 (by omega) (by omega) (by omega) (by omega)
  have w0 : wrap64 (x0 * 256) = x0 * 256 := by unfold wrap64; omega
  have e1 := or8 x0 x1 (by omega) (by omega) (by omega) (by omega)
  have w1 : wrap64 ((x0 * 256 + x1) * 256) = (x0 * 256 + x1) * 256 := by unfold wrap64; omega
  have e2 := or8 (x0 * 256 + x1) x2 (by omega) (by omega) (by omega) (by omega)
  have w2 : wrap64 (((x0 * 256 + x1) * 256 + x2) * 256) = ((x0 * 256 + x1) * 256 + x2) * 256 := by unfold wrap64; omega
  have e3 := or8 ((x0 * 256 + x1) * 256 + x2) x3 (by omega) (by omega) (by omega) (by omega)
  have HX : Hid (numd [x0, x1, x2, x3] = if 1 ≤ ((x0 * 256 + x1) * 256 + x2) * 256 + x3 ∧ ((x0 * 256 + x1) * 256 + x2) * 256 + x3 ≤ 65536 then ((x0 * 256 + x1) * 256 + x2) * 256 + x3 else 0) := Lib.hid (by simp [numd, say4])
  have v0 : wrap64 x0 = x0 := by unfold wrap64; omega
  have v1 : wrap64 x1 = x1 := by unfold wrap64; omega
  have v2 : wrap64 x2 = x2 := by unfold wrap64; omega
  have v3 : wrap64 x3 = x3 := by unfold wrap64; omega
  clear b0 b1 b2 b3
  by_cases hX : 1 ≤ ((x0 * 256 + x1) * 256 + x2) * 256 + x3 ∧ ((x0 * 256 + x1) * 256 + x2) * 256 + x3 ≤ 65536
  · have hcall := isnum_yes hX w
    rw [HX.out, if_pos hX, show decide (((x0 * 256 + x1) * 256 + x2) * 256 + x3 ≠ 0) = true from decide_eq_true (by omega)]
    clear hX HX
    go_enter Tryd.func103, Tryd.ntmps103
    go_wp2
    refine wp_loop_rounds 5 ?_
    rw [rounds_succ]
    go_wp2
    rw [rounds_succ]
    go_wp2
    rw [rounds_succ]
    go_wp2
    rw [rounds_succ]
    go_wp2
    rw [rounds_succ]
    go_wp2_with (go_at_call 65; refine hcall.mono ?_; rintro e w' ⟨rfl, rfl⟩)
    go_ret2
    exact ⟨rfl, rfl⟩
  · have hcall := isnum_no hX w
    rw [HX.out, if_neg hX, show decide ((0 : Int) ≠ 0) = false from rfl]
    clear hX HX
    go_enter Tryd.func103, Tryd.ntmps103
    go_wp2
    refine wp_loop_rounds 5 ?_
    rw [rounds_succ]
    go_wp2
    rw [rounds_succ]
    go_wp2
    rw [rounds_succ]
    go_wp2
    rw [rounds_succ]
    go_wp2
    rw [rounds_succ]
    go_wp2_with (go_at_call 65; refine hcall.mono ?_; rintro e w' ⟨rfl, rfl⟩)
    go_ret2
    exact ⟨rfl, rfl⟩

theorem numd_len {zs : List Int} (h : zs.length ≠ 4) : numd zs = 0 := if_neg fun e => h e.1
theorem four {zs : List Int} (h : zs.length = 4) : ∃ a b c d, zs = [a, b, c, d] := by
  match zs, h with
  | [a, b, c, d], _ => exact ⟨a, b, c, d, rfl⟩

/-- What the program's Numbered tells. -/
theorem numbered_any {w : World} {v : Value} {zs : List Int} (h : Rd w v zs) (hb : Byt zs) : Calls Tryd.prog 103 #[v] w fun e w' => e = .returned (.tuple #[.int .i64 (numd zs), .bool (decide (numd zs ≠ 0))]) ∧ w = w' := by
  by_cases hl : zs.length = 4
  · obtain ⟨a, b, c, d, rfl⟩ := four hl
    exact numbered_four h hb
  · rw [numd_len hl]
    obtain ⟨ao, cap, rfl, _⟩ := h
    have hne : ((zs.length : Int) != 4) = true := by rw [bne_iff_ne]; omega
    clear hl hb
    go_enter Tryd.func103, Tryd.ntmps103
    go_wp2
    go_ret2
    exact ⟨rfl, rfl⟩

/-- What the document's Numbered tells. -/
theorem rnumbered_any {w : World} {v : Value} {zs : List Int} (h : Rd w v zs) (hb : Byt zs) : Calls Tryd.prog 63 #[v] w fun e w' => e = .returned (.int .i64 (numd zs)) ∧ ∃ m, w' = w.drewN m := by
  by_cases hl : zs.length = 4
  · obtain ⟨x0, x1, x2, x3, rfl⟩ := four hl
    have b0 := hb x0 (by simp)
    have b1 := hb x1 (by simp)
    have b2 := hb x2 (by simp)
    have b3 := hb x3 (by simp)
    rcases h.cases with ⟨h0, _⟩ | ⟨b, off, cap, rfl, _, hlc, hcap, _, hc⟩
    · cases h0
    have hc0 : w.cell? ⟨b, off, none⟩ = some (.int .u8 x0) := hc 0 (by simp)
    have hc1 : w.cell? ⟨b, off + 1, none⟩ = some (.int .u8 x1) := hc 1 (by simp)
    have hc2 : w.cell? ⟨b, off + 2, none⟩ = some (.int .u8 x2) := hc 2 (by simp)
    have hc3 : w.cell? ⟨b, off + 3, none⟩ = some (.int .u8 x3) := hc 3 (by simp)
    have HX : Hid (numd [x0, x1, x2, x3] = if 1 ≤ ((x0 * 256 + x1) * 256 + x2) * 256 + x3 ∧ ((x0 * 256 + x1) * 256 + x2) * 256 + x3 ≤ 65536 then ((x0 * 256 + x1) * 256 + x2) * 256 + x3 else 0) := Lib.hid (by simp [numd, say4])
    clear h hb hc
    simp only [List.length_cons, List.length_nil, Nat.zero_add, Nat.reduceAdd] at *
    have v1 : wrap64 x1 = x1 := by unfold wrap64; omega
    have v2 : wrap64 x2 = x2 := by unfold wrap64; omega
    have v3 : wrap64 x3 = x3 := by unfold wrap64; omega
    by_cases h0 : x0 = 0
    · subst h0
      by_cases h1 : x1 ≤ 1
      · have t1 : decide ((1 : Int) < x1) = false := decide_eq_false (by omega)
        have e1 : wrap64 (65536 * x1) = 65536 * x1 := by unfold wrap64; omega
        have e2 : wrap64 (256 * x2) = 256 * x2 := by unfold wrap64; omega
        have e3 : wrap64 (65536 * x1 + 256 * x2) = 65536 * x1 + 256 * x2 := by unfold wrap64; omega
        have e4 : wrap64 (65536 * x1 + 256 * x2 + x3) = 65536 * x1 + 256 * x2 + x3 := by unfold wrap64; omega
        by_cases h2 : 65536 * x1 + 256 * x2 + x3 ≤ 65536
        · have t2 : decide ((65536 : Int) < 65536 * x1 + 256 * x2 + x3) = false := decide_eq_false (by omega)
          have HR : numd [0, x1, x2, x3] = 65536 * x1 + 256 * x2 + x3 := by
            rw [HX.out]
            split <;> omega
          rw [HR]
          clear h1 h2 HX b0 b1 b2 b3 HR
          go_enter Tryd.func63, Tryd.ntmps63
          go_wp2
          go_quiet (fail)
          go_wp2
          go_ret
          exact ⟨congrArg (fun z => Ending.returned (Value.int .i64 z)) e4, nq, rfl⟩
        · have t2 : decide ((65536 : Int) < 65536 * x1 + 256 * x2 + x3) = true := decide_eq_true (by omega)
          have HR : numd [0, x1, x2, x3] = 0 := by
            rw [HX.out]
            split <;> omega
          rw [HR]
          clear h1 h2 HX b0 b1 b2 b3 HR
          go_enter Tryd.func63, Tryd.ntmps63
          go_wp2
          go_quiet (fail)
          go_wp2
          go_ret
          exact ⟨rfl, nq, rfl⟩
      · have t1 : decide ((1 : Int) < x1) = true := decide_eq_true (by omega)
        have HR : numd [0, x1, x2, x3] = 0 := by
          rw [HX.out]
          split <;> omega
        rw [HR]
        clear h1 HX b0 b1 b2 b3 HR
        go_enter Tryd.func63, Tryd.ntmps63
        go_wp2
        go_ret
        exact ⟨rfl, 0, rfl⟩
    · have t0 : (x0 != 0) = true := bne_iff_ne.2 h0
      have HR : numd [x0, x1, x2, x3] = 0 := by
        rw [HX.out]
        split <;> omega
      rw [HR]
      clear h0 HX b0 b1 b2 b3 HR
      go_enter Tryd.func63, Tryd.ntmps63
      go_wp2
      go_ret
      exact ⟨rfl, 0, rfl⟩
  · rw [numd_len hl]
    obtain ⟨ao, cap, rfl, _⟩ := h
    have hne : ((zs.length : Int) != 4) = true := by rw [bne_iff_ne]; omega
    clear hl hb
    go_enter Tryd.func63, Tryd.ntmps63
    go_wp2
    go_ret
    exact ⟨rfl, 0, rfl⟩
end Go.Proofs.YtefcjggmlhoebaaDoor
