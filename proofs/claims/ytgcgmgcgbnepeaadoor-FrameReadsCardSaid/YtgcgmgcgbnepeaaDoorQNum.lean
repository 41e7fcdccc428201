/- Terms' numbers as bytes: which numbers may be, and the four bytes that both sides make of them. -/
import Derived.Test.YtgcgmgcgbnepeaaDoorInv
import Derived.Deep.QuietTactic
import Derived.BigQuiet
import Derived.Outline
namespace Go.Proofs.YtgcgmgcgbnepeaaDoor
open Go Go.RowKit

/-- The bytes of a number; none, if it may not be. -/
def numB (h : Int) : List Int := if 1 ≤ h ∧ h ≤ 65536 then [0, h / 65536, h / 256 % 256, h % 256] else []
theorem numB_yes {h : Int} (h1 : 1 ≤ h ∧ h ≤ 65536) : numB h = [0, h / 65536, h / 256 % 256, h % 256] := if_pos h1
theorem numB_no {h : Int} (h1 : ¬ (1 ≤ h ∧ h ≤ 65536)) : numB h = [] := if_neg h1

theorem numB_byt (h : Int) : Byt (numB h) := by
  unfold numB
  split
  · intro z hz
    simp only [List.mem_cons, List.not_mem_nil, or_false] at hz
    rcases hz with rfl | rfl | rfl | rfl <;> omega
  · exact Byt.nil
/-- A row of any type of one-cell elements, read as bytes. -/
theorem lit_any (e : Nat) (w : World) (zs : List Int) (h : zs.length ≤ 1000) (hb : Byt zs) : Rd (w.alloc (.cells (by8 zs).toArray e)) (.slice (some ⟨w.heap.size, 0, none⟩) zs.length zs.length) zs := by
  refine ⟨some ⟨w.heap.size, 0, none⟩, zs.length, rfl, Nat.le_refl _, by unfold maxLen; omega, (fun h => by cases h), hb, fun a ha j hj => ?_⟩
  cases ha
  rw [Addr.add_lit]
  have := cell_of_row (w.alloc (.cells (by8 zs).toArray e)) w.heap.size (0 + j) (by8 zs).toArray e (0, 0) (heap_alloc_new w _)
  rw [this]
  simp [by8, hj]
theorem isnum_yes {h : Int} (h1 : 1 ≤ h ∧ h ≤ 65536) (w : World) : Calls Tryd.prog 50 #[.int .i64 h] w fun e w' => e = .returned (.bool true) ∧ w = w' := by
  have ha : decide ((1 : Int) ≤ h) = true := decide_eq_true h1.1
  have hb : decide (h ≤ (65536 : Int)) = true := decide_eq_true h1.2
  clear h1
  go_enter Tryd.func50, Tryd.ntmps50
  go_wp2
  go_ret
  exact ⟨rfl, rfl⟩
theorem isnum_no {h : Int} (h1 : ¬ (1 ≤ h ∧ h ≤ 65536)) (w : World) : Calls Tryd.prog 50 #[.int .i64 h] w fun e w' => e = .returned (.bool false) ∧ w = w' := by
  by_cases h2 : 1 ≤ h
  · have ha : decide ((1 : Int) ≤ h) = true := decide_eq_true h2
    have hb : decide (h ≤ (65536 : Int)) = false := decide_eq_false (fun e => h1 ⟨h2, e⟩)
    clear h1 h2
    go_enter Tryd.func50, Tryd.ntmps50
    go_wp2
    go_ret
    exact ⟨rfl, rfl⟩
  · have ha : decide ((1 : Int) ≤ h) = false := decide_eq_false h2
    clear h1 h2
    go_enter Tryd.func50, Tryd.ntmps50
    go_wp2
    go_ret
    exact ⟨rfl, rfl⟩

theorem u8_wrap (x : Int) : IntKind.u8.wrap x = x % 256 := by simp [IntKind.wrap, IntKind.bits, IntKind.signed]
theorem num_cells {h : Int} (h1 : 1 ≤ h ∧ h ≤ 65536) : h / 16777216 % 256 = 0 ∧ h / 65536 % 256 = h / 65536 ∧ wrap64 (h.tdiv 65536) % 256 = h / 65536 ∧ (wrap64 (h.tdiv 256)).tmod 256 % 256 = h / 256 % 256 ∧ h.tmod 256 % 256 = h % 256 := by
  have h2 : h.tdiv 65536 = h / 65536 := Int.tdiv_eq_ediv_of_nonneg (by omega)
  have h3 : h.tdiv 256 = h / 256 := Int.tdiv_eq_ediv_of_nonneg (by omega)
  have h4 : h.tmod 256 = h % 256 := Int.tmod_eq_emod_of_nonneg (by omega)
  have w1 : wrap64 (h / 65536) = h / 65536 := (by unfold wrap64; omega)
  have w2 : wrap64 (h / 256) = h / 256 := (by unfold wrap64; omega)
  have h5 : (h / 256).tmod 256 = h / 256 % 256 := Int.tmod_eq_emod_of_nonneg (by omega)
  rw [h2, h3, h4, w1, w2, h5]
  omega

/-- The program's Number. -/
theorem number_yes {h : Int} (h1 : 1 ≤ h ∧ h ≤ 65536) (w : World) : Calls Tryd.prog 36 #[.int .i64 h] w fun e w' => e = .returned (.slice (some ⟨w.heap.size, 0, none⟩) 4 4) ∧ w' = w.alloc (.cells (by8 (numB h)).toArray 88) := by
  have H1 := Lib.hid h1
  have hc := isnum_yes h1 w
  clear h1
  go_enter Tryd.func36, Tryd.ntmps36
  go_wp2_with (go_at_call 50; refine hc.mono ?_; rintro e w' ⟨rfl, rfl⟩)
  go_ret
  obtain ⟨e1, e2, e3, e4, e5⟩ := num_cells H1.out
  rw [e1, e2, numB_yes H1.out]
  exact ⟨rfl, rfl⟩
theorem number_no {h : Int} (h1 : ¬ (1 ≤ h ∧ h ≤ 65536)) (w : World) : Calls Tryd.prog 36 #[.int .i64 h] w fun e w' => e = .returned (.slice none 0 0) ∧ w' = w := by
  have hc := isnum_no h1 w
  clear h1
  go_enter Tryd.func36, Tryd.ntmps36
  go_wp2_with (go_at_call 50; refine hc.mono ?_; rintro e w' ⟨rfl, rfl⟩)
  go_ret
  exact ⟨rfl, rfl⟩
/-- The document's Number. -/
theorem rnumber_yes {h : Int} (h1 : 1 ≤ h ∧ h ≤ 65536) (w : World) : Calls Tryd.prog 43 #[.int .i64 h] w fun e w' => e = .returned (.slice (some ⟨w.heap.size, 0, none⟩) 4 4) ∧ w' = w.alloc (.cells (by8 (numB h)).toArray 5) := by
  have ha : decide (h < (1 : Int)) = false := decide_eq_false (by omega)
  have hb : decide ((65536 : Int) < h) = false := decide_eq_false (by omega)
  have H1 := Lib.hid h1
  clear h1
  go_enter Tryd.func43, Tryd.ntmps43
  go_wp2
  go_ret
  obtain ⟨e1, e2, e3, e4, e5⟩ := num_cells H1.out
  rw [e3, e4, e5, numB_yes H1.out]
  exact ⟨rfl, rfl⟩
theorem rnumber_no {h : Int} (h1 : ¬ (1 ≤ h ∧ h ≤ 65536)) (w : World) : Calls Tryd.prog 43 #[.int .i64 h] w fun e w' => e = .returned (.slice none 0 0) ∧ w' = w := by
  by_cases h2 : h < 1
  · have ha : decide (h < (1 : Int)) = true := decide_eq_true h2
    clear h1 h2
    go_enter Tryd.func43, Tryd.ntmps43
    go_wp2
    go_ret
    exact ⟨rfl, rfl⟩
  · have ha : decide (h < (1 : Int)) = false := decide_eq_false h2
    have hb : decide ((65536 : Int) < h) = true := decide_eq_true (by omega)
    clear h1 h2
    go_enter Tryd.func43, Tryd.ntmps43
    go_wp2
    go_ret
    exact ⟨rfl, rfl⟩

/-- What both tell, as bytes. -/
theorem inumber_any (h : Int) (w : World) : Calls Tryd.prog 36 #[.int .i64 h] w fun e w' => ∃ v, e = .returned v ∧ Rd w' v (numB h) ∧ Below w.heap.size w w' := by
  by_cases h1 : 1 ≤ h ∧ h ≤ 65536
  · refine (number_yes h1 w).mono ?_
    rintro e w' ⟨rfl, rfl⟩
    have hl : (numB h).length = 4 := by rw [numB_yes h1]; rfl
    have := lit_any 88 w (numB h) (by omega) (numB_byt h)
    rw [hl] at this
    exact ⟨_, rfl, this, below_alloc w _⟩
  · refine (number_no h1 w).mono ?_
    rintro e w' ⟨rfl, rfl⟩
    rw [numB_no h1]
    exact ⟨_, rfl, Rd.nil _, Below.refl _ _⟩
theorem rnumber_any (h : Int) (w : World) : Calls Tryd.prog 43 #[.int .i64 h] w fun e w' => ∃ v, e = .returned v ∧ w'.ownsRow w.heap.size 5 1 v (numB h).length (by8 (numB h)) ∧ Below w.heap.size w w' := by
  by_cases h1 : 1 ≤ h ∧ h ≤ 65536
  · refine (rnumber_yes h1 w).mono ?_
    rintro e w' ⟨rfl, rfl⟩
    have hl : (numB h).length = 4 := by rw [numB_yes h1]; rfl
    have := own_lit w (numB h) (by omega)
    rw [hl] at this ⊢
    exact ⟨_, rfl, this, below_alloc w _⟩
  · refine (rnumber_no h1 w).mono ?_
    rintro e w' ⟨rfl, rfl⟩
    rw [numB_no h1]
    exact ⟨_, rfl, World.ownsRow_nil _ _ _ _, Below.refl _ _⟩
#print axioms inumber_any
#print axioms rnumber_any
end Go.Proofs.YtgcgmgcgbnepeaaDoor
