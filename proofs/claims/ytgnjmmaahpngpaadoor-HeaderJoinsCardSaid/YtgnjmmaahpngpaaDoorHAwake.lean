/- The example of the header's chapter; are a header's fields short? -/
import Derived.Test.YtgnjmmaahpngpaaDoorHWrite
import Derived.Test.YtgnjmmaahpngpaaDoorHSame
namespace Go.Proofs.YtgnjmmaahpngpaaDoor
open Go Go.RowKit

def ex1 : Hv := ⟨3, 0, [0, 0, 0, 0, 0, 0, 0, 0], [], [], 1, 258, 2⟩
theorem ex1_bytes : wrB ex1 5 = [69, 0, 0, 0, 0, 0, 0, 0, 0, 1, 2] := by decide +kernel
theorem made8 : (madeCells (Value.int .u8 0).cells (8 * 1)).toList = by8 [0, 0, 0, 0, 0, 0, 0, 0] := by simp [madeCells, by8, Value.cells]; rfl
theorem ex1_right : rightB ex1 = true := by decide +kernel

set_option maxRecDepth 20000 in
set_option maxHeartbeats 4000000 in
theorem hawake_any (w : World) : Calls Tryd.prog 7 #[] w fun e w' => e = .returned (.bool true) ∧ Below w.heap.size w w' := by
  obtain ⟨i, hi, hz0, hz1, hz2⟩ := info_row5
  go_enter Tryd.func7, Tryd.ntmps7
  go_wp2_with (at_make; refine wpList_make_full _ rfl _ _ 22 rfl w.heap.size 5 i (.int .u8 0) 1 Tryd.underlying22 hi hz0 hz1 .i64 .i64 _ _ 8 rfl rfl (by decide) (by decide) (by rw [hz2]; decide) (by decide) (Nat.le_refl _) ?_; intro w1 hown1 hg1)
  have hB := below_made hg1
  rw [made8] at hown1
  have hR := (Rd.of_own (zs := [0, 0, 0, 0, 0, 0, 0, 0]) hown1 (byt_of (by decide))).1
  have hW := write_short w1 ex1 5 (some ⟨w.heap.size, 0, none⟩) 8 none 0 none 0 ⟨hR, Rd.nil _, Rd.nil _⟩ ex1_right rfl (by omega)
  rw [ex1_bytes] at hW
  clear hR hown1 hg1 hz0 hz1 hz2 hi
  refine hW.mono ?_
  rintro e w2 ⟨v2, rfl, hown, hb⟩
  have HB := Lib.hid (hB.trans (hb.mono hB.size))
  obtain ⟨hrd, _⟩ := Rd.of_own hown (byt_of (by decide))
  rcases hrd.cases with ⟨h0, _⟩ | ⟨b, off, cap, rfl, _, hl, hc, _, hcell⟩
  · cases h0
  · have c0 := hcell 0 (by decide)
    have c9 := hcell 9 (by decide)
    have c10 := hcell 10 (by decide)
    clear hcell hown hrd hb hB hW
    simp at c0 c9 c10 hl hc
    go_wp2_with fail
    go_ret
    exact ⟨rfl, HB.out⟩

def lightB (h : Hv) : Bool := decide (h.to.length ≤ 100) && decide (h.fr.length ≤ 100) && decide (h.tk.length ≤ 200)
set_option maxRecDepth 20000 in
set_option maxHeartbeats 2000000 in
theorem light_any (w : World) (h : Hv) (a2 : Option Addr) (c2 : Nat) (a3 : Option Addr) (c3 : Nat) (a4 : Option Addr) (c4 : Nat) (hl2 : h.to.length ≤ 9223372036854775807) (hl3 : h.fr.length ≤ 9223372036854775807) (hl4 : h.tk.length ≤ 9223372036854775807) :
    Calls Tryd.prog 4 #[.agg #[.int .i64 h.k, .int .i64 h.v, .slice a2 h.to.length c2, .slice a3 h.fr.length c3, .slice a4 h.tk.length c4, .int .i64 h.p, .int .i64 h.n, .int .i64 h.w]] w fun e w' => e = .returned (.bool (lightB h)) ∧ Below w.heap.size w w' := by
  have hB := below_alloc w (.cells #[.int .i64 h.k, .int .i64 h.v, .slice a2 h.to.length c2, .slice a3 h.fr.length c3, .slice a4 h.tk.length c4, .int .i64 h.p, .int .i64 h.n, .int .i64 h.w] 24)
  have fin : ∀ b, b = lightB h → ∀ w', Below w.heap.size w w' → (Ending.returned (.bool b) = .returned (.bool (lightB h)) ∧ Below w.heap.size w w') := fun b e w' hb => ⟨ret_bool e, hb⟩
  by_cases q0 : h.to.length ≤ 100
  · have r0 : decide ((h.to.length : Int) ≤ 100) = true := decide_eq_true (by omega)
    by_cases q1 : h.fr.length ≤ 100
    · have r1 : decide ((h.fr.length : Int) ≤ 100) = true := decide_eq_true (by omega)
      by_cases q2 : h.tk.length ≤ 200
      · have r2 : decide ((h.tk.length : Int) ≤ 200) = true := decide_eq_true (by omega)
        have fin' := fin true (by simp [lightB, q0, q1, q2])
        clear fin
        go_enter Tryd.func4, Tryd.ntmps4
        go_wp2_with fail
        go_ret
        exact fin' _ hB
      · have r2 : decide ((h.tk.length : Int) ≤ 200) = false := decide_eq_false (by omega)
        have fin' := fin false (by simp [lightB, q2])
        clear fin
        go_enter Tryd.func4, Tryd.ntmps4
        go_wp2_with fail
        go_ret
        exact fin' _ hB
    · have r1 : decide ((h.fr.length : Int) ≤ 100) = false := decide_eq_false (by omega)
      have fin' := fin false (by simp [lightB, q1])
      clear fin
      go_enter Tryd.func4, Tryd.ntmps4
      go_wp2_with fail
      go_ret
      exact fin' _ hB
  · have r0 : decide ((h.to.length : Int) ≤ 100) = false := decide_eq_false (by omega)
    have fin' := fin false (by simp [lightB, q0])
    clear fin
    go_enter Tryd.func4, Tryd.ntmps4
    go_wp2_with fail
    go_ret
    exact fin' _ hB
#print axioms hawake_any
#print axioms light_any
end Go.Proofs.YtgnjmmaahpngpaaDoor
