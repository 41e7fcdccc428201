/- The laws' own function terms: numbers as the program's. -/
import Derived.Test.YtcjgpiffdeedeaaAwk
namespace Go.Proofs.Ytcjgpiffdeedeaa
open Go Go.RowKit

set_option maxHeartbeats 1000000 in
set_option maxRecDepth 20000 in
theorem kterms_any {w : World} {v : Value} {xs : List Int} (h : Rd .i64 w v xs) (hl : xs.length ≤ 1000000) :
    Calls Try.prog 13 #[v] w fun e w' => ∃ u, e = .returned u ∧ w'.ownsRow w.heap.size 42 1 u xs.length (cs .i64 xs) ∧ Below w.heap.size w w' := by
  have h' := h
  obtain ⟨ao, cap, rfl, _, _, _, _⟩ := h'
  have HL := Lib.hid hl
  clear hl
  go_enter Try.func13, Try.ntmps13
  go_wp2_with fail
  go_loopw [3, 4] (fun u i wr => ∃ j : Nat, j ≤ xs.length ∧ i = .int .i64 j ∧ wr.ownsRow w.heap.size 42 1 u j (cs .i64 (xs.take j)) ∧ Below w.heap.size w wr) (fun _ i _ => xs.length - (intOf i).toNat)
  case atStart => exact ⟨0, Nat.zero_le _, rfl, World.ownsRow_nil _ _ _ _, Below.refl _ _⟩
  case round =>
    obtain ⟨j, hj, rfl, hown, hb⟩ := hrel
    have hsw := hb.size
    by_cases hlt : j < xs.length
    · have hlt' : (j : Int) < (xs.length : Int) := by omega
      rcases (h.below hb).cases with ⟨h0, _⟩ | ⟨b, off, c, e, _, _, _, _, hc⟩
      · rw [h0] at hlt; simp at hlt
      · cases e
        have hcj := hc j hlt
        clear hc
        have HT := Lib.hid (take_succ_getD xs j hlt)
        generalize xs.getD j 0 = x at *
        have hj6 : j ≤ 1000000 := by have := HL.out; omega
        go_wp2_with (at_builtin; refine wpList_append_ints .i64 42 8 (.tmp 11) (.tmp 16) 37 rfl rfl info32 Try.underlying37 w.heap.size _ j (xs.take j) rfl (own_alloc hown _) _ [x] rfl (Rd.lit .i64 42 wr [x] (by simp)) (by simp; omega) (by simp; omega) (by simp; omega) ?_; intro v5 w5 hown5 hb5 _)
        go_roundw
        case rel => exact ⟨j + 1, by omega, by go_num, (by rw [HT.out]; exact hown5), hb.trans (((below_alloc _ _).mono hsw).trans hb5)⟩
        case measure => simp [intOf]; omega
    · obtain rfl : j = xs.length := by omega
      rw [List.take_length] at hown
      go_wp2_with fail
      go_ret
      exact ⟨_, rfl, hown, hb⟩
#print axioms kterms_any
end Go.Proofs.Ytcjgpiffdeedeaa
