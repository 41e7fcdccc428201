/- Versions: what fits, what is one. -/
import Derived.Test.YtkmjdpnbakcgcaaHApp
import Derived.Test.YtkmjdpnbakcgcaaInv
namespace Go.Proofs.Ytkmjdpnbakcgcaa
open Go Go.RowKit

theorem ret_bool {a b : Bool} (h : a = b) : Ending.returned (.bool a) = .returned (.bool b) := by rw [h]

set_option maxRecDepth 20000 in
set_option maxHeartbeats 1000000 in
theorem fits_any (w : World) (n : Int) (k : Nat) (h1 : 1 ≤ k) (h4 : k ≤ 4) : Calls Try.prog 38 #[.int .i64 n, .int .i64 (k : Int)] w fun e w' => e = .returned (.bool (fitsB n (k : Int))) ∧ w = w' := by
  have h : k = 1 ∨ k = 2 ∨ k = 3 ∨ k = 4 := by omega
  clear h1 h4
  by_cases h0 : 0 ≤ n
  · rcases h with rfl | rfl | rfl | rfl
    · by_cases hn : n < 256
      all_goals
        go_enter Try.func38, Try.ntmps38
        go_wp2
        go_ret
        exact ⟨ret_bool (by simp [fitsB, h0, hn]), rfl⟩
    · by_cases hn : n < 65536
      all_goals
        go_enter Try.func38, Try.ntmps38
        go_wp2
        go_ret
        exact ⟨ret_bool (by simp [fitsB, h0, hn]), rfl⟩
    · by_cases hn : n < 16777216
      all_goals
        go_enter Try.func38, Try.ntmps38
        go_wp2
        go_ret
        exact ⟨ret_bool (by simp [fitsB, h0, hn]), rfl⟩
    · by_cases hn : n < 4294967296
      all_goals
        go_enter Try.func38, Try.ntmps38
        go_wp2
        go_ret
        exact ⟨ret_bool (by simp [fitsB, h0, hn]), rfl⟩
  · have HE : Hid (fitsB n (k : Int) = false) := Lib.hid (by simp [fitsB, h0])
    go_enter Try.func38, Try.ntmps38
    go_wp2
    go_ret
    exact ⟨ret_bool HE.out.symm, rfl⟩

set_option maxRecDepth 20000 in
set_option maxHeartbeats 1000000 in
theorem isver_any (w : World) (n : Int) : Calls Try.prog 33 #[.int .i64 n] w fun e w' => e = .returned (.bool (decide (0 < n) && decide (n < 4294967296))) ∧ w = w' := by
  have hf := fits_any w n 4 (by decide) (by decide)
  by_cases h0 : 0 < n
  · have HE : Hid ((decide (0 < n) && decide (n < 4294967296)) = fitsB n ((4 : Nat) : Int)) := Lib.hid (by simp [fitsB, h0]; omega)
    generalize fitsB n ((4 : Nat) : Int) = X at *
    go_enter Try.func33, Try.ntmps33
    go_wp2_with (go_at_call 38; refine hf.mono ?_; rintro e w' ⟨rfl, rfl⟩)
    go_ret
    exact ⟨ret_bool HE.out.symm, rfl⟩
  · have HE : Hid ((decide (0 < n) && decide (n < 4294967296)) = false) := Lib.hid (by simp [h0])
    clear hf
    go_enter Try.func33, Try.ntmps33
    go_wp2_with fail
    go_ret
    exact ⟨ret_bool HE.out.symm, rfl⟩

end Go.Proofs.Ytkmjdpnbakcgcaa
