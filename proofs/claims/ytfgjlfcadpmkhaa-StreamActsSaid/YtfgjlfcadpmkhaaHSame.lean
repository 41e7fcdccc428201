/- The function same tells true of two slices that read as the same bytes, and writes nothing that was there. -/
import Derived.Test.YtfgjlfcadpmkhaaKit
import Derived.Test.YtfgjlfcadpmkhaaChecked
import Derived.Deep.QuietTactic
import Derived.BigQuiet
import Derived.Outline
namespace Go.Proofs.Ytfgjlfcadpmkhaa
open Go Go.RowKit

set_option maxRecDepth 20000 in
set_option maxHeartbeats 400000 in
theorem same_true {w : World} {v1 v2 : Value} {zs : List Int} (h1 : Rd w v1 zs) (h2 : Rd w v2 zs) :
    Calls Try.prog 6 #[v1, v2] w fun e w' => e = .returned (.bool true) ∧ Below w.heap.size w w' := by
  rcases h1.cases with ⟨rfl, a1, c1, rfl, hc1⟩ | ⟨b1, o1, c1, rfl, hp, hl1, hc1, _, hcell1⟩
  · rcases h2.cases with ⟨_, a2, c2, rfl, hc2⟩ | ⟨b2, o2, c2, rfl, hp, _⟩
    · clear h1 h2
      go_enter Try.func6, Try.ntmps6
      go_wp2
      refine wp_loop_rounds 1 ?_
      rw [rounds_succ]
      go_wp2
      go_ret
      exact ⟨rfl, Below.refl _ _⟩
    · simp at hp
  · rcases h2.cases with ⟨rfl, _⟩ | ⟨b2, o2, c2, rfl, _, hl2, hc2, _, hcell2⟩
    · simp at hp
    · clear h1 h2
      obtain ⟨n, hn⟩ : ∃ n, n = zs.length := ⟨_, rfl⟩
      rw [← hn] at hp hl1 hl2 hcell1 hcell2 ⊢
      have HN := Lib.hid hn
      clear hn
      have hne : ((n : Int) != (n : Int)) = false := by simp
      go_enter Try.func6, Try.ntmps6
      go_wp2
      go_loopw [5] (fun i wr => ∃ k : Nat, k ≤ n ∧ i = .int .i64 k ∧ Below w.heap.size w wr) (fun i _ => n - (intOf i).toNat)
      case atStart => exact ⟨0, Nat.zero_le _, rfl, Below.refl _ _⟩
      case round =>
        obtain ⟨k, hk, rfl, hb⟩ := hrel
        by_cases hlt : k < n
        · have g1 : wr.cell? ⟨b1, o1 + k, none⟩ = some (.int .u8 (zs.getD k 0)) := by rw [hb.cell (cell_lt (hcell1 k hlt))]; exact hcell1 k hlt
          have g2 : wr.cell? ⟨b2, o2 + k, none⟩ = some (.int .u8 (zs.getD k 0)) := by rw [hb.cell (cell_lt (hcell2 k hlt))]; exact hcell2 k hlt
          clear hcell1 hcell2
          have hi : (k : Int) < (n : Int) := by omega
          go_wp2
          go_quiet (fail)
          go_wp2
          go_roundw
          case rel => exact ⟨k + 1, by omega, by go_num, below_drewN hb nq⟩
          case measure => simp [intOf]; omega
        · clear hcell1 hcell2
          go_wp2
          go_ret
          exact ⟨rfl, hb⟩
#print axioms same_true
end Go.Proofs.Ytfgjlfcadpmkhaa
