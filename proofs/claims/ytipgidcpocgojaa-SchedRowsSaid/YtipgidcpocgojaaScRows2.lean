/- SchedRows, for every input. -/
import Derived.Test.YtipgidcpocgojaaScRows0
import Derived.Test.YtipgidcpocgojaaScRows1
namespace Go.Proofs.Ytipgidcpocgojaa
open Go Go.RowKit

set_option maxRecDepth 30000 in
theorem srows_any {w : World} {gv av : Value} {zg : List Int} {qa : List (Value × List Int)} (hg : Rd .u8 w gv zg) (ha : Rl w av qa) (tk : Bool) :
    Calls Try.prog 3 #[gv, av, .bool tk] w fun e w' => e = .returned (.bool true) ∧ Below w.heap.size w w' := by
  by_cases h1 : zg.length ≤ 50
  · by_cases h2 : qa.length ≤ 10
    · cases tk with
      | false => exact srows_walk0 hg ha h1 h2
      | true => exact srows_walk1 hg ha h1 h2
    · obtain ⟨aa, ac, rfl, _⟩ := ha.shape
      obtain ⟨ga, gc, rfl, _⟩ := hg
      have t0 : decide ((50 : Int) < (zg.length : Int)) = false := decide_eq_false (by omega)
      have t1 : decide ((10 : Int) < (qa.length : Int)) = true := decide_eq_true (by omega)
      clear ha h1 h2
      go_enter Try.func3, Try.ntmps3
      go_wp2_with fail
      go_ret
      exact ⟨rfl, Below.refl _ _⟩
  · obtain ⟨aa, ac, rfl, _⟩ := ha.shape
    obtain ⟨ga, gc, rfl, _⟩ := hg
    have t0 : decide ((50 : Int) < (zg.length : Int)) = true := decide_eq_true (by omega)
    clear ha h1
    go_enter Try.func3, Try.ntmps3
    go_wp2_with fail
    go_ret
    exact ⟨rfl, Below.refl _ _⟩
#print axioms srows_any
end Go.Proofs.Ytipgidcpocgojaa
