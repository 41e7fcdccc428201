/- law 13: StreamOrders, for every input. -/
import Derived.Test.YthfmpnikchlhlaaLOrd
import Derived.Test.YthfmpnikchlhlaaRlIn
namespace Go.Proofs.Ythfmpnikchlhlaa
open Go Go.RowKit

set_option maxRecDepth 20000 in
set_option maxHeartbeats 1000000 in
theorem sorders_any {w : World} {bv cv ov : Value} {qs : List (Value × List Int)} {cuts order : List Int} (hq : Rl w bv qs) (hc : Rd w cv cuts) (ho : Rd w ov order) :
    Calls Try.prog 5 #[bv, cv, ov] w fun e w' => e = .returned (.bool true) ∧ Below w.heap.size w w' := by
  by_cases hl1 : qs.length ≤ 8
  · by_cases hl2 : cuts.length ≤ 100
    · by_cases hl3 : order.length ≤ 200
      · exact sorders_walk hq hc ho hl1 hl2 hl3
      · obtain ⟨ba, bc, rfl, _⟩ := hq.shape
        obtain ⟨ca, cc, rfl⟩ := hc.shape
        obtain ⟨oa, oc, rfl⟩ := ho.shape
        have h1 : ¬ (8 : Int) < (qs.length : Int) := by omega
        have h2 : ¬ (100 : Int) < (cuts.length : Int) := by omega
        have h3 : (200 : Int) < (order.length : Int) := by omega
        clear hq hc ho
        go_enter Try.func5, Try.ntmps5
        go_wp2_with fail
        go_ret
        exact ⟨rfl, Below.refl _ _⟩
    · obtain ⟨ba, bc, rfl, _⟩ := hq.shape
      obtain ⟨ca, cc, rfl⟩ := hc.shape
      obtain ⟨oa, oc, rfl⟩ := ho.shape
      have h1 : ¬ (8 : Int) < (qs.length : Int) := by omega
      have h2 : (100 : Int) < (cuts.length : Int) := by omega
      clear hq hc ho
      go_enter Try.func5, Try.ntmps5
      go_wp2_with fail
      go_ret
      exact ⟨rfl, Below.refl _ _⟩
  · obtain ⟨ba, bc, rfl, _⟩ := hq.shape
    obtain ⟨ca, cc, rfl⟩ := hc.shape
    obtain ⟨oa, oc, rfl⟩ := ho.shape
    have h1 : (8 : Int) < (qs.length : Int) := by omega
    clear hq hc ho
    go_enter Try.func5, Try.ntmps5
    go_wp2_with fail
    go_ret
    exact ⟨rfl, Below.refl _ _⟩
#print axioms sorders_any
end Go.Proofs.Ythfmpnikchlhlaa
