/- VarintReads' walk: the call tells true of all bytes, and writes nothing that was there. -/
import Derived.Test.YtddhdbdhdcjefaaDoorRefRead
import Derived.Test.YtddhdbdhdcjefaaDoorAwake
namespace Go.Proofs.YtddhdbdhdcjefaaDoor.reads
open Go Go.RowKit

set_option maxHeartbeats 800000 in
theorem walk {w : World} {vb : Value} {zb : List Int} (hb : Rd w vb zb) (ht : Tab w) (hw : 1 < w.heap.size) :
    Calls Tryd.prog 4 #[vb] w fun e w' => e = .returned (.bool true) ∧ Below w.heap.size w w' := by
  have h1 := read_any hb
  have h2 := refread_any hb
  have hb' := hb
  obtain ⟨ab, cb, rfl, hcb, hcb', _⟩ := hb'
  unfold maxLen at hcb'
  by_cases hbig : (1000 : Int) < (zb.length : Int)
  · go_enter Tryd.func4, Tryd.ntmps4
    go_wp2
    go_ret
    exact ⟨rfl, Below.refl _ _⟩
  · generalize rd zb = r at h1 h2
    obtain ⟨N, S, E⟩ := r
    have e1 : (N == N) = true := by simp
    have e2 : (S == S) = true := by simp
    have e3 : (E == E) = true := by simp
    go_enter Tryd.func4, Tryd.ntmps4
    go_wp2_with fail
    refine h1.mono ?_
    rintro e w' ⟨rfl, rfl⟩
    go_wp2_with fail
    refine h2.mono ?_
    rintro e w' ⟨rfl, rfl⟩
    go_wp2_with fail
    refine (awake_any ht hw).mono ?_
    rintro e w8 ⟨rfl, hb8⟩
    go_wp2_with fail
    go_ret
    exact ⟨rfl, hb8⟩
#print axioms walk
end Go.Proofs.YtddhdbdhdcjefaaDoor.reads
