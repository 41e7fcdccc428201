/- The function awake tells true, and writes nothing that was there. -/
import Derived.Test.YtbhfilmbokaboaaPure
namespace Go.Proofs.Ytbhfilmbokaboaa
open Go Go.RowKit

/-- A node without text. -/
def nd (k : Int) (ps : List Int) : Nd := (k, ByteArray.empty, ps)
abbrev nS : Nd := secretNd
theorem aw1 : fitsN [nS, nS] 7 [1] = true ∧ mkN [nS, nS] 7 [1] = [1] ∧ idxN 1 [nS, nS] (nd 7 [1]) = none := by decide +kernel
theorem aw2 : fitsN [nS, nS, nd 7 [1]] 7 [2] = true ∧ mkN [nS, nS, nd 7 [1]] 7 [2] = [2] ∧ idxN 1 [nS, nS, nd 7 [1]] (nd 7 [2]) = none := by decide +kernel
theorem aw3 : fitsN [nS, nS, nd 7 [1], nd 7 [2]] 8 [1, 4] = true ∧ mkN [nS, nS, nd 7 [1], nd 7 [2]] 8 [1, 4] = [1, 2] ∧ idxN 1 [nS, nS, nd 7 [1], nd 7 [2]] (nd 8 [1, 2]) = none := by decide +kernel
theorem aw4 : fitsN [nS, nS, nd 7 [1], nd 7 [2], nd 8 [1, 2]] 8 [2, 3] = true ∧ mkN [nS, nS, nd 7 [1], nd 7 [2], nd 8 [1, 2]] 8 [2, 3] = [1, 2] ∧ idxN 1 [nS, nS, nd 7 [1], nd 7 [2], nd 8 [1, 2]] (nd 8 [1, 2]) = some 5 := by decide +kernel

set_option maxHeartbeats 1000000 in
set_option maxRecDepth 20000 in
theorem awake_any (w : World) : Calls Try.prog 23 #[] w fun e w' => e = .returned (.bool true) ∧ Below w.heap.size w w' := by
  go_enter Try.func23, Try.ntmps23
  go_wp2_with fail
  refine (Tab.new w).mono ?_
  rintro e w1 ⟨rfl, t1, b1⟩
  have s1 := b1.size
  go_wp2_with fail
  refine (Tab.secret t1 (by decide)).mono ?_
  rintro e w2 ⟨rfl, nv2, t2, f2, m2⟩
  have b2 := b1.trans (t1.below f2)
  have s2 := b2.size
  go_wp2_with fail
  refine (Tab.secret t2 (by decide)).mono ?_
  rintro e w3 ⟨rfl, nv3, t3, f3, m3⟩
  have b3 := b2.trans (t2.below f3)
  have s3 := b3.size
  go_wp2_with fail
  have q4 := Tab.make (N := [nS, nS]) (t3.keep (below_alloc w3 (.cells #[.int .i64 1] 32))) 7 (Rd.lit .i64 32 w3 [1] (by decide)) (by decide) aw1.1 (by decide) (Nat.le_trans s3 (by simp))
  rw [aw1.2.1] at q4
  refine q4.mono ?_
  intro e w4 p4
  clear q4
  obtain ⟨rfl, nv4, t4, f4, m4⟩ := p4.new aw1.2.2
  have b4 := b3.trans (((below_alloc w3 (.cells #[.int .i64 1] 32)).mono s3).trans ((t3.keep (below_alloc w3 _)).below f4))
  have s4 := b4.size
  go_wp2_with fail
  have q5 := Tab.make (N := [nS, nS, nd 7 [1]]) (t4.keep (below_alloc w4 (.cells #[.int .i64 2] 32))) 7 (Rd.lit .i64 32 w4 [2] (by decide)) (by decide) aw2.1 (by decide) (Nat.le_trans s4 (by simp))
  rw [aw2.2.1] at q5
  refine q5.mono ?_
  intro e w5 p5
  clear q5
  obtain ⟨rfl, nv5, t5, f5, m5⟩ := p5.new aw2.2.2
  have b5 := b4.trans (((below_alloc w4 (.cells #[.int .i64 2] 32)).mono s4).trans ((t4.keep (below_alloc w4 _)).below f5))
  have s5 := b5.size
  go_wp2_with fail
  have q6 := Tab.make (N := [nS, nS, nd 7 [1], nd 7 [2]]) (t5.keep (below_alloc w5 (.cells #[.int .i64 1, .int .i64 4] 32))) 8 (Rd.lit .i64 32 w5 [1, 4] (by decide)) (by decide) aw3.1 (by decide) (Nat.le_trans s5 (by simp))
  rw [aw3.2.1] at q6
  refine q6.mono ?_
  intro e w6 p6
  clear q6
  obtain ⟨rfl, nv6, t6, f6, m6⟩ := p6.new aw3.2.2
  have b6 := b5.trans (((below_alloc w5 (.cells #[.int .i64 1, .int .i64 4] 32)).mono s5).trans ((t5.keep (below_alloc w5 _)).below f6))
  have s6 := b6.size
  go_wp2_with fail
  have q7 := Tab.make (N := [nS, nS, nd 7 [1], nd 7 [2], nd 8 [1, 2]]) (t6.keep (below_alloc w6 (.cells #[.int .i64 2, .int .i64 3] 32))) 8 (Rd.lit .i64 32 w6 [2, 3] (by decide)) (by decide) aw4.1 (by decide) (Nat.le_trans s6 (by simp))
  rw [aw4.2.1] at q7
  refine q7.mono ?_
  intro e w7 p7
  clear q7
  obtain ⟨rfl, b67⟩ := p7.old aw4.2.2
  have b7 := b6.trans (((below_alloc w6 (.cells #[.int .i64 2, .int .i64 3] 32)).mono s6).trans (b67.mono (Nat.le_trans s6 (by simp))))
  go_wp2_with fail
  refine (Tab.size (t6.keep ((below_alloc w6 (.cells #[.int .i64 2, .int .i64 3] 32)).trans (b67.mono (by simp))))).mono ?_
  rintro e w8 ⟨rfl, rfl⟩
  go_wp2_with fail
  go_ret
  exact ⟨rfl, b7⟩
#print axioms awake_any
end Go.Proofs.Ytbhfilmbokaboaa
