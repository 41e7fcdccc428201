/- The example of the params' chapter. -/
import Derived.Test.YtmglhlfjddgllaaDoorPWrite
import Derived.Test.YtmglhlfjddgllaaDoorPSm
namespace Go.Proofs.YtmglhlfjddgllaaDoor
open Go Go.RowKit

def ex1 : Pv := ⟨5, 6, false, false, false, [], [], [], 1, [1]⟩
theorem ex1_bytes : wrP ex1 = [1, 1, 5, 4, 1, 6, 17, 8, 0, 0, 0, 1, 0, 0, 0, 1] := by decide +kernel
theorem lit_i1 (w : World) (x : Int) : Ri (w.alloc (.cells #[.int .i64 x] 3)) (.slice (some ⟨w.heap.size, 0, none⟩) 1 1) [x] := by
  refine ⟨some ⟨w.heap.size, 0, none⟩, 1, rfl, Nat.le_refl _, by simp [maxLen], (fun h => by cases h), fun a ha j hj => ?_⟩
  cases ha
  obtain rfl : j = 0 := by simp at hj; omega
  simp [go_sem, Addr.add]
set_option maxRecDepth 20000 in
set_option maxHeartbeats 2000000 in
theorem pawake_any (w : World) (ht : Tab w) (hw : 1 < w.heap.size) : Calls Tryd.prog 13 #[] w fun e w' => e = .returned (.bool true) ∧ Below w.heap.size w w' := by
  have hB := below_alloc w (.cells #[.int .i64 1] 3)
  have hP : Pr (w.alloc (.cells #[.int .i64 1] 3)) ex1 (.slice none 0 0) (.slice none 0 0) (.slice none 0 0) (.slice (some ⟨w.heap.size, 0, none⟩) 1 1) := ⟨Rd.nil _, Rd.nil _, Rd.nil _, lit_i1 w 1⟩
  have hwr := write_any hP (ht.below hB) (by simp; omega)
  rw [ex1_bytes] at hwr
  dsimp only [pAgg, ex1] at hwr
  have HB := Lib.hid hB
  clear hP hB ht
  go_enter Tryd.func13, Tryd.ntmps13
  go_wp2_with (go_at_call 10; refine hwr.mono ?_; rintro e w1 ⟨v1, rfl, ho1, hz1, hb1⟩; have r1 := (Rd.of_own ho1 hz1).1; obtain ⟨a1, k1, rfl⟩ := own_shape ho1)
  have r2 := Rd.lit w1 [1, 1, 5, 4, 1, 6, 17, 8, 0, 0, 0, 1, 0, 0, 0, 1] (by simp) (byt_of (by decide))
  have hsm := same_any (r1.alloc _) r2
  rw [show decide (([1, 1, 5, 4, 1, 6, 17, 8, 0, 0, 0, 1, 0, 0, 0, 1] : List Int) = [1, 1, 5, 4, 1, 6, 17, 8, 0, 0, 0, 1, 0, 0, 0, 1]) = true by decide] at hsm
  have hb2 := hb1.size
  refine hsm.mono ?_
  rintro e w2 ⟨rfl, hb3⟩
  go_wp2_with fail
  go_ret
  have B1 := HB.out.trans (hb1.mono HB.out.size)
  have B2 := B1.trans ((below_alloc w1 (.cells (by8 [1, 1, 5, 4, 1, 6, 17, 8, 0, 0, 0, 1, 0, 0, 0, 1]).toArray 5)).mono B1.size)
  exact ⟨rfl, B2.trans (hb3.mono B2.size)⟩
end Go.Proofs.YtmglhlfjddgllaaDoor
