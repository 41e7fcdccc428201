/- The bytes of any list, and of any retry: the program's are the document's. -/
import Derived.Test.YtkmjdpnbakcgcaaQOf
import Derived.Test.YtkmjdpnbakcgcaaQRW
import Derived.Test.YtkmjdpnbakcgcaaHSame
namespace Go.Proofs.Ytkmjdpnbakcgcaa
open Go Go.RowKit

theorem Ri.lit (w : World) (zs : List Int) (h : zs.length ≤ 1000) : Ri (w.alloc (.cells (zs.map (Value.int .i64)).toArray 3)) (.slice (some ⟨w.heap.size, 0, none⟩) zs.length zs.length) zs := by
  refine ⟨some ⟨w.heap.size, 0, none⟩, zs.length, rfl, Nat.le_refl _, by unfold maxLen; omega, (fun h => by cases h), fun a ha j hj => ?_⟩
  cases ha
  rw [Addr.add_lit]
  have := cell_of_row (w.alloc (.cells (zs.map (Value.int .i64)).toArray 3)) w.heap.size (0 + j) (zs.map (Value.int .i64)).toArray 3 (0, 0) (heap_alloc_new w _)
  rw [this]
  simp [hj]
set_option maxRecDepth 20000 in
theorem qawake_any (w : World) : Calls Try.prog 8 #[] w fun e w' => e = .returned (.bool true) ∧ Below w.heap.size w w' := by
  have hi := Ri.lit w [2] (by decide)
  have hB := below_alloc w (.cells ([2].map (Value.int .i64)).toArray 3)
  have hw := writelist_any (w := w.alloc (.cells ([2].map (Value.int .i64)).toArray 3)) (a2 := none) (a3 := none) (c2 := 0) (c3 := 0) (to := []) (fr := []) (Rd.nil _) (Rd.nil _) hi (by decide)
  rw [show listW [] [] [2] = [128, 0, 0, 0, 0, 0, 0, 0, 0, 0, 2] by decide] at hw
  clear hi
  go_enter Try.func8, Try.ntmps8
  go_wp2_with fail
  refine hw.mono ?_
  rintro e w1 ⟨v1, rfl, r1, b1⟩
  have B1 := Lib.hid (hB.trans (b1.mono hB.size))
  have B2 := Lib.hid (B1.out.trans ((below_alloc w1 (.cells (by8 [128, 0, 0, 0, 0, 0, 0, 0, 0, 0, 2]).toArray 5)).mono B1.out.size))
  have hs := same_true (r1.alloc (.cells (by8 [128, 0, 0, 0, 0, 0, 0, 0, 0, 0, 2]).toArray 5)) (Rd.lit w1 [128, 0, 0, 0, 0, 0, 0, 0, 0, 0, 2] (by decide) (byt_of (by decide)))
  clear r1 b1 hw
  go_wp2_with fail
  refine hs.mono ?_
  rintro e w2 ⟨rfl, b2⟩
  go_wp2_with fail
  go_ret
  exact ⟨rfl, B2.out.trans (b2.mono B2.out.size)⟩

/-- What holds as both are written: the two boxes. -/
theorem kept8 {w w' : World} {b c : Nat} {v0 v1 v2 u0 u1 u2 u3 u4 : Value} (hb : Below w.heap.size w w') (h : w.cell? ⟨b, 0, none⟩ = some v0 ∧ w.cell? ⟨b, 1, none⟩ = some v1 ∧ w.cell? ⟨b, 2, none⟩ = some v2 ∧ w.cell? ⟨c, 0, none⟩ = some u0 ∧ w.cell? ⟨c, 1, none⟩ = some u1 ∧ w.cell? ⟨c, 2, none⟩ = some u2 ∧ w.cell? ⟨c, 3, none⟩ = some u3 ∧ w.cell? ⟨c, 4, none⟩ = some u4) :
    w'.cell? ⟨b, 0, none⟩ = some v0 ∧ w'.cell? ⟨b, 1, none⟩ = some v1 ∧ w'.cell? ⟨b, 2, none⟩ = some v2 ∧ w'.cell? ⟨c, 0, none⟩ = some u0 ∧ w'.cell? ⟨c, 1, none⟩ = some u1 ∧ w'.cell? ⟨c, 2, none⟩ = some u2 ∧ w'.cell? ⟨c, 3, none⟩ = some u3 ∧ w'.cell? ⟨c, 4, none⟩ = some u4 :=
  ⟨kept hb h.1, kept hb h.2.1, kept hb h.2.2.1, kept hb h.2.2.2.1, kept hb h.2.2.2.2.1, kept hb h.2.2.2.2.2.1, kept hb h.2.2.2.2.2.2.1, kept hb h.2.2.2.2.2.2.2⟩

end Go.Proofs.Ytkmjdpnbakcgcaa
