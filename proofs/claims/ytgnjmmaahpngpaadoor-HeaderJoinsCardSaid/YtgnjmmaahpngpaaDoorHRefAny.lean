/- The document's own Read of a header tells what refP says: all ways together; told, of two headers that are alike. -/
import Derived.Test.YtgnjmmaahpngpaaDoorHRefLong
import Derived.Test.YtgnjmmaahpngpaaDoorHSame
import Derived.Test.YtgnjmmaahpngpaaDoorHStep
namespace Go.Proofs.YtgnjmmaahpngpaaDoor
open Go Go.RowKit

theorem row_keep {w w' : World} {B : Nat} {o : Obj} (hb : Below w.heap.size w w') (h : w.heap[B]? = some o) : w'.heap[B]? = some o := by
  rw [hb.block B (Array.getElem?_eq_some_iff.1 h).1]; exact h
/-- told: of headers that are alike. -/
theorem eq_self (a : Int) : (a == a) = true := by simp
set_option maxRecDepth 20000 in
set_option maxHeartbeats 2000000 in
theorem told_true {w : World} (h : Hv) {vt vf vk ut uf uk : Value} (h1 : Hr w h vt vf vk) (h2 : Hr w h ut uf uk) :
    Calls Tryd.prog 9 #[.agg (hcells h vt vf vk), .agg (hcells h ut uf uk)] w fun e w' => e = .returned (.bool true) ∧ Below w.heap.size w w' := by
  obtain ⟨a1, n1, c1, rfl⟩ := h1.to.shape3
  obtain ⟨a2, n2, c2, rfl⟩ := h1.fr.shape3
  obtain ⟨a3, n3, c3, rfl⟩ := h1.tk.shape3
  obtain ⟨b1, m1, d1, rfl⟩ := h2.to.shape3
  obtain ⟨b2, m2, d2, rfl⟩ := h2.fr.shape3
  obtain ⟨b3, m3, d3, rfl⟩ := h2.tk.shape3
  have hB := (below_alloc w (.cells (hcells h (.slice a1 n1 c1) (.slice a2 n2 c2) (.slice a3 n3 c3)) 29)).alloc (by simp) (.cells (hcells h (.slice b1 m1 d1) (.slice b2 m2 d2) (.slice b3 m3 d3)) 24)
  have hX := (Below.heap_alloc (w.alloc (.cells (hcells h (.slice a1 n1 c1) (.slice a2 n2 c2) (.slice a3 n3 c3)) 29)) (.cells (hcells h (.slice b1 m1 d1) (.slice b2 m2 d2) (.slice b3 m3 d3)) 24) w.heap.size (by simp)).trans (heap_alloc_new _ _)
  have hY := heap_alloc2_new w (.cells (hcells h (.slice a1 n1 c1) (.slice a2 n2 c2) (.slice a3 n3 c3)) 29) (.cells (hcells h (.slice b1 m1 d1) (.slice b2 m2 d2) (.slice b3 m3 d3)) 24)
  unfold hcells at *
  have H1 := Lib.hid h1
  have H2 := Lib.hid h2
  have HX := Lib.hid hX
  have HY := Lib.hid hY
  have HB := Lib.hid hB
  have hs := eq_self
  clear h1 h2 hX hY hB
  go_enter Tryd.func9, Tryd.ntmps9
  go_wp2_with fail
  refine (same_true (H1.out.to.below HB.out) (H2.out.to.below HB.out)).mono ?_
  rintro e w1 ⟨rfl, hb1⟩
  have HX1 := Lib.hid (row_keep hb1 HX.out)
  have HY1 := Lib.hid (row_keep hb1 HY.out)
  have HB1 := Lib.hid (HB.out.trans (hb1.mono HB.out.size))
  have hx1 := fun i => cell_of_row w1 w.heap.size i _ 29 (0, 0) HX1.out
  have hy1 := fun i => cell_of_row w1 (w.heap.size + 1) i _ 24 (0, 0) HY1.out
  have x3 := hx1 3
  have y3 := hy1 3
  clear hx1 hy1 hb1
  go_wp2_with fail
  refine (same_true (H1.out.fr.below HB1.out) (H2.out.fr.below HB1.out)).mono ?_
  rintro e w2 ⟨rfl, hb2⟩
  have HX2 := Lib.hid (row_keep hb2 HX1.out)
  have HY2 := Lib.hid (row_keep hb2 HY1.out)
  have HB2 := Lib.hid (HB1.out.trans (hb2.mono HB1.out.size))
  have hx1 := fun i => cell_of_row w2 w.heap.size i _ 29 (0, 0) HX2.out
  have hy1 := fun i => cell_of_row w2 (w.heap.size + 1) i _ 24 (0, 0) HY2.out
  have x4 := hx1 4
  have y4 := hy1 4
  clear hx1 hy1 hb2 x3 y3
  go_wp2_with fail
  refine (same_true (H1.out.tk.below HB2.out) (H2.out.tk.below HB2.out)).mono ?_
  rintro e w3 ⟨rfl, hb3⟩
  have HX3 := Lib.hid (row_keep hb3 HX2.out)
  have HY3 := Lib.hid (row_keep hb3 HY2.out)
  have HB3 := Lib.hid (HB2.out.trans (hb3.mono HB2.out.size))
  have hx1 := fun i => cell_of_row w3 w.heap.size i _ 29 (0, 0) HX3.out
  have hy1 := fun i => cell_of_row w3 (w.heap.size + 1) i _ 24 (0, 0) HY3.out
  have x5 := hx1 5
  have y5 := hy1 5
  have x6 := hx1 6
  have y6 := hy1 6
  have x7 := hx1 7
  have y7 := hy1 7
  clear hx1 hy1 hb3 x4 y4
  go_wp2_with fail
  go_ret
  exact ⟨rfl, HB3.out⟩
#print axioms told_true
end Go.Proofs.YtgnjmmaahpngpaaDoor
