/- hello.Right: its kinds 15 and 20, 11. -/
import Derived.Test.YtefcjggmlhoebaaDoorHRt5
namespace Go.Proofs.YtefcjggmlhoebaaDoor
open Go Go.RowKit

/-- A message in its box. -/
def MBox (w : World) (H : Nat) (k r s t m : Int) (f : Bool) (vp : Value) (n : ByteArray) (v l : Int) : Prop := w.heap[H]? = some (.cells (mcl k r s t m f vp n v l) 28 (0, 0))
theorem MBox.cells {w : World} {H : Nat} {k r s t m : Int} {f : Bool} {vp : Value} {n : ByteArray} {v l : Int} (h : MBox w H k r s t m f vp n v l) :
    (w.cell? ⟨H, 0, none⟩ = some (.int .i64 k) ∧ w.cell? ⟨H, 1, none⟩ = some (.int .i64 r) ∧ w.cell? ⟨H, 2, none⟩ = some (.int .i64 s) ∧ w.cell? ⟨H, 3, none⟩ = some (.int .i64 t) ∧ w.cell? ⟨H, 4, none⟩ = some (.int .i64 m) ∧ w.cell? ⟨H, 5, none⟩ = some (.bool f) ∧ w.cell? ⟨H, 6, none⟩ = some vp ∧ w.cell? ⟨H, 7, none⟩ = some (.string n) ∧ w.cell? ⟨H, 8, none⟩ = some (.int .i64 v) ∧ w.cell? ⟨H, 9, none⟩ = some (.int .i64 l)) ∧ (∀ j, w.frozen? ⟨H, j, none⟩ = false) :=
  have c := fun j => cell_of_row w H j _ _ (0, 0) h
  ⟨⟨(c 0).trans rfl, (c 1).trans rfl, (c 2).trans rfl, (c 3).trans rfl, (c 4).trans rfl, (c 5).trans rfl, (c 6).trans rfl, (c 7).trans rfl, (c 8).trans rfl, (c 9).trans rfl⟩, fun j => by simp [World.frozen?, show w.heap[H]? = _ from h]⟩
theorem MBox.keep {w w' : World} {H : Nat} {k r s t m : Int} {f : Bool} {vp : Value} {n : ByteArray} {v l : Int} (h : MBox w H k r s t m f vp n v l) (e : w'.heap[H]? = w.heap[H]?) : MBox w' H k r s t m f vp n v l := by unfold MBox; rw [e]; exact h
theorem MBox.lt {w : World} {H : Nat} {k r s t m : Int} {f : Bool} {vp : Value} {n : ByteArray} {v l : Int} (h : MBox w H k r s t m f vp n v l) : H < w.heap.size := (Array.getElem?_eq_some_iff.1 h).1
theorem MBox.below {w w' : World} {H : Nat} {k r s t m : Int} {f : Bool} {vp : Value} {n : ByteArray} {v l : Int} (h : MBox w H k r s t m f vp n v l) (hb : Below w.heap.size w w') : MBox w' H k r s t m f vp n v l := h.keep (hb.block H h.lt)
theorem MBox.set {w : World} {H : Nat} {k r s t m : Int} {f : Bool} {vp : Value} {n : ByteArray} {v l : Int} (h : MBox w H k r s t m f vp n v l) (i : Nat) (u : Value) {k' r' s' t' m' : Int} {f' : Bool} {vp' : Value} {n' : ByteArray} {v' l' : Int} (hc : (mcl k r s t m f vp n v l).setIfInBounds i u = mcl k' r' s' t' m' f' vp' n' v' l') : MBox (w.setCell ⟨H, i, none⟩ u) H k' r' s' t' m' f' vp' n' v' l' := by
  have e0 := heap_setCell_same w H i _ 28 u h
  rw [hc] at e0
  exact e0
theorem mbox_new (w : World) (k r s t m : Int) (f : Bool) (vp : Value) (n : ByteArray) (v l : Int) : MBox (w.alloc (.cells (mcl k r s t m f vp n v l) 28)) w.heap.size k r s t m f vp n v l := heap_alloc_new w _
set_option maxRecDepth 20000 in
set_option maxHeartbeats 4000000 in
theorem right_15 (w : World) (r s t m : Int) (f : Bool) (a : Option Addr) (pl c : Nat) (n : ByteArray) (v l : Int) : Calls Tryd.prog 12 #[.agg (mcl 15 r s t m f (.slice a pl c) n v l)] w fun e w' => e = .returned (.bool (tmD m && bareB r s t 0 f pl n v l)) ∧ Below w.heap.size w w' := by
  have hm0 := mbox_new w 15 r s t m f (.slice a pl c) n v l
  have B0 := below_alloc w (.cells (mcl 15 r s t m f (.slice a pl c) n v l) 28)
  obtain ⟨⟨c0, c1, c2, c3, c4, c5, c6, c7, c8, c9⟩, cf⟩ := hm0.cells
  have hl := fun (W : World) (g : Nat) (hg : g = W.heap.size) (T : Nat) => litg1 hg m T
  cases hd : tmD m with
  | false =>
    rw [hd] at hl
    clear hd
    unfold mcl at *
    go_enter Tryd.func12, Tryd.ntmps12
    go_wp2_with (go_at_call 25; refine (hl _ _ (by simp) _).mono ?_; rintro e w1 ⟨rfl, hb1⟩; have hm1 := hm0.below hb1; have B1 := B0.trans (hb1.mono B0.size); clear hb1; clear c0 c1 c2 c3 c4 c5 c6 c7 c8 c9 cf; have hx0 := hm1.set 4 (.int .i64 0) rfl; obtain ⟨⟨c0, c1, c2, c3, c4, c5, c6, c7, c8, c9⟩, cg⟩ := hx0.cells; obtain ⟨_, cf⟩ := hm1.cells)
    go_ret
    exact ⟨by simp, (B1.setCell (p := ⟨w.heap.size, 4, none⟩) (Nat.le_refl _) (.int .i64 0))⟩
  | true =>
    rw [hd] at hl
    clear hd
    unfold mcl at *
    go_enter Tryd.func12, Tryd.ntmps12
    go_wp2_with (first
      | (go_at_call 25; refine (hl _ _ (by simp) _).mono ?_; rintro e w1 ⟨rfl, hb1⟩; have hm1 := hm0.below hb1; have B1 := B0.trans (hb1.mono B0.size); clear hb1; clear c0 c1 c2 c3 c4 c5 c6 c7 c8 c9 cf; have hx0 := hm1.set 4 (.int .i64 0) rfl; obtain ⟨⟨c0, c1, c2, c3, c4, c5, c6, c7, c8, c9⟩, cg⟩ := hx0.cells; obtain ⟨_, cf⟩ := hm1.cells)
      | (go_at_call 30; refine (bare_any _ _ _ _ _ _ _ _ _ _ _ _ _).mono ?_; rintro e wb ⟨rfl, hbb⟩))
    go_ret
    have BB := (B1.setCell (p := ⟨w.heap.size, 4, none⟩) (Nat.le_refl _) (.int .i64 0))
    exact ⟨by simp, BB.trans (hbb.mono BB.size)⟩
set_option maxRecDepth 20000 in
set_option maxHeartbeats 4000000 in
theorem right_20 (w : World) (r s t m : Int) (f : Bool) (a : Option Addr) (pl c : Nat) (n : ByteArray) (v l : Int) : Calls Tryd.prog 12 #[.agg (mcl 20 r s t m f (.slice a pl c) n v l)] w fun e w' => e = .returned (.bool (tmD m && bareB r s t 0 f pl n v l)) ∧ Below w.heap.size w w' := by
  have hm0 := mbox_new w 20 r s t m f (.slice a pl c) n v l
  have B0 := below_alloc w (.cells (mcl 20 r s t m f (.slice a pl c) n v l) 28)
  obtain ⟨⟨c0, c1, c2, c3, c4, c5, c6, c7, c8, c9⟩, cf⟩ := hm0.cells
  have hl := fun (W : World) (g : Nat) (hg : g = W.heap.size) (T : Nat) => litg1 hg m T
  cases hd : tmD m with
  | false =>
    rw [hd] at hl
    clear hd
    unfold mcl at *
    go_enter Tryd.func12, Tryd.ntmps12
    go_wp2_with (go_at_call 25; refine (hl _ _ (by simp) _).mono ?_; rintro e w1 ⟨rfl, hb1⟩; have hm1 := hm0.below hb1; have B1 := B0.trans (hb1.mono B0.size); clear hb1; clear c0 c1 c2 c3 c4 c5 c6 c7 c8 c9 cf; have hx0 := hm1.set 4 (.int .i64 0) rfl; obtain ⟨⟨c0, c1, c2, c3, c4, c5, c6, c7, c8, c9⟩, cg⟩ := hx0.cells; obtain ⟨_, cf⟩ := hm1.cells)
    go_ret
    exact ⟨by simp, (B1.setCell (p := ⟨w.heap.size, 4, none⟩) (Nat.le_refl _) (.int .i64 0))⟩
  | true =>
    rw [hd] at hl
    clear hd
    unfold mcl at *
    go_enter Tryd.func12, Tryd.ntmps12
    go_wp2_with (first
      | (go_at_call 25; refine (hl _ _ (by simp) _).mono ?_; rintro e w1 ⟨rfl, hb1⟩; have hm1 := hm0.below hb1; have B1 := B0.trans (hb1.mono B0.size); clear hb1; clear c0 c1 c2 c3 c4 c5 c6 c7 c8 c9 cf; have hx0 := hm1.set 4 (.int .i64 0) rfl; obtain ⟨⟨c0, c1, c2, c3, c4, c5, c6, c7, c8, c9⟩, cg⟩ := hx0.cells; obtain ⟨_, cf⟩ := hm1.cells)
      | (go_at_call 30; refine (bare_any _ _ _ _ _ _ _ _ _ _ _ _ _).mono ?_; rintro e wb ⟨rfl, hbb⟩))
    go_ret
    have BB := (B1.setCell (p := ⟨w.heap.size, 4, none⟩) (Nat.le_refl _) (.int .i64 0))
    exact ⟨by simp, BB.trans (hbb.mono BB.size)⟩
set_option maxRecDepth 20000 in
set_option maxHeartbeats 4000000 in
theorem right_8 (w : World) (r s t m : Int) (f : Bool) (a : Option Addr) (pl c : Nat) (n : ByteArray) (v l : Int) (ok : Bool) (hp : ∀ W, Below w.heap.size w W → Calls Tryd.prog 56 #[.slice a pl c] W (PrPost ok W)) : Calls Tryd.prog 12 #[.agg (mcl 8 r s t m f (.slice a pl c) n v l)] w fun e w' => e = .returned (.bool (ok && bareB r s t m false 0 n v l)) ∧ Below w.heap.size w w' := by
  have hm0 := mbox_new w 8 r s t m f (.slice a pl c) n v l
  have B0 := below_alloc w (.cells (mcl 8 r s t m f (.slice a pl c) n v l) 28)
  obtain ⟨⟨c0, c1, c2, c3, c4, c5, c6, c7, c8, c9⟩, cf⟩ := hm0.cells
  have hr := fun (W : World) (hW : Below w.heap.size w W) => rparams_any W _ ok (hp W hW)
  clear hp
  cases ok with
  | false =>
    unfold mcl at *
    go_enter Tryd.func12, Tryd.ntmps12
    go_wp2_with (go_at_call 27; refine (hr _ B0).mono ?_; rintro e w1 ⟨rfl, hb1⟩; have hm1 := hm0.below hb1; have B1 := B0.trans (hb1.mono B0.size); clear hb1; clear c0 c1 c2 c3 c4 c5 c6 c7 c8 c9 cf; have hx0 := hm1.set 5 (.bool false) rfl; have hx1 := hx0.set 6 (.slice none 0 0) rfl; obtain ⟨⟨c0, c1, c2, c3, c4, c5, c6, c7, c8, c9⟩, cg⟩ := hx1.cells; obtain ⟨_, cf⟩ := hm1.cells)
    go_ret
    exact ⟨by simp, ((B1.setCell (p := ⟨w.heap.size, 5, none⟩) (Nat.le_refl _) (.bool false)).setCell (p := ⟨w.heap.size, 6, none⟩) (Nat.le_refl _) (.slice none 0 0))⟩
  | true =>
    unfold mcl at *
    go_enter Tryd.func12, Tryd.ntmps12
    go_wp2_with (first
      | (go_at_call 27; refine (hr _ B0).mono ?_; rintro e w1 ⟨rfl, hb1⟩; have hm1 := hm0.below hb1; have B1 := B0.trans (hb1.mono B0.size); clear hb1; clear c0 c1 c2 c3 c4 c5 c6 c7 c8 c9 cf; have hx0 := hm1.set 5 (.bool false) rfl; have hx1 := hx0.set 6 (.slice none 0 0) rfl; obtain ⟨⟨c0, c1, c2, c3, c4, c5, c6, c7, c8, c9⟩, cg⟩ := hx1.cells; obtain ⟨_, cf⟩ := hm1.cells)
      | (go_at_call 30; refine (bare_any _ _ _ _ _ _ _ _ _ _ _ _ _).mono ?_; rintro e wb ⟨rfl, hbb⟩))
    go_ret
    have BB := ((B1.setCell (p := ⟨w.heap.size, 5, none⟩) (Nat.le_refl _) (.bool false)).setCell (p := ⟨w.heap.size, 6, none⟩) (Nat.le_refl _) (.slice none 0 0))
    exact ⟨by simp, BB.trans (hbb.mono BB.size)⟩
set_option maxRecDepth 20000 in
set_option maxHeartbeats 4000000 in
theorem right_4 (w : World) (r s t m : Int) (f : Bool) (a : Option Addr) (pl c : Nat) (n : ByteArray) (v l : Int) : Calls Tryd.prog 12 #[.agg (mcl 4 r s t m f (.slice a pl c) n v l)] w fun e w' => e = .returned (.bool ((tmD t && decide (0 < sz l)) && bareB r s 0 m f pl n v 0)) ∧ Below w.heap.size w w' := by
  have hm0 := mbox_new w 4 r s t m f (.slice a pl c) n v l
  have B0 := below_alloc w (.cells (mcl 4 r s t m f (.slice a pl c) n v l) 28)
  obtain ⟨⟨c0, c1, c2, c3, c4, c5, c6, c7, c8, c9⟩, cf⟩ := hm0.cells
  have hl := fun (W : World) (g : Nat) (hg : g = W.heap.size) (T : Nat) => litg1 hg t T
  cases hd : tmD t with
  | false =>
    rw [hd] at hl
    clear hd
    unfold mcl at *
    go_enter Tryd.func12, Tryd.ntmps12
    go_wp2_with (go_at_call 25; refine (hl _ _ (by simp) _).mono ?_; rintro e w1 ⟨rfl, hb1⟩; have hm1 := hm0.below hb1; have B1 := B0.trans (hb1.mono B0.size); clear hb1; clear c0 c1 c2 c3 c4 c5 c6 c7 c8 c9 cf; have hx0 := hm1.set 3 (.int .i64 0) rfl; have hx1 := hx0.set 9 (.int .i64 0) rfl; obtain ⟨⟨c0, c1, c2, c3, c4, c5, c6, c7, c8, c9⟩, cg⟩ := hx1.cells; obtain ⟨_, cf⟩ := hm1.cells)
    go_ret
    exact ⟨by simp, ((B1.setCell (p := ⟨w.heap.size, 3, none⟩) (Nat.le_refl _) (.int .i64 0)).setCell (p := ⟨w.heap.size, 9, none⟩) (Nat.le_refl _) (.int .i64 0))⟩
  | true =>
    rw [hd] at hl
    clear hd
    have hz := size_any l
    by_cases h0 : 0 < sz l
    · have hd0 : decide (0 < sz l) = true := decide_eq_true h0
      have HD := Lib.hid hd0
      generalize sz l = SZ at *
      unfold mcl at *
      go_enter Tryd.func12, Tryd.ntmps12
      go_wp2_with (first
        | (go_at_call 25; refine (hl _ _ (by simp) _).mono ?_; rintro e w1 ⟨rfl, hb1⟩; have hm1 := hm0.below hb1; have B1 := B0.trans (hb1.mono B0.size); clear hb1; clear c0 c1 c2 c3 c4 c5 c6 c7 c8 c9 cf; obtain ⟨⟨c0, c1, c2, c3, c4, c5, c6, c7, c8, c9⟩, cf⟩ := hm1.cells)
        | (go_at_call 29; refine (hz _).mono ?_; rintro e w2 ⟨rfl, rfl⟩; have hm2 := hm1; have B2 := B1; clear c0 c1 c2 c3 c4 c5 c6 c7 c8 c9 cf; have hx0 := hm2.set 3 (.int .i64 0) rfl; have hx1 := hx0.set 9 (.int .i64 0) rfl; obtain ⟨⟨c0, c1, c2, c3, c4, c5, c6, c7, c8, c9⟩, cg⟩ := hx1.cells; obtain ⟨_, cf⟩ := hm2.cells)
        | (go_at_call 30; refine (bare_any _ _ _ _ _ _ _ _ _ _ _ _ _).mono ?_; rintro e wb ⟨rfl, hbb⟩))
      go_ret
      have BB := ((B2.setCell (p := ⟨w.heap.size, 3, none⟩) (Nat.le_refl _) (.int .i64 0)).setCell (p := ⟨w.heap.size, 9, none⟩) (Nat.le_refl _) (.int .i64 0))
      exact ⟨by rw [HD.out]; simp, BB.trans (hbb.mono BB.size)⟩
    · have hd0 : decide (0 < sz l) = false := decide_eq_false h0
      have HD := Lib.hid hd0
      generalize sz l = SZ at *
      unfold mcl at *
      go_enter Tryd.func12, Tryd.ntmps12
      go_wp2_with (first
        | (go_at_call 25; refine (hl _ _ (by simp) _).mono ?_; rintro e w1 ⟨rfl, hb1⟩; have hm1 := hm0.below hb1; have B1 := B0.trans (hb1.mono B0.size); clear hb1; clear c0 c1 c2 c3 c4 c5 c6 c7 c8 c9 cf; obtain ⟨⟨c0, c1, c2, c3, c4, c5, c6, c7, c8, c9⟩, cf⟩ := hm1.cells)
        | (go_at_call 29; refine (hz _).mono ?_; rintro e w2 ⟨rfl, rfl⟩; have hm2 := hm1; have B2 := B1; clear c0 c1 c2 c3 c4 c5 c6 c7 c8 c9 cf; have hx0 := hm2.set 3 (.int .i64 0) rfl; have hx1 := hx0.set 9 (.int .i64 0) rfl; obtain ⟨⟨c0, c1, c2, c3, c4, c5, c6, c7, c8, c9⟩, cg⟩ := hx1.cells; obtain ⟨_, cf⟩ := hm2.cells))
      go_ret
      exact ⟨by rw [HD.out]; simp, ((B2.setCell (p := ⟨w.heap.size, 3, none⟩) (Nat.le_refl _) (.int .i64 0)).setCell (p := ⟨w.heap.size, 9, none⟩) (Nat.le_refl _) (.int .i64 0))⟩
set_option maxRecDepth 20000 in
set_option maxHeartbeats 4000000 in
theorem right_2 (w : World) (r s t m : Int) (f : Bool) (a : Option Addr) (pl c : Nat) (n : ByteArray) (v l : Int) (vb : Bool) (hv : ∀ W, Calls Tryd.prog 28 #[.int .i64 v] W fun e w' => e = .returned (.bool vb) ∧ W = w') : Calls Tryd.prog 12 #[.agg (mcl 2 r s t m f (.slice a pl c) n v l)] w fun e w' => e = .returned (.bool ((tmD r && tmD s && vb) && bareB 0 0 t m false pl n 0 l)) ∧ Below w.heap.size w w' := by
  have hm0 := mbox_new w 2 r s t m f (.slice a pl c) n v l
  have B0 := below_alloc w (.cells (mcl 2 r s t m f (.slice a pl c) n v l) 28)
  obtain ⟨⟨c0, c1, c2, c3, c4, c5, c6, c7, c8, c9⟩, cf⟩ := hm0.cells
  have hl := fun (W : World) (g : Nat) (hg : g = W.heap.size) (T : Nat) => litg2 hg r s T
  cases hd : (tmD r && tmD s) with
  | false =>
    rw [hd] at hl
    clear hd
    unfold mcl at *
    go_enter Tryd.func12, Tryd.ntmps12
    go_wp2_with (go_at_call 25; refine (hl _ _ (by simp) _).mono ?_; rintro e w1 ⟨rfl, hb1⟩; have hm1 := hm0.below hb1; have B1 := B0.trans (hb1.mono B0.size); clear hb1; clear c0 c1 c2 c3 c4 c5 c6 c7 c8 c9 cf; have hx0 := hm1.set 1 (.int .i64 0) rfl; have hx1 := hx0.set 2 (.int .i64 0) rfl; have hx2 := hx1.set 8 (.int .i64 0) rfl; have hx3 := hx2.set 5 (.bool false) rfl; obtain ⟨⟨c0, c1, c2, c3, c4, c5, c6, c7, c8, c9⟩, cg⟩ := hx3.cells; obtain ⟨_, cf⟩ := hm1.cells)
    go_ret
    exact ⟨by simp, ((((B1.setCell (p := ⟨w.heap.size, 1, none⟩) (Nat.le_refl _) (.int .i64 0)).setCell (p := ⟨w.heap.size, 2, none⟩) (Nat.le_refl _) (.int .i64 0)).setCell (p := ⟨w.heap.size, 8, none⟩) (Nat.le_refl _) (.int .i64 0)).setCell (p := ⟨w.heap.size, 5, none⟩) (Nat.le_refl _) (.bool false))⟩
  | true =>
    rw [hd] at hl
    clear hd
    cases vb with
    | false =>
      unfold mcl at *
      go_enter Tryd.func12, Tryd.ntmps12
      go_wp2_with (first
        | (go_at_call 25; refine (hl _ _ (by simp) _).mono ?_; rintro e w1 ⟨rfl, hb1⟩; have hm1 := hm0.below hb1; have B1 := B0.trans (hb1.mono B0.size); clear hb1; clear c0 c1 c2 c3 c4 c5 c6 c7 c8 c9 cf; obtain ⟨⟨c0, c1, c2, c3, c4, c5, c6, c7, c8, c9⟩, cf⟩ := hm1.cells)
        | (go_at_call 28; refine (hv _).mono ?_; rintro e w2 ⟨rfl, rfl⟩; have hm2 := hm1; have B2 := B1; clear c0 c1 c2 c3 c4 c5 c6 c7 c8 c9 cf; have hx0 := hm2.set 1 (.int .i64 0) rfl; have hx1 := hx0.set 2 (.int .i64 0) rfl; have hx2 := hx1.set 8 (.int .i64 0) rfl; have hx3 := hx2.set 5 (.bool false) rfl; obtain ⟨⟨c0, c1, c2, c3, c4, c5, c6, c7, c8, c9⟩, cg⟩ := hx3.cells; obtain ⟨_, cf⟩ := hm2.cells))
      go_ret
      exact ⟨by simp, ((((B2.setCell (p := ⟨w.heap.size, 1, none⟩) (Nat.le_refl _) (.int .i64 0)).setCell (p := ⟨w.heap.size, 2, none⟩) (Nat.le_refl _) (.int .i64 0)).setCell (p := ⟨w.heap.size, 8, none⟩) (Nat.le_refl _) (.int .i64 0)).setCell (p := ⟨w.heap.size, 5, none⟩) (Nat.le_refl _) (.bool false))⟩
    | true =>
      unfold mcl at *
      go_enter Tryd.func12, Tryd.ntmps12
      go_wp2_with (first
        | (go_at_call 25; refine (hl _ _ (by simp) _).mono ?_; rintro e w1 ⟨rfl, hb1⟩; have hm1 := hm0.below hb1; have B1 := B0.trans (hb1.mono B0.size); clear hb1; clear c0 c1 c2 c3 c4 c5 c6 c7 c8 c9 cf; obtain ⟨⟨c0, c1, c2, c3, c4, c5, c6, c7, c8, c9⟩, cf⟩ := hm1.cells)
        | (go_at_call 28; refine (hv _).mono ?_; rintro e w2 ⟨rfl, rfl⟩; have hm2 := hm1; have B2 := B1; clear c0 c1 c2 c3 c4 c5 c6 c7 c8 c9 cf; have hx0 := hm2.set 1 (.int .i64 0) rfl; have hx1 := hx0.set 2 (.int .i64 0) rfl; have hx2 := hx1.set 8 (.int .i64 0) rfl; have hx3 := hx2.set 5 (.bool false) rfl; obtain ⟨⟨c0, c1, c2, c3, c4, c5, c6, c7, c8, c9⟩, cg⟩ := hx3.cells; obtain ⟨_, cf⟩ := hm2.cells)
        | (go_at_call 30; refine (bare_any _ _ _ _ _ _ _ _ _ _ _ _ _).mono ?_; rintro e wb ⟨rfl, hbb⟩))
      go_ret
      have BB := ((((B2.setCell (p := ⟨w.heap.size, 1, none⟩) (Nat.le_refl _) (.int .i64 0)).setCell (p := ⟨w.heap.size, 2, none⟩) (Nat.le_refl _) (.int .i64 0)).setCell (p := ⟨w.heap.size, 8, none⟩) (Nat.le_refl _) (.int .i64 0)).setCell (p := ⟨w.heap.size, 5, none⟩) (Nat.le_refl _) (.bool false))
      exact ⟨by simp, BB.trans (hbb.mono BB.size)⟩
set_option maxRecDepth 20000 in
set_option maxHeartbeats 4000000 in
theorem right_1 (w : World) (r s t m : Int) (f : Bool) (a : Option Addr) (pl c : Nat) (n : ByteArray) (v l : Int) (ok : Bool) (hp : ∀ W, Below w.heap.size w W → Calls Tryd.prog 56 #[.slice a pl c] W (PrPost ok W)) : Calls Tryd.prog 12 #[.agg (mcl 1 r s t m f (.slice a pl c) n v l)] w fun e w' => e = .returned (.bool ((tmD r && tmD s && tickB t m && ok) && bareB 0 0 0 0 false 0 n v l)) ∧ Below w.heap.size w w' := by
  have hm0 := mbox_new w 1 r s t m f (.slice a pl c) n v l
  have B0 := below_alloc w (.cells (mcl 1 r s t m f (.slice a pl c) n v l) 28)
  obtain ⟨⟨c0, c1, c2, c3, c4, c5, c6, c7, c8, c9⟩, cf⟩ := hm0.cells
  have hr := fun (W : World) (hW : Below w.heap.size w W) => rparams_any W _ ok (hp W hW)
  clear hp
  have hl := fun (W : World) (g : Nat) (hg : g = W.heap.size) (T : Nat) => litg2 hg r s T
  have hk := fun (W : World) => ticket_any W 1 r s t m f (.slice a pl c) n v l
  cases hd : (tmD r && tmD s) with
  | false =>
    rw [hd] at hl
    clear hd hk hr
    unfold mcl at *
    go_enter Tryd.func12, Tryd.ntmps12
    go_wp2_with (go_at_call 25; refine (hl _ _ (by simp) _).mono ?_; rintro e w1 ⟨rfl, hb1⟩; have hm1 := hm0.below hb1; have B1 := B0.trans (hb1.mono B0.size); clear hb1; clear c0 c1 c2 c3 c4 c5 c6 c7 c8 c9 cf; have hx0 := hm1.set 1 (.int .i64 0) rfl; have hx1 := hx0.set 2 (.int .i64 0) rfl; have hx2 := hx1.set 5 (.bool false) rfl; have hx3 := hx2.set 3 (.int .i64 0) rfl; have hx4 := hx3.set 6 (.slice none 0 0) rfl; have hx5 := hx4.set 4 (.int .i64 0) rfl; obtain ⟨⟨c0, c1, c2, c3, c4, c5, c6, c7, c8, c9⟩, cg⟩ := hx5.cells; obtain ⟨_, cf⟩ := hm1.cells)
    go_ret
    exact ⟨by simp, ((((((B1.setCell (p := ⟨w.heap.size, 1, none⟩) (Nat.le_refl _) (.int .i64 0)).setCell (p := ⟨w.heap.size, 2, none⟩) (Nat.le_refl _) (.int .i64 0)).setCell (p := ⟨w.heap.size, 5, none⟩) (Nat.le_refl _) (.bool false)).setCell (p := ⟨w.heap.size, 3, none⟩) (Nat.le_refl _) (.int .i64 0)).setCell (p := ⟨w.heap.size, 6, none⟩) (Nat.le_refl _) (.slice none 0 0)).setCell (p := ⟨w.heap.size, 4, none⟩) (Nat.le_refl _) (.int .i64 0))⟩
  | true =>
    rw [hd] at hl
    clear hd
    cases hd : tickB t m with
    | false =>
      rw [hd] at hk
      clear hd hr
      unfold mcl at *
      go_enter Tryd.func12, Tryd.ntmps12
      go_wp2_with (first
        | (go_at_call 25; refine (hl _ _ (by simp) _).mono ?_; rintro e w1 ⟨rfl, hb1⟩; have hm1 := hm0.below hb1; have B1 := B0.trans (hb1.mono B0.size); clear hb1; clear c0 c1 c2 c3 c4 c5 c6 c7 c8 c9 cf; obtain ⟨⟨c0, c1, c2, c3, c4, c5, c6, c7, c8, c9⟩, cf⟩ := hm1.cells)
        | (go_at_call 26; refine (hk _).mono ?_; rintro e w2 ⟨rfl, hb2⟩; have hm2 := hm1.below hb2; have B2 := B1.trans (hb2.mono B1.size); clear hb2; clear c0 c1 c2 c3 c4 c5 c6 c7 c8 c9 cf; have hx0 := hm2.set 1 (.int .i64 0) rfl; have hx1 := hx0.set 2 (.int .i64 0) rfl; have hx2 := hx1.set 5 (.bool false) rfl; have hx3 := hx2.set 3 (.int .i64 0) rfl; have hx4 := hx3.set 6 (.slice none 0 0) rfl; have hx5 := hx4.set 4 (.int .i64 0) rfl; obtain ⟨⟨c0, c1, c2, c3, c4, c5, c6, c7, c8, c9⟩, cg⟩ := hx5.cells; obtain ⟨_, cf⟩ := hm2.cells))
      go_ret
      exact ⟨by simp, ((((((B2.setCell (p := ⟨w.heap.size, 1, none⟩) (Nat.le_refl _) (.int .i64 0)).setCell (p := ⟨w.heap.size, 2, none⟩) (Nat.le_refl _) (.int .i64 0)).setCell (p := ⟨w.heap.size, 5, none⟩) (Nat.le_refl _) (.bool false)).setCell (p := ⟨w.heap.size, 3, none⟩) (Nat.le_refl _) (.int .i64 0)).setCell (p := ⟨w.heap.size, 6, none⟩) (Nat.le_refl _) (.slice none 0 0)).setCell (p := ⟨w.heap.size, 4, none⟩) (Nat.le_refl _) (.int .i64 0))⟩
    | true =>
      rw [hd] at hk
      clear hd
      cases ok with
      | false =>
        unfold mcl at *
        go_enter Tryd.func12, Tryd.ntmps12
        go_wp2_with (first
          | (go_at_call 25; refine (hl _ _ (by simp) _).mono ?_; rintro e w1 ⟨rfl, hb1⟩; have hm1 := hm0.below hb1; have B1 := B0.trans (hb1.mono B0.size); clear hb1; clear c0 c1 c2 c3 c4 c5 c6 c7 c8 c9 cf; obtain ⟨⟨c0, c1, c2, c3, c4, c5, c6, c7, c8, c9⟩, cf⟩ := hm1.cells)
          | (go_at_call 26; refine (hk _).mono ?_; rintro e w2 ⟨rfl, hb2⟩; have hm2 := hm1.below hb2; have B2 := B1.trans (hb2.mono B1.size); clear hb2; clear c0 c1 c2 c3 c4 c5 c6 c7 c8 c9 cf; obtain ⟨⟨c0, c1, c2, c3, c4, c5, c6, c7, c8, c9⟩, cf⟩ := hm2.cells)
          | (go_at_call 27; refine (hr _ B2).mono ?_; rintro e w3 ⟨rfl, hb3⟩; have hm3 := hm2.below hb3; have B3 := B2.trans (hb3.mono B2.size); clear hb3; clear c0 c1 c2 c3 c4 c5 c6 c7 c8 c9 cf; have hx0 := hm3.set 1 (.int .i64 0) rfl; have hx1 := hx0.set 2 (.int .i64 0) rfl; have hx2 := hx1.set 5 (.bool false) rfl; have hx3 := hx2.set 3 (.int .i64 0) rfl; have hx4 := hx3.set 6 (.slice none 0 0) rfl; have hx5 := hx4.set 4 (.int .i64 0) rfl; obtain ⟨⟨c0, c1, c2, c3, c4, c5, c6, c7, c8, c9⟩, cg⟩ := hx5.cells; obtain ⟨_, cf⟩ := hm3.cells))
        go_ret
        exact ⟨by simp, ((((((B3.setCell (p := ⟨w.heap.size, 1, none⟩) (Nat.le_refl _) (.int .i64 0)).setCell (p := ⟨w.heap.size, 2, none⟩) (Nat.le_refl _) (.int .i64 0)).setCell (p := ⟨w.heap.size, 5, none⟩) (Nat.le_refl _) (.bool false)).setCell (p := ⟨w.heap.size, 3, none⟩) (Nat.le_refl _) (.int .i64 0)).setCell (p := ⟨w.heap.size, 6, none⟩) (Nat.le_refl _) (.slice none 0 0)).setCell (p := ⟨w.heap.size, 4, none⟩) (Nat.le_refl _) (.int .i64 0))⟩
      | true =>
        unfold mcl at *
        go_enter Tryd.func12, Tryd.ntmps12
        go_wp2_with (first
          | (go_at_call 25; refine (hl _ _ (by simp) _).mono ?_; rintro e w1 ⟨rfl, hb1⟩; have hm1 := hm0.below hb1; have B1 := B0.trans (hb1.mono B0.size); clear hb1; clear c0 c1 c2 c3 c4 c5 c6 c7 c8 c9 cf; obtain ⟨⟨c0, c1, c2, c3, c4, c5, c6, c7, c8, c9⟩, cf⟩ := hm1.cells)
          | (go_at_call 26; refine (hk _).mono ?_; rintro e w2 ⟨rfl, hb2⟩; have hm2 := hm1.below hb2; have B2 := B1.trans (hb2.mono B1.size); clear hb2; clear c0 c1 c2 c3 c4 c5 c6 c7 c8 c9 cf; obtain ⟨⟨c0, c1, c2, c3, c4, c5, c6, c7, c8, c9⟩, cf⟩ := hm2.cells)
          | (go_at_call 27; refine (hr _ B2).mono ?_; rintro e w3 ⟨rfl, hb3⟩; have hm3 := hm2.below hb3; have B3 := B2.trans (hb3.mono B2.size); clear hb3; clear c0 c1 c2 c3 c4 c5 c6 c7 c8 c9 cf; have hx0 := hm3.set 1 (.int .i64 0) rfl; have hx1 := hx0.set 2 (.int .i64 0) rfl; have hx2 := hx1.set 5 (.bool false) rfl; have hx3 := hx2.set 3 (.int .i64 0) rfl; have hx4 := hx3.set 6 (.slice none 0 0) rfl; have hx5 := hx4.set 4 (.int .i64 0) rfl; obtain ⟨⟨c0, c1, c2, c3, c4, c5, c6, c7, c8, c9⟩, cg⟩ := hx5.cells; obtain ⟨_, cf⟩ := hm3.cells)
          | (go_at_call 30; refine (bare_any _ _ _ _ _ _ _ _ _ _ _ _ _).mono ?_; rintro e wb ⟨rfl, hbb⟩))
        go_ret
        have BB := ((((((B3.setCell (p := ⟨w.heap.size, 1, none⟩) (Nat.le_refl _) (.int .i64 0)).setCell (p := ⟨w.heap.size, 2, none⟩) (Nat.le_refl _) (.int .i64 0)).setCell (p := ⟨w.heap.size, 5, none⟩) (Nat.le_refl _) (.bool false)).setCell (p := ⟨w.heap.size, 3, none⟩) (Nat.le_refl _) (.int .i64 0)).setCell (p := ⟨w.heap.size, 6, none⟩) (Nat.le_refl _) (.slice none 0 0)).setCell (p := ⟨w.heap.size, 4, none⟩) (Nat.le_refl _) (.int .i64 0))
        exact ⟨by simp, BB.trans (hbb.mono BB.size)⟩
set_option maxRecDepth 20000 in
set_option maxHeartbeats 4000000 in
theorem right_11 (w : World) (r s t m : Int) (f : Bool) (a : Option Addr) (pl c : Nat) (n : ByteArray) (v l : Int) : Calls Tryd.prog 12 #[.agg (mcl 11 r s t m f (.slice a pl c) n v l)] w fun e w' => e = .returned (.bool ((decide (1 ≤ n.size) && decide (n.size ≤ 50)) && bareB r s t m f pl ⟨#[]⟩ v l)) ∧ Below w.heap.size w w' := by
  have hm0 := mbox_new w 11 r s t m f (.slice a pl c) n v l
  have B0 := below_alloc w (.cells (mcl 11 r s t m f (.slice a pl c) n v l) 28)
  obtain ⟨⟨c0, c1, c2, c3, c4, c5, c6, c7, c8, c9⟩, cf⟩ := hm0.cells
  have hx := hm0.set 7 (.string ⟨#[]⟩) rfl
  obtain ⟨⟨d0, d1, d2, d3, d4, d5, d6, d7, d8, d9⟩, df⟩ := hx.cells
  by_cases h1 : 1 ≤ n.size
  case neg =>
    have e1 : decide (1 ≤ n.size) = false := decide_eq_false h1
    have e2 : decide (1 ≤ (n.size : Int)) = false := decide_eq_false (by omega)
    have HD := Lib.hid e1
    unfold mcl at *
    go_enter Tryd.func12, Tryd.ntmps12
    go_wp2_with fail
    go_ret
    exact ⟨by rw [HD.out]; simp, (below_alloc w (.cells (mcl 11 r s t m f (.slice a pl c) ⟨#[]⟩ v l) 28))⟩
  have e2 : decide (1 ≤ (n.size : Int)) = true := decide_eq_true (by omega)
  have HD1 : Hid (decide (1 ≤ n.size) = true) := Lib.hid (decide_eq_true h1)
  by_cases h5 : n.size ≤ 50
  case neg =>
    have e3 : decide ((n.size : Int) ≤ 50) = false := decide_eq_false (by omega)
    have HD : Hid (decide (n.size ≤ 50) = false) := Lib.hid (decide_eq_false h5)
    clear h1 h5
    unfold mcl at *
    go_enter Tryd.func12, Tryd.ntmps12
    go_wp2_with fail
    go_ret
    exact ⟨by rw [HD.out]; simp, (below_alloc w (.cells (mcl 11 r s t m f (.slice a pl c) ⟨#[]⟩ v l) 28))⟩
  have e3 : decide ((n.size : Int) ≤ 50) = true := decide_eq_true (by omega)
  have HD : Hid (decide (n.size ≤ 50) = true) := Lib.hid (decide_eq_true h5)
  clear h1 h5
  unfold mcl at *
  go_enter Tryd.func12, Tryd.ntmps12
  go_wp2_with (go_at_call 30; refine (bare_any _ _ _ _ _ _ _ _ _ _ _ _ _).mono ?_; rintro e wb ⟨rfl, hbb⟩)
  go_ret
  have BB := (below_alloc w (.cells (mcl 11 r s t m f (.slice a pl c) ⟨#[]⟩ v l) 28))
  exact ⟨by rw [HD.out, HD1.out]; simp, BB.trans (hbb.mono BB.size)⟩
set_option maxRecDepth 20000 in
set_option maxHeartbeats 4000000 in
theorem right_no (w : World) (k r s t m : Int) (f : Bool) (a : Option Addr) (pl c : Nat) (n : ByteArray) (v l : Int) (h1 : ¬ k = 1) (h2 : ¬ k = 2) (h4 : ¬ k = 4) (h8 : ¬ k = 8) (h11 : ¬ k = 11) (h15 : ¬ k = 15) (h20 : ¬ k = 20) : Calls Tryd.prog 12 #[.agg (mcl k r s t m f (.slice a pl c) n v l)] w fun e w' => e = .returned (.bool false) ∧ Below w.heap.size w w' := by
  have B0 := below_alloc w (.cells (mcl k r s t m f (.slice a pl c) n v l) 28)
  have k1 : (k == 1) = false := by simp [h1]
  have k2 : (k == 2) = false := by simp [h2]
  have k4 : (k == 4) = false := by simp [h4]
  have k8 : (k == 8) = false := by simp [h8]
  have k11 : (k == 11) = false := by simp [h11]
  have k15 : (k == 15) = false := by simp [h15]
  have k20 : (k == 20) = false := by simp [h20]
  unfold mcl at *
  go_enter Tryd.func12, Tryd.ntmps12
  go_wp2_with fail
  go_ret
  exact ⟨rfl, B0⟩
end Go.Proofs.YtefcjggmlhoebaaDoor
