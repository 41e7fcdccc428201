/- law 14: a document's message as the program's. -/
import Derived.Test.YtefcjggmlhoebaaDoorHW3
namespace Go.Proofs.YtefcjggmlhoebaaDoor
open Go Go.RowKit

/-- A document's message in its box. -/
def RBox (w : World) (H : Nat) (k r s t m : Int) (f : Bool) (vp : Value) (n : ByteArray) (v l : Int) : Prop := w.heap[H]? = some (.cells (mcl k r s t m f vp n v l) 24 (0, 0))
theorem RBox.cells {w : World} {H : Nat} {k r s t m : Int} {f : Bool} {vp : Value} {n : ByteArray} {v l : Int} (h : RBox w H k r s t m f vp n v l) :
    (w.cell? ⟨H, 0, none⟩ = some (.int .i64 k) ∧ w.cell? ⟨H, 1, none⟩ = some (.int .i64 r) ∧ w.cell? ⟨H, 2, none⟩ = some (.int .i64 s) ∧ w.cell? ⟨H, 3, none⟩ = some (.int .i64 t) ∧ w.cell? ⟨H, 4, none⟩ = some (.int .i64 m) ∧ w.cell? ⟨H, 5, none⟩ = some (.bool f) ∧ w.cell? ⟨H, 6, none⟩ = some vp ∧ w.cell? ⟨H, 7, none⟩ = some (.string n) ∧ w.cell? ⟨H, 8, none⟩ = some (.int .i64 v) ∧ w.cell? ⟨H, 9, none⟩ = some (.int .i64 l)) ∧ (∀ j, w.frozen? ⟨H, j, none⟩ = false) :=
  have c := fun j => cell_of_row w H j _ _ (0, 0) h
  ⟨⟨(c 0).trans rfl, (c 1).trans rfl, (c 2).trans rfl, (c 3).trans rfl, (c 4).trans rfl, (c 5).trans rfl, (c 6).trans rfl, (c 7).trans rfl, (c 8).trans rfl, (c 9).trans rfl⟩, fun j => by simp [World.frozen?, show w.heap[H]? = _ from h]⟩
theorem RBox.keep {w w' : World} {H : Nat} {k r s t m : Int} {f : Bool} {vp : Value} {n : ByteArray} {v l : Int} (h : RBox w H k r s t m f vp n v l) (e : w'.heap[H]? = w.heap[H]?) : RBox w' H k r s t m f vp n v l := by unfold RBox; rw [e]; exact h
theorem RBox.lt {w : World} {H : Nat} {k r s t m : Int} {f : Bool} {vp : Value} {n : ByteArray} {v l : Int} (h : RBox w H k r s t m f vp n v l) : H < w.heap.size := (Array.getElem?_eq_some_iff.1 h).1
theorem RBox.below {w w' : World} {H : Nat} {k r s t m : Int} {f : Bool} {vp : Value} {n : ByteArray} {v l : Int} (h : RBox w H k r s t m f vp n v l) (hb : Below w.heap.size w w') : RBox w' H k r s t m f vp n v l := h.keep (hb.block H h.lt)
theorem RBox.drew {w : World} {H : Nat} {k r s t m : Int} {f : Bool} {vp : Value} {n : ByteArray} {v l : Int} (h : RBox w H k r s t m f vp n v l) : RBox w.drew H k r s t m f vp n v l := h
theorem RBox.set {w : World} {H : Nat} {k r s t m : Int} {f : Bool} {vp : Value} {n : ByteArray} {v l : Int} (h : RBox w H k r s t m f vp n v l) (i : Nat) (u : Value) {k' r' s' t' m' : Int} {f' : Bool} {vp' : Value} {n' : ByteArray} {v' l' : Int} (hc : (mcl k r s t m f vp n v l).setIfInBounds i u = mcl k' r' s' t' m' f' vp' n' v' l') : RBox (w.setCell ⟨H, i, none⟩ u) H k' r' s' t' m' f' vp' n' v' l' := by
  have e0 := heap_setCell_same w H i _ 24 u h
  rw [hc] at e0
  exact e0
theorem rbox_new (w : World) (k r s t m : Int) (f : Bool) (vp : Value) (n : ByteArray) (v l : Int) : RBox (w.alloc (.cells (mcl k r s t m f vp n v l) 24)) w.heap.size k r s t m f vp n v l := heap_alloc_new w _
set_option maxRecDepth 20000 in
theorem of_results (tmps : Array Value) (w : World) (G : Nat) (c0 c1 c2 c3 c4 c5 c6 c7 c8 c9 : Value) (h2 : tmps[2]?.getD undef = .pointer (some ⟨G, 0, none⟩)) (hL : w.heap[G]? = some (.cells #[c0, c1, c2, c3, c4, c5, c6, c7, c8, c9] 28 (0, 0))) :
    (results Tryd.f9 tmps).run Tryd.prog w = .ok (.agg #[c0, c1, c2, c3, c4, c5, c6, c7, c8, c9]) w := by
  have hcc := fun i => cell_of_row w G i _ 28 (0, 0) hL
  have a0 := hcc 0
  have a1 := hcc 1
  have a2 := hcc 2
  have a3 := hcc 3
  have a4 := hcc 4
  have a5 := hcc 5
  have a6 := hcc 6
  have a7 := hcc 7
  have a8 := hcc 8
  have a9 := hcc 9
  clear hcc
  simp [results, Tryd.results9, h2, asAddr, a0, a1, a2, a3, a4, a5, a6, a7, a8, a9, go_sem]
theorem own_fresh0 (w : World) : (w.alloc (.cells #[] 5)).ownsRow w.heap.size 5 1 (.slice (some ⟨w.heap.size, 0, none⟩) 0 0) 0 (by8 []) := own_lit w [] (by simp)
set_option maxRecDepth 20000 in
set_option maxHeartbeats 4000000 in
theorem hof_any (w : World) (k r s t m : Int) (f : Bool) (a : Option Addr) (p : List Int) (c : Nat) (n : ByteArray) (v l : Int) (hr : Rd w (.slice a p.length c) p) (hl : p.length ≤ 1000000) :
    Calls Tryd.prog 9 #[.agg (mcl k r s t m f (.slice a p.length c) n v l)] w fun e w' => ∃ vp, e = .returned (.agg (mcl k r s t m f vp n v l)) ∧ Rd w' vp p ∧ Plain vp ∧ Below w.heap.size w w' := by
  have hm0 := rbox_new w k r s t m f (.slice a p.length c) n v l
  have B0 := below_alloc w (.cells (mcl k r s t m f (.slice a p.length c) n v l) 24)
  have B1 := below_alloc (w.alloc (.cells (mcl k r s t m f (.slice a p.length c) n v l) 24)) (.cells (mcl 0 0 0 0 0 false (.slice none 0 0) ⟨#[]⟩ 0 0) 28)
  have hm1 := hm0.below B1
  have hn1 := mbox_new (w.alloc (.cells (mcl k r s t m f (.slice a p.length c) n v l) 24)) 0 0 0 0 0 false (.slice none 0 0) ⟨#[]⟩ 0 0
  rw [World.size_alloc] at hn1
  have hbt := hr.byt
  have hr1 := (hr.below B0).below B1
  have HB := Lib.hid (B0.trans (B1.mono B0.size))
  obtain ⟨⟨c0, c1, c2, c3, c4, c5, c6, c7, c8, c9⟩, cf⟩ := hm1.cells
  have HS : Hid (((w.alloc (.cells (mcl k r s t m f (.slice a p.length c) n v l) 24)).alloc (.cells (mcl 0 0 0 0 0 false (.slice none 0 0) ⟨#[]⟩ 0 0) 28)).heap.size = w.heap.size + 2) := Lib.hid (by simp)
  clear hm0 B0 B1 hr
  unfold mcl at *
  go_enter Tryd.func9, Tryd.ntmps9
  go_wp2_with fail
  generalize (w.alloc (.cells #[.int .i64 k, .int .i64 r, .int .i64 s, .int .i64 t, .int .i64 m, .bool f, .slice a p.length c, .string n, .int .i64 v, .int .i64 l] 24)).alloc (.cells #[.int .i64 0, .int .i64 0, .int .i64 0, .int .i64 0, .int .i64 0, .bool false, .slice none 0 0, .string ⟨#[]⟩, .int .i64 0, .int .i64 0] 28) = W at *
  have hS := hm1.drew.cells.1
  have hy := below_alloc W (.cells #[] 5)
  have hm2 := (hm1.below hy).drew
  have hn2 := (hn1.below hy).drew
  have hS2 := hm2.cells.1
  have hO : (W.alloc (.cells #[] 5)).drew.ownsRow W.heap.size 5 1 (.slice (some ⟨W.heap.size, 0, none⟩) 0 0) 0 (by8 []) := own_fresh0 W
  have hr2 := (hr1.below hy).drew
  go_region_held3 (fun w' => (w'.cell? ⟨w.heap.size, 0, none⟩ = some (.int .i64 k) ∧ w'.cell? ⟨w.heap.size, 1, none⟩ = some (.int .i64 r) ∧ w'.cell? ⟨w.heap.size, 2, none⟩ = some (.int .i64 s) ∧ w'.cell? ⟨w.heap.size, 3, none⟩ = some (.int .i64 t) ∧ w'.cell? ⟨w.heap.size, 4, none⟩ = some (.int .i64 m) ∧ w'.cell? ⟨w.heap.size, 5, none⟩ = some (.bool f) ∧ w'.cell? ⟨w.heap.size, 6, none⟩ = some (.slice a p.length c) ∧ w'.cell? ⟨w.heap.size, 7, none⟩ = some (.string n) ∧ w'.cell? ⟨w.heap.size, 8, none⟩ = some (.int .i64 v) ∧ w'.cell? ⟨w.heap.size, 9, none⟩ = some (.int .i64 l)))
    (first | with_reducible exact hS | with_reducible exact hS2 | with_reducible exact hS3 | with_reducible exact hS4)
    ((refine step_append_bytes (by rfl) _ _ (by rfl) W.heap.size _ _ [] (by rfl) hO _ p (by rfl) hr2 ?_ hy.size ?_; (simp only [Nat.zero_add]; omega); intro v3 w3 hown3 hb3; have hm3 := hm2.keep (hb3.block _ (by have := HS.out; omega)); have hS3 := hm3.cells.1; have hn3 := hn2.keep (hb3.block _ (by have := HS.out; omega)); obtain ⟨⟨n0, n1, n2, n3, n4, n5, n6, n7, n8, n9⟩, nf⟩ := hn3.cells; obtain ⟨a3, k3, rfl⟩ := own_shapeH hown3; obtain ⟨hG, hBt⟩ := chain10h (.int .i64 k) (.int .i64 r) (.int .i64 s) (.int .i64 t) (.int .i64 m) (.bool f) (.slice a3 p.length k3) (.string n) (.int .i64 v) (.int .i64 l) hn3; have hS4 := (hm3.keep (hBt.block _ hm3.lt (by omega))).cells.1))
  have hra := (Rd.of_own hown3 (by rw [List.nil_append]; exact hbt)).1
  rw [List.nil_append] at hra
  have hra3 : Ra W.heap.size w3 (.slice a3 p.length k3) p := by
    have := ra_own (zs := p) (by simpa using hown3) hbt
    simpa using this.1
  have hpl : Plain (.slice a3 p.length k3) := by
    have := ra_own (zs := p) (by simpa using hown3) hbt
    simpa using this.2
  have hfin := (hra3.keep fun j hj hlo => hBt.block j hj (by have := HS.out; omega)).rd
  refine ‹∀ (a : Act) (w : World), Code.wp Tryd.prog Code.ret _ a w → _› _ _ ?_
  refine wp_ret ?_
  try simp only [Exit.then]
  refine bodyPost_ret (of_results _ _ (w.heap.size + 1) _ _ _ _ _ _ _ _ _ _ rfl hG) rfl ⟨_, rfl, hfin, hpl, ?_⟩
  have hb3' : Below W.heap.size W w3 := (hy.drew).trans hb3
  have hb := HB.out.trans (hb3'.mono (by have := HS.out; omega))
  exact ⟨hBt.os.trans hb.os, hBt.tape.trans hb.tape, hBt.output.trans hb.output, Nat.le_trans hb.size hBt.size, fun j hj => (hBt.block j (Nat.lt_of_lt_of_le hj hb.size) (by omega)).trans (hb.block j hj)⟩
#print axioms hof_any
end Go.Proofs.YtefcjggmlhoebaaDoor
