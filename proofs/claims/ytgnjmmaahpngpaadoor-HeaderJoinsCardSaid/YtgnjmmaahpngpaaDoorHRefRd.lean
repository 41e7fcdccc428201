/- The document's own Read of a header tells what refP says. -/
import Derived.Test.YtgnjmmaahpngpaaDoorHIn5
import Derived.Test.YtgnjmmaahpngpaaDoorHv
import Derived.BigRegion
import Derived.Deep.RegionHeld3
namespace Go.Proofs.YtgnjmmaahpngpaaDoor
open Go Go.RowKit

/-- A header of the document's in the box G; its rows read in the world where the bytes came in. -/
structure Hq (w0 w : World) (G : Nat) (h : Hv) : Prop where
  lo : w0.heap.size ≤ G
  box : ∃ vt vf vk, w.heap[G]? = some (.cells #[.int .i64 h.k, .int .i64 h.v, vt, vf, vk, .int .i64 h.p, .int .i64 h.n, .int .i64 h.w] 24 (0, 0)) ∧ Rd w0 vt h.to ∧ Rd w0 vf h.fr ∧ Rd w0 vk h.tk
theorem Hq.lt {w0 w : World} {G : Nat} {h : Hv} (x : Hq w0 w G h) : G < w.heap.size := by
  obtain ⟨_, _, _, hb, _⟩ := x.box
  exact (Array.getElem?_eq_some_iff.1 hb).1
theorem Hq.but {w0 w w' : World} {G I : Nat} {h : Hv} (x : Hq w0 w G h) (hb : But I w w') (hne : G ≠ I) : Hq w0 w' G h := by
  obtain ⟨vt, vf, vk, hx, r⟩ := x.box
  exact ⟨x.lo, vt, vf, vk, by rw [hb.block G x.lt hne]; exact hx, r⟩
theorem Hq.alloc {w0 w : World} {G : Nat} {h : Hv} (x : Hq w0 w G h) (o : Obj) : Hq w0 (w.alloc o) G h := x.but (I := w.heap.size) (But.of_below (below_alloc w o)) (Nat.ne_of_lt x.lt)
theorem Hq.drewN {w0 w : World} {G : Nat} {h : Hv} (x : Hq w0 w G h) (n : Nat) : Hq w0 (w.drewN n) G h := ⟨x.lo, x.box⟩
theorem Hq.cells {w0 w : World} {G : Nat} {h : Hv} (x : Hq w0 w G h) : ∃ a1 n1 c1 a2 n2 c2 a3 n3 c3, (Rd w0 (.slice a1 n1 c1) h.to ∧ Rd w0 (.slice a2 n2 c2) h.fr ∧ Rd w0 (.slice a3 n3 c3) h.tk) ∧ w.cell? ⟨G, 0, none⟩ = some (.int .i64 h.k) ∧ w.cell? ⟨G, 1, none⟩ = some (.int .i64 h.v) ∧ w.cell? ⟨G, 2, none⟩ = some (.slice a1 n1 c1) ∧ w.cell? ⟨G, 3, none⟩ = some (.slice a2 n2 c2) ∧ w.cell? ⟨G, 4, none⟩ = some (.slice a3 n3 c3) ∧ w.cell? ⟨G, 5, none⟩ = some (.int .i64 h.p) ∧ w.cell? ⟨G, 6, none⟩ = some (.int .i64 h.n) ∧ w.cell? ⟨G, 7, none⟩ = some (.int .i64 h.w) ∧ ∀ j, w.frozen? ⟨G, j, none⟩ = false := by
  obtain ⟨vt, vf, vk, hb, r1, r2, r3⟩ := x.box
  obtain ⟨a1, n1, c1, rfl⟩ : ∃ ao n cap, vt = .slice ao n cap := by obtain ⟨ao, cap, hv, _⟩ := r1; exact ⟨ao, _, cap, hv⟩
  obtain ⟨a2, n2, c2, rfl⟩ : ∃ ao n cap, vf = .slice ao n cap := by obtain ⟨ao, cap, hv, _⟩ := r2; exact ⟨ao, _, cap, hv⟩
  obtain ⟨a3, n3, c3, rfl⟩ : ∃ ao n cap, vk = .slice ao n cap := by obtain ⟨ao, cap, hv, _⟩ := r3; exact ⟨ao, _, cap, hv⟩
  have hc := fun k => cell_of_row w G k _ 24 (0, 0) hb
  exact ⟨a1, n1, c1, a2, n2, c2, a3, n3, c3, ⟨r1, r2, r3⟩, hc 0, hc 1, hc 2, hc 3, hc 4, hc 5, hc 6, hc 7, fun j => by simp [World.frozen?, hb]⟩
theorem Hq.setk {w0 w : World} {G : Nat} {h : Hv} (y : Hq w0 w G h) (x : Int) : Hq w0 (w.setCell ⟨G, 0, none⟩ (.int .i64 x)) G { h with k := x } := by
  obtain ⟨vt, vf, vk, hbx, r⟩ := y.box
  have e0 := heap_setCell_same _ _ 0 _ _ (.int .i64 x) hbx
  simp only [List.setIfInBounds_toArray, List.set_cons_zero] at e0
  exact ⟨y.lo, vt, vf, vk, e0, r⟩
theorem Hq.setv {w0 w : World} {G : Nat} {h : Hv} (y : Hq w0 w G h) (x : Int) : Hq w0 (w.setCell ⟨G, 1, none⟩ (.int .i64 x)) G { h with v := x } := by
  obtain ⟨vt, vf, vk, hbx, r⟩ := y.box
  have e0 := heap_setCell_same _ _ 1 _ _ (.int .i64 x) hbx
  simp only [List.setIfInBounds_toArray, List.set_cons_zero, List.set_cons_succ] at e0
  exact ⟨y.lo, vt, vf, vk, e0, r⟩
theorem Hq.setp {w0 w : World} {G : Nat} {h : Hv} (y : Hq w0 w G h) (x : Int) : Hq w0 (w.setCell ⟨G, 5, none⟩ (.int .i64 x)) G { h with p := x } := by
  obtain ⟨vt, vf, vk, hbx, r⟩ := y.box
  have e0 := heap_setCell_same _ _ 5 _ _ (.int .i64 x) hbx
  simp only [List.setIfInBounds_toArray, List.set_cons_zero, List.set_cons_succ] at e0
  exact ⟨y.lo, vt, vf, vk, e0, r⟩
theorem Hq.setn {w0 w : World} {G : Nat} {h : Hv} (y : Hq w0 w G h) (x : Int) : Hq w0 (w.setCell ⟨G, 6, none⟩ (.int .i64 x)) G { h with n := x } := by
  obtain ⟨vt, vf, vk, hbx, r⟩ := y.box
  have e0 := heap_setCell_same _ _ 6 _ _ (.int .i64 x) hbx
  simp only [List.setIfInBounds_toArray, List.set_cons_zero, List.set_cons_succ] at e0
  exact ⟨y.lo, vt, vf, vk, e0, r⟩
theorem Hq.setto {w0 w : World} {G : Nat} {h : Hv} (y : Hq w0 w G h) {x : Value} {l : List Int} (hx : Rd w0 x l) : Hq w0 (w.setCell ⟨G, 2, none⟩ x) G { h with to := l } := by
  obtain ⟨vt, vf, vk, hbx, r⟩ := y.box
  have e0 := heap_setCell_same _ _ 2 _ _ x hbx
  simp only [List.setIfInBounds_toArray, List.set_cons_zero, List.set_cons_succ] at e0
  exact ⟨y.lo, x, vf, vk, e0, hx, r.2.1, r.2.2⟩
theorem Hq.setfr {w0 w : World} {G : Nat} {h : Hv} (y : Hq w0 w G h) {x : Value} {l : List Int} (hx : Rd w0 x l) : Hq w0 (w.setCell ⟨G, 3, none⟩ x) G { h with fr := l } := by
  obtain ⟨vt, vf, vk, hbx, r⟩ := y.box
  have e0 := heap_setCell_same _ _ 3 _ _ x hbx
  simp only [List.setIfInBounds_toArray, List.set_cons_zero, List.set_cons_succ] at e0
  exact ⟨y.lo, vt, x, vk, e0, r.1, hx, r.2.2⟩
theorem Hq.settk {w0 w : World} {G : Nat} {h : Hv} (y : Hq w0 w G h) {x : Value} {l : List Int} (hx : Rd w0 x l) : Hq w0 (w.setCell ⟨G, 4, none⟩ x) G { h with tk := l } := by
  obtain ⟨vt, vf, vk, hbx, r⟩ := y.box
  have e0 := heap_setCell_same _ _ 4 _ _ x hbx
  simp only [List.setIfInBounds_toArray, List.set_cons_zero, List.set_cons_succ] at e0
  exact ⟨y.lo, vt, vf, x, e0, r.1, r.2.1, hx⟩
theorem hq_new {w0 w : World} (hb : w0.heap.size ≤ w.heap.size) (x : Int) : Hq w0 (w.alloc (.cells #[.int .i64 0, .int .i64 0, .slice none 0 0, .slice none 0 0, .slice none 0 0, .int .i64 0, .int .i64 0, .int .i64 x] 24)) w.heap.size ⟨0, 0, [], [], [], 0, 0, x⟩ :=
  ⟨hb, _, _, _, heap_alloc_new _ _, Rd.nil _, Rd.nil _, Rd.nil _⟩
theorem chain8_row {w : World} {G : Nat} {T : TypeId} {z0 z1 z2 z3 z4 z5 z6 z7 : Value} (h3 : w.heap[G]? = some (.cells #[z0, z1, z2, z3, z4, z5, z6, z7] T (0, 0))) (c0 c1 c2 c3 c4 c5 c6 c7 : Value) : ((((((((w.setCell ⟨G, 0, none⟩ c0).setCell ⟨G, 1, none⟩ c1).setCell ⟨G, 2, none⟩ c2).setCell ⟨G, 3, none⟩ c3).setCell ⟨G, 4, none⟩ c4).setCell ⟨G, 5, none⟩ c5).setCell ⟨G, 6, none⟩ c6).setCell ⟨G, 7, none⟩ c7).heap[G]? = some (.cells #[c0, c1, c2, c3, c4, c5, c6, c7] T (0, 0)) := by
  have e0 := heap_setCell_same w G 0 _ T c0 h3
  simp only [List.setIfInBounds_toArray, List.set_cons_zero] at e0
  have e1 := heap_setCell_same _ G 1 _ T c1 e0
  simp only [List.setIfInBounds_toArray, List.set_cons_zero, List.set_cons_succ] at e1
  have e2 := heap_setCell_same _ G 2 _ T c2 e1
  simp only [List.setIfInBounds_toArray, List.set_cons_zero, List.set_cons_succ] at e2
  have e3 := heap_setCell_same _ G 3 _ T c3 e2
  simp only [List.setIfInBounds_toArray, List.set_cons_zero, List.set_cons_succ] at e3
  have e4 := heap_setCell_same _ G 4 _ T c4 e3
  simp only [List.setIfInBounds_toArray, List.set_cons_zero, List.set_cons_succ] at e4
  have e5 := heap_setCell_same _ G 5 _ T c5 e4
  simp only [List.setIfInBounds_toArray, List.set_cons_zero, List.set_cons_succ] at e5
  have e6 := heap_setCell_same _ G 6 _ T c6 e5
  simp only [List.setIfInBounds_toArray, List.set_cons_zero, List.set_cons_succ] at e6
  have e7 := heap_setCell_same _ G 7 _ T c7 e6
  simp only [List.setIfInBounds_toArray, List.set_cons_zero, List.set_cons_succ] at e7
  exact e7
theorem chain8_below {w0 w : World} {G : Nat} (hb : Below w0.heap.size w0 w) (hG : w0.heap.size ≤ G) (c0 c1 c2 c3 c4 c5 c6 c7 : Value) : Below w0.heap.size w0 ((((((((w.setCell ⟨G, 0, none⟩ c0).setCell ⟨G, 1, none⟩ c1).setCell ⟨G, 2, none⟩ c2).setCell ⟨G, 3, none⟩ c3).setCell ⟨G, 4, none⟩ c4).setCell ⟨G, 5, none⟩ c5).setCell ⟨G, 6, none⟩ c6).setCell ⟨G, 7, none⟩ c7) :=
  (((((((hb.setCell (p := ⟨G, 0, none⟩) hG c0).setCell (p := ⟨G, 1, none⟩) hG c1).setCell (p := ⟨G, 2, none⟩) hG c2).setCell (p := ⟨G, 3, none⟩) hG c3).setCell (p := ⟨G, 4, none⟩) hG c4).setCell (p := ⟨G, 5, none⟩) hG c5).setCell (p := ⟨G, 6, none⟩) hG c6).setCell (p := ⟨G, 7, none⟩) hG c7
theorem heap_drew {w : World} {G : Nat} {o : Option Obj} (h : w.heap[G]? = o) : w.drew.heap[G]? = o := h
theorem chain8_rowD {w : World} {G : Nat} {T : TypeId} {z0 z1 z2 z3 z4 z5 z6 z7 : Value} (h3 : w.heap[G]? = some (.cells #[z0, z1, z2, z3, z4, z5, z6, z7] T (0, 0))) (c0 c1 c2 c3 c4 c5 c6 c7 : Value) : ((((((((w.setCell ⟨G, 0, none⟩ c0).setCell ⟨G, 1, none⟩ c1).setCell ⟨G, 2, none⟩ c2).setCell ⟨G, 3, none⟩ c3).setCell ⟨G, 4, none⟩ c4).setCell ⟨G, 5, none⟩ c5).setCell ⟨G, 6, none⟩ c6).setCell ⟨G, 7, none⟩ c7).drew.heap[G]? = some (.cells #[c0, c1, c2, c3, c4, c5, c6, c7] T (0, 0)) :=
  heap_drew (chain8_row h3 c0 c1 c2 c3 c4 c5 c6 c7)
theorem chain8_belowD {w0 w : World} {G : Nat} (hb : Below w0.heap.size w0 w) (hG : w0.heap.size ≤ G) (c0 c1 c2 c3 c4 c5 c6 c7 : Value) : Below w0.heap.size w0 ((((((((w.setCell ⟨G, 0, none⟩ c0).setCell ⟨G, 1, none⟩ c1).setCell ⟨G, 2, none⟩ c2).setCell ⟨G, 3, none⟩ c3).setCell ⟨G, 4, none⟩ c4).setCell ⟨G, 5, none⟩ c5).setCell ⟨G, 6, none⟩ c6).setCell ⟨G, 7, none⟩ c7).drew :=
  (chain8_below hb hG c0 c1 c2 c3 c4 c5 c6 c7).drew
/-- The end of both ways: what is told is laid into the result's box. -/
theorem Hq.row8 {w0 w : World} {G : Nat} {h : Hv} (x : Hq w0 w G h) : ∃ z0 z1 z2 z3 z4 z5 z6 z7, w.heap[G]? = some (.cells #[z0, z1, z2, z3, z4, z5, z6, z7] 24 (0, 0)) := by
  obtain ⟨vt, vf, vk, hb, _⟩ := x.box
  exact ⟨_, _, _, _, _, _, _, _, hb⟩
theorem in1_bd {zs : List Int} (hb : Byt zs) (t : Nat) (e : Int) : 0 ≤ (inNumber 1 ⟨zs, t, e⟩).1 ∧ (inNumber 1 ⟨zs, t, e⟩).1 ≤ 255 := by
  have hz : Byt (inBytes 1 ⟨zs, t, e⟩).1 := by
    unfold inBytes
    split
    · split
      · exact Byt.nil
      · exact (hb.drop t).take 1
    · exact Byt.nil
  have h := bigv_bd hz
  have hl := inBytes_len 1 ⟨zs, t, e⟩
  unfold inNumber
  generalize (inBytes 1 ⟨zs, t, e⟩).1 = L at *
  have : L.length = 0 ∨ L.length = 1 := by omega
  rcases this with h1 | h1 <;> rw [h1] at h <;> simp only <;> omega

end Go.Proofs.YtgnjmmaahpngpaaDoor
