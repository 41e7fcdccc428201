/- The document's own Read of a header tells what refP says. -/
import Derived.Test.YtcnepdjcdjdlhaaDoorHIn5
import Derived.Test.YtcnepdjcdjdlhaaDoorHv
import Derived.BigRegion
import Derived.Deep.RegionHeld3
namespace Go.Proofs.YtcnepdjcdjdlhaaDoor
open Go Go.RowKit

/-- A header of the document's in the box G; its rows read in the world where the bytes came in. -/
structure Hq (w0 w : World) (G : Nat) (h : Hv) : Prop where
  lo : w0.heap.size ≤ G
  box : ∃ vt vf vk, w.heap[G]? = some (.cells #[.int .i64 h.k, .int .i64 h.v, vt, vf, vk, .int .i64 h.p, .int .i64 h.n, .int .i64 h.w] 24 (0, 0)) ∧ Rd w0 vt h.to ∧ Rd w0 vf h.fr ∧ Rd w0 vk h.tk
theorem Hq.lt {w0 w : World} {G : Nat} {h : Hv} (x : Hq w0 w G h) : G < w.heap.size := by
  obtain ⟨_, _, _, hb, _⟩ := x.box
  exact (Array.getElem?_eq_some_iff.1 hb).1
theorem Hq.but {w0 w w' : World} {G I : Nat} {h : Hv} (x : Hq w0 w G h) (hb : But I w w') (hne : G ≠ I) : Hq w0 w' G h := by
  obtain ⟨vt, vf, vk, hx, r⟩ := x.box
  exact ⟨x.lo, vt, vf, vk, by rw [hb.block G x.lt hne]; exact hx, r⟩
theorem Hq.alloc {w0 w : World} {G : Nat} {h : Hv} (x : Hq w0 w G h) (o : Obj) : Hq w0 (w.alloc o) G h := x.but (I := w.heap.size) (But.of_below (below_alloc w o)) (Nat.ne_of_lt x.lt)
theorem Hq.drewN {w0 w : World} {G : Nat} {h : Hv} (x : Hq w0 w G h) (n : Nat) : Hq w0 (w.drewN n) G h := ⟨x.lo, x.box⟩
theorem Hq.cells {w0 w : World} {G : Nat} {h : Hv} (x : Hq w0 w G h) : ∃ a1 n1 c1 a2 n2 c2 a3 n3 c3, (Rd w0 (.slice a1 n1 c1) h.to ∧ Rd w0 (.slice a2 n2 c2) h.fr ∧ Rd w0 (.slice a3 n3 c3) h.tk) ∧ w.cell? ⟨G, 0, none⟩ = some (.int .i64 h.k) ∧ w.cell? ⟨G, 1, none⟩ = some (.int .i64 h.v) ∧ w.cell? ⟨G, 2, none⟩ = some (.slice a1 n1 c1) ∧ w.cell? ⟨G, 3, none⟩ = some (.slice a2 n2 c2) ∧ w.cell? ⟨G, 4, none⟩ = some (.slice a3 n3 c3) ∧ w.cell? ⟨G, 5, none⟩ = some (.int .i64 h.p) ∧ w.cell? ⟨G, 6, none⟩ = some (.int .i64 h.n) ∧ w.cell? ⟨G, 7, none⟩ = some (.int .i64 h.w) ∧ ∀ j, w.frozen? ⟨G, j, none⟩ = false := by
  obtain ⟨vt, vf, vk, hb, r1, r2, r3⟩ := x.box
  obtain ⟨a1, n1, c1, rfl⟩ : ∃ ao n cap, vt = .slice ao n cap := by obtain ⟨ao, cap, hv, _⟩ := r1; exact ⟨ao, _, cap, hv⟩
  obtain ⟨a2, n2, c2, rfl⟩ : ∃ ao n cap, vf = .slice ao n cap := by obtain ⟨ao, cap, hv, _⟩ := r2; exact ⟨ao, _, cap, hv⟩
  obtain ⟨a3, n3, c3, rfl⟩ : ∃ ao n cap, vk = .slice ao n cap := by obtain ⟨ao, cap, hv, _⟩ := r3; exact ⟨ao, _, cap, hv⟩
  have hc := fun k => cell_of_row w G k _ 24 (0, 0) hb
  exact ⟨a1, n1, c1, a2, n2, c2, a3, n3, c3, ⟨r1, r2, r3⟩, hc 0, hc 1, hc 2, hc 3, hc 4, hc 5, hc 6, hc 7, fun j => by simp [World.frozen?, hb]⟩
theorem Hq.setk {w0 w : World} {G : Nat} {h : Hv} (y : Hq w0 w G h) (x : Int) : Hq w0 (w.setCell ⟨G, 0, none⟩ (.int .i64 x)) G { h with k := x } := by
  obtain ⟨vt, vf, vk, hbx, r⟩ := y.box
  have e0 := heap_setCell_same _ _ 0 _ _ (.int .i64 x) hbx
  simp only [List.setIfInBounds_toArray, List.set_cons_zero] at e0
  exact ⟨y.lo, vt, vf, vk, e0, r⟩
theorem Hq.setv {w0 w : World} {G : Nat} {h : Hv} (y : Hq w0 w G h) (x : Int) : Hq w0 (w.setCell ⟨G, 1, none⟩ (.int .i64 x)) G { h with v := x } := by
  obtain ⟨vt, vf, vk, hbx, r⟩ := y.box
  have e0 := heap_setCell_same _ _ 1 _ _ (.int .i64 x) hbx
  simp only [List.setIfInBounds_toArray, List.set_cons_zero, List.set_cons_succ] at e0
  exact ⟨y.lo, vt, vf, vk, e0, r⟩
theorem Hq.setp {w0 w : World} {G : Nat} {h : Hv} (y : Hq w0 w G h) (x : Int) : Hq w0 (w.setCell ⟨G, 5, none⟩ (.int .i64 x)) G { h with p := x } := by
  obtain ⟨vt, vf, vk, hbx, r⟩ := y.box
  have e0 := heap_setCell_same _ _ 5 _ _ (.int .i64 x) hbx
  simp only [List.setIfInBounds_toArray, List.set_cons_zero, List.set_cons_succ] at e0
  exact ⟨y.lo, vt, vf, vk, e0, r⟩
theorem Hq.setn {w0 w : World} {G : Nat} {h : Hv} (y : Hq w0 w G h) (x : Int) : Hq w0 (w.setCell ⟨G, 6, none⟩ (.int .i64 x)) G { h with n := x } := by
  obtain ⟨vt, vf, vk, hbx, r⟩ := y.box
  have e0 := heap_setCell_same _ _ 6 _ _ (.int .i64 x) hbx
  simp only [List.setIfInBounds_toArray, List.set_cons_zero, List.set_cons_succ] at e0
  exact ⟨y.lo, vt, vf, vk, e0, r⟩
theorem Hq.setto {w0 w : World} {G : Nat} {h : Hv} (y : Hq w0 w G h) {x : Value} {l : List Int} (hx : Rd w0 x l) : Hq w0 (w.setCell ⟨G, 2, none⟩ x) G { h with to := l } := by
  obtain ⟨vt, vf, vk, hbx, r⟩ := y.box
  have e0 := heap_setCell_same _ _ 2 _ _ x hbx
  simp only [List.setIfInBounds_toArray, List.set_cons_zero, List.set_cons_succ] at e0
  exact ⟨y.lo, x, vf, vk, e0, hx, r.2.1, r.2.2⟩
theorem Hq.setfr {w0 w : World} {G : Nat} {h : Hv} (y : Hq w0 w G h) {x : Value} {l : List Int} (hx : Rd w0 x l) : Hq w0 (w.setCell ⟨G, 3, none⟩ x) G { h with fr := l } := by
  obtain ⟨vt, vf, vk, hbx, r⟩ := y.box
  have e0 := heap_setCell_same _ _ 3 _ _ x hbx
  simp only [List.setIfInBounds_toArray, List.set_cons_zero, List.set_cons_succ] at e0
  exact ⟨y.lo, vt, x, vk, e0, r.1, hx, r.2.2⟩
theorem Hq.settk {w0 w : World} {G : Nat} {h : Hv} (y : Hq w0 w G h) {x : Value} {l : List Int} (hx : Rd w0 x l) : Hq w0 (w.setCell ⟨G, 4, none⟩ x) G { h with tk := l } := by
  obtain ⟨vt, vf, vk, hbx, r⟩ := y.box
  have e0 := heap_setCell_same _ _ 4 _ _ x hbx
  simp only [List.setIfInBounds_toArray, List.set_cons_zero, List.set_cons_succ] at e0
  exact ⟨y.lo, vt, vf, x, e0, r.1, r.2.1, hx⟩
theorem Iq.setG {w0 w : World} {I G i : Nat} {s : In} (h : Iq w0 w I s) (hne : I ≠ G) (hG : w0.heap.size ≤ G) (v : Value) : Iq w0 (w.setCell ⟨G, i, none⟩ v) I s := by
  obtain ⟨rv, hb, r⟩ := h.box
  exact ⟨h.bel.setCell (p := ⟨G, i, none⟩) hG v, h.lo, h.tl, h.sz, rv, by rw [Below.heap_setCell w ⟨G, i, none⟩ v I hne]; exact hb, r⟩
theorem Iq.alloc {w0 w : World} {I : Nat} {s : In} (h : Iq w0 w I s) (o : Obj) : Iq w0 (w.alloc o) I s := by
  obtain ⟨rv, hb, r⟩ := h.box
  exact ⟨h.bel.alloc h.bel.size o, h.lo, h.tl, h.sz, rv, (Below.heap_alloc w o I h.lt).trans hb, r⟩
theorem iq_start {w : World} {ao : Option Addr} {n cap : Nat} {zs : List Int} (hr : Rd w (.slice ao n cap) zs) (hp : Plain (.slice ao n cap)) (hl : zs.length ≤ 1000000) (o : Obj) :
    Iq w ((w.alloc o).alloc (.cells #[.slice ao n cap, .int .i64 0, .int .i64 0] 69)) (w.heap.size + 1) ⟨zs, 0, 0⟩ :=
  ⟨(below_alloc w o).trans ((below_alloc _ _).mono (by simp)), Nat.le_succ _, Nat.zero_le _, hl, _, heap_alloc2_new w o _, hr, hp⟩
theorem hq_new {w0 w : World} (hb : w0.heap.size ≤ w.heap.size) (x : Int) : Hq w0 (w.alloc (.cells #[.int .i64 0, .int .i64 0, .slice none 0 0, .slice none 0 0, .slice none 0 0, .int .i64 0, .int .i64 0, .int .i64 x] 24)) w.heap.size ⟨0, 0, [], [], [], 0, 0, x⟩ :=
  ⟨hb, _, _, _, heap_alloc_new _ _, Rd.nil _, Rd.nil _, Rd.nil _⟩
theorem chain8_row {w : World} {G : Nat} {T : TypeId} {z0 z1 z2 z3 z4 z5 z6 z7 : Value} (h3 : w.heap[G]? = some (.cells #[z0, z1, z2, z3, z4, z5, z6, z7] T (0, 0))) (c0 c1 c2 c3 c4 c5 c6 c7 : Value) : ((((((((w.setCell ⟨G, 0, none⟩ c0).setCell ⟨G, 1, none⟩ c1).setCell ⟨G, 2, none⟩ c2).setCell ⟨G, 3, none⟩ c3).setCell ⟨G, 4, none⟩ c4).setCell ⟨G, 5, none⟩ c5).setCell ⟨G, 6, none⟩ c6).setCell ⟨G, 7, none⟩ c7).heap[G]? = some (.cells #[c0, c1, c2, c3, c4, c5, c6, c7] T (0, 0)) := by
  have e0 := heap_setCell_same w G 0 _ T c0 h3
  simp only [List.setIfInBounds_toArray, List.set_cons_zero] at e0
  have e1 := heap_setCell_same _ G 1 _ T c1 e0
  simp only [List.setIfInBounds_toArray, List.set_cons_zero, List.set_cons_succ] at e1
  have e2 := heap_setCell_same _ G 2 _ T c2 e1
  simp only [List.setIfInBounds_toArray, List.set_cons_zero, List.set_cons_succ] at e2
  have e3 := heap_setCell_same _ G 3 _ T c3 e2
  simp only [List.setIfInBounds_toArray, List.set_cons_zero, List.set_cons_succ] at e3
  have e4 := heap_setCell_same _ G 4 _ T c4 e3
  simp only [List.setIfInBounds_toArray, List.set_cons_zero, List.set_cons_succ] at e4
  have e5 := heap_setCell_same _ G 5 _ T c5 e4
  simp only [List.setIfInBounds_toArray, List.set_cons_zero, List.set_cons_succ] at e5
  have e6 := heap_setCell_same _ G 6 _ T c6 e5
  simp only [List.setIfInBounds_toArray, List.set_cons_zero, List.set_cons_succ] at e6
  have e7 := heap_setCell_same _ G 7 _ T c7 e6
  simp only [List.setIfInBounds_toArray, List.set_cons_zero, List.set_cons_succ] at e7
  exact e7
theorem chain8_below {w0 w : World} {G : Nat} (hb : Below w0.heap.size w0 w) (hG : w0.heap.size ≤ G) (c0 c1 c2 c3 c4 c5 c6 c7 : Value) : Below w0.heap.size w0 ((((((((w.setCell ⟨G, 0, none⟩ c0).setCell ⟨G, 1, none⟩ c1).setCell ⟨G, 2, none⟩ c2).setCell ⟨G, 3, none⟩ c3).setCell ⟨G, 4, none⟩ c4).setCell ⟨G, 5, none⟩ c5).setCell ⟨G, 6, none⟩ c6).setCell ⟨G, 7, none⟩ c7) :=
  (((((((hb.setCell (p := ⟨G, 0, none⟩) hG c0).setCell (p := ⟨G, 1, none⟩) hG c1).setCell (p := ⟨G, 2, none⟩) hG c2).setCell (p := ⟨G, 3, none⟩) hG c3).setCell (p := ⟨G, 4, none⟩) hG c4).setCell (p := ⟨G, 5, none⟩) hG c5).setCell (p := ⟨G, 6, none⟩) hG c6).setCell (p := ⟨G, 7, none⟩) hG c7
theorem heap_drew {w : World} {G : Nat} {o : Option Obj} (h : w.heap[G]? = o) : w.drew.heap[G]? = o := h
theorem chain8_rowD {w : World} {G : Nat} {T : TypeId} {z0 z1 z2 z3 z4 z5 z6 z7 : Value} (h3 : w.heap[G]? = some (.cells #[z0, z1, z2, z3, z4, z5, z6, z7] T (0, 0))) (c0 c1 c2 c3 c4 c5 c6 c7 : Value) : ((((((((w.setCell ⟨G, 0, none⟩ c0).setCell ⟨G, 1, none⟩ c1).setCell ⟨G, 2, none⟩ c2).setCell ⟨G, 3, none⟩ c3).setCell ⟨G, 4, none⟩ c4).setCell ⟨G, 5, none⟩ c5).setCell ⟨G, 6, none⟩ c6).setCell ⟨G, 7, none⟩ c7).drew.heap[G]? = some (.cells #[c0, c1, c2, c3, c4, c5, c6, c7] T (0, 0)) :=
  heap_drew (chain8_row h3 c0 c1 c2 c3 c4 c5 c6 c7)
theorem chain8_belowD {w0 w : World} {G : Nat} (hb : Below w0.heap.size w0 w) (hG : w0.heap.size ≤ G) (c0 c1 c2 c3 c4 c5 c6 c7 : Value) : Below w0.heap.size w0 ((((((((w.setCell ⟨G, 0, none⟩ c0).setCell ⟨G, 1, none⟩ c1).setCell ⟨G, 2, none⟩ c2).setCell ⟨G, 3, none⟩ c3).setCell ⟨G, 4, none⟩ c4).setCell ⟨G, 5, none⟩ c5).setCell ⟨G, 6, none⟩ c6).setCell ⟨G, 7, none⟩ c7).drew :=
  (chain8_below hb hG c0 c1 c2 c3 c4 c5 c6 c7).drew
theorem ref_results (tmps : Array Value) (w : World) (M : Nat) (c0 c1 c2 c3 c4 c5 c6 c7 s e x : Value) (h2 : tmps[2]?.getD undef = .pointer (some ⟨M, 0, none⟩)) (h3 : tmps[3]?.getD undef = s) (h4 : tmps[4]?.getD undef = e) (h5 : tmps[5]?.getD undef = x)
    (hL : w.heap[M]? = some (.cells #[c0, c1, c2, c3, c4, c5, c6, c7] 24 (0, 0))) :
    (results Tryd.f18 tmps).run Tryd.prog w = .ok (.tuple #[.agg #[c0, c1, c2, c3, c4, c5, c6, c7], s, e, x]) w := by
  have hcc := fun i => cell_of_row w M i _ 24 (0, 0) hL
  have a0 := hcc 0
  have a1 := hcc 1
  have a2 := hcc 2
  have a3 := hcc 3
  have a4 := hcc 4
  have a5 := hcc 5
  have a6 := hcc 6
  have a7 := hcc 7
  clear hcc
  simp [results, Tryd.results18, h2, h3, h4, h5, asAddr, a0, a1, a2, a3, a4, a5, a6, a7, go_sem]
/-- The end of both ways: what is told is laid into the result's box. -/
theorem Hq.row8 {w0 w : World} {G : Nat} {h : Hv} (x : Hq w0 w G h) : ∃ z0 z1 z2 z3 z4 z5 z6 z7, w.heap[G]? = some (.cells #[z0, z1, z2, z3, z4, z5, z6, z7] 24 (0, 0)) := by
  obtain ⟨vt, vf, vk, hb, _⟩ := x.box
  exact ⟨_, _, _, _, _, _, _, _, hb⟩
theorem in1_bd {zs : List Int} (hb : Byt zs) (t : Nat) (e : Int) : 0 ≤ (inNumber 1 ⟨zs, t, e⟩).1 ∧ (inNumber 1 ⟨zs, t, e⟩).1 ≤ 255 := by
  have hz : Byt (inBytes 1 ⟨zs, t, e⟩).1 := by
    unfold inBytes
    split
    · split
      · exact Byt.nil
      · exact (hb.drop t).take 1
    · exact Byt.nil
  have h := bigv_bd hz
  have hl := inBytes_len 1 ⟨zs, t, e⟩
  unfold inNumber
  generalize (inBytes 1 ⟨zs, t, e⟩).1 = L at *
  have : L.length = 0 ∨ L.length = 1 := by omega
  rcases this with h1 | h1 <;> rw [h1] at h <;> simp only <;> omega

set_option maxRecDepth 20000 in
set_option maxHeartbeats 2000000 in
theorem refshortW {w : World} {v : Value} {zs : List Int} (hr : Rd w v zs) (hp : Plain v) (hl : zs.length ≤ 1000000) (f n : Int × In) (r1 : In) (b : List Int × In) (x : Bool) (hx : (64 ≤ f.1 ∧ decide (f.1 < 72) = x) ∨ (f.1 < 64 ∧ x = false)) (hf : inNumber 1 ⟨zs, 0, 0⟩ = f) (h1 : inNeed x 3 f.2 = r1) (hb : inBytes 8 r1 = b) (hn : inNumber (f.1 % 4 + 1).toNat b.2 = n) (hlt : f.1 < 192) :
    Calls Tryd.prog 18 #[v] w fun e w' => ∃ vt vf vk, e = .returned (.tuple #[.agg (hcells (if n.2.e = 0 then (⟨3, 0, b.1, [], [], f.1 / 4 % 2, n.1, f.1 % 4 + 1⟩ : Hv) else Hv.empty) vt vf vk), .int .i64 (if n.2.e = 0 then (n.2.t : Int) else 0), .int .i64 (if n.2.e = 0 then (zs.length : Int) else 0), .int .i64 (if n.2.e = 0 then 0 else n.2.e)]) ∧ Hr w' (if n.2.e = 0 then (⟨3, 0, b.1, [], [], f.1 / 4 % 2, n.1, f.1 % 4 + 1⟩ : Hv) else Hv.empty) vt vf vk ∧ Below w.heap.size w w' := by
  have hbd := in1_bd hr.byt 0 0
  rw [hf] at hbd
  obtain ⟨ao, n0, cap, rfl⟩ : ∃ ao n cap, v = .slice ao n cap := by obtain ⟨ao, cap, hv, _⟩ := hr; exact ⟨ao, _, cap, hv⟩
  have hI := iq_start hr hp hl (.cells #[.int .i64 0, .int .i64 0, .slice none 0 0, .slice none 0 0, .slice none 0 0, .int .i64 0, .int .i64 0, .int .i64 0] 24)
  have hM := (hq_new (w0 := w) (w := w) (Nat.le_refl _) 0).alloc (.cells #[.slice ao n0 cap, .int .i64 0, .int .i64 0] 69)
  have hc := inumber_q hI 1 (by decide)
  rw [hf] at hc
  have hlen : n0 = zs.length := by obtain ⟨_, _, e, _⟩ := hr; simp only [Value.slice.injEq] at e; exact e.2.1
  have HLEN := Lib.hid hlen
  have HM := Lib.hid hM
  have H1 := Lib.hid h1
  have HB := Lib.hid hb
  have HN := Lib.hid hn
  obtain ⟨m, hm⟩ : ∃ m : Nat, f.1 % 4 + 1 = (m : Int) := ⟨(f.1 % 4 + 1).toNat, by omega⟩
  have HMM := Lib.hid hm
  obtain ⟨f0, f9⟩ := hbd
  have hm7 : m ≤ 7 := by omega
  clear hI hM h1 hb hn hlen hm hf hr hp hl
  rcases hx with ⟨g1, d2⟩ | ⟨g1, rfl⟩
  all_goals
    go_enter Tryd.func18, Tryd.ntmps18
    go_wp2_with fail
    refine hc.mono ?_
    rintro e w1 ⟨rfl, hI1, hb1⟩
    have hM1 := HM.out.but hb1 (Nat.ne_of_lt (Nat.lt_succ_self _))
    have hG2 := hq_new (w0 := w) hI1.bel.size (f.1 % 4 + 1)
    have hI2 := hI1.alloc (.cells #[.int .i64 0, .int .i64 0, .slice none 0 0, .slice none 0 0, .slice none 0 0, .int .i64 0, .int .i64 0, .int .i64 (f.1 % 4 + 1)] 24)
    have hM2 := hM1.alloc (.cells #[.int .i64 0, .int .i64 0, .slice none 0 0, .slice none 0 0, .slice none 0 0, .int .i64 0, .int .i64 0, .int .i64 (f.1 % 4 + 1)] 24)
    have hIG : w.heap.size + 1 ≠ w1.heap.size := Nat.ne_of_lt hI1.lt
    have hMI : w.heap.size ≠ w.heap.size + 1 := by omega
    have hMG : w.heap.size ≠ w1.heap.size := Nat.ne_of_lt hM1.lt
    have hlo1 : w.heap.size ≤ w1.heap.size := hI1.bel.size
    clear hc hI1 hb1 hM1
    go_wp2_with fail
    generalize w1.alloc (.cells #[.int .i64 0, .int .i64 0, .slice none 0 0, .slice none 0 0, .slice none 0 0, .int .i64 0, .int .i64 0, .int .i64 (f.1 % 4 + 1)] 24) = w2 at *
    generalize w1.heap.size = G at *
    refine (need_q hI2 _ 3).mono ?_
    rintro e w3 ⟨rfl, hI3, hb3⟩
    rw [H1.out] at hI3
    have hM3 := hM2.but hb3 hMI
    have hG3 := hG2.but hb3 hIG.symm
    have hG4 := hG3.setk 3
    have hG5 := hG4.setp (f.1 / 4 % 2)
    have hI5 := (hI3.setG (i := 0) hIG hlo1 (.int .i64 3)).setG (i := 5) hIG hlo1 (.int .i64 (f.1 / 4 % 2))
    have hM5 := (hM3.but (But.set _ G 0 (.int .i64 3)) hMG).but (But.set _ G 5 (.int .i64 (f.1 / 4 % 2))) hMG
    obtain ⟨_, _, _, _, _, _, _, _, _, _, q0, _, _, _, _, _, _, _, qf⟩ := hG3.cells
    obtain ⟨_, _, _, _, _, _, _, _, _, _, _, _, _, _, _, q5, _, _, qf5⟩ := hG4.cells
    clear hI2 hM2 hG2 hb3 hM3 hG3 hG4 hI3
    go_wp2_with fail
    generalize (w3.setCell ⟨G, 0, none⟩ (.int .i64 3)).setCell ⟨G, 5, none⟩ (.int .i64 (f.1 / 4 % 2)) = w5 at *
    have hc6 := ibytes_q hI5 8 (by decide)
    rw [show (8 : Int).toNat = 8 from rfl, HB.out] at hc6
    clear hI5 q0 qf q5 qf5
    refine hc6.mono ?_
    rintro e w6 ⟨bv, rfl, ⟨hbr, _⟩, hI6, hb6⟩
    have hM6 := hM5.but hb6 hMI
    have hG6 := hG5.but hb6 hIG.symm
    have hG7 := hG6.setto hbr
    obtain ⟨ab, nb, cb, rfl⟩ : ∃ ao n cap, bv = .slice ao n cap := by obtain ⟨ao, cap, hv, _⟩ := hbr; exact ⟨ao, _, cap, hv⟩
    have hI7 := hI6.setG (i := 2) hIG hlo1 (.slice ab nb cb)
    have hM7 := hM6.but (But.set _ G 2 (.slice ab nb cb)) hMG
    obtain ⟨_, _, _, _, _, _, _, _, _, _, _, _, q2, _, _, _, _, _, qf⟩ := hG6.cells
    obtain ⟨_, _, _, _, _, _, _, _, _, _, _, _, _, _, _, _, _, t7, tf⟩ := hG7.cells
    have hc8 := inumber_q hI7 m hm7
    rw [← HMM.out] at hc8
    rw [show m = (f.1 % 4 + 1).toNat by have := HMM.out; omega, HN.out] at hc8
    clear hM5 hG5 hb6 hM6 hG6 hI6 hI7 hbr hc6
    go_wp2_with fail
    refine hc8.mono ?_
    rintro e w8 ⟨rfl, hI8, hb8⟩
    have hM8 := hM7.but hb8 hMI
    have hG8 := hG7.but hb8 hIG.symm
    have hG9 := hG8.setn n.1
    have hI9 := hI8.setG (i := 6) hIG hlo1 (.int .i64 n.1)
    have hM9 := hM8.but (But.set _ G 6 (.int .i64 n.1)) hMG
    obtain ⟨_, _, _, _, _, _, _, _, _, _, _, _, _, _, _, _, q6, _, qf8⟩ := hG8.cells
    obtain ⟨_, _, _, _, _, _, _, _, e9, _⟩ := hI9.cells
    clear hc8 hM7 hG7 hb8 hM8 hG8 hI8 q2 qf t7 tf
    obtain ⟨b1, m1, l1, b2, m2, l2, b3, m3, l3, ⟨r1', r2', r3'⟩, g0', g1', g2', g3', g4', g5', g6', g7', gf'⟩ := hG9.cells
    obtain ⟨_, _, _, _, _, _, _, _, _, _, p0, p1, p2, p3, p4, p5, p6, p7, pf⟩ := hM9.cells
    obtain ⟨_, _, _, _, _, _, _, u1, u2, uf⟩ := hI9.cells
    obtain ⟨z0, z1, z2, z3, z4, z5, z6, z7, hrow⟩ := hM9.row8
    have HBW := Lib.hid hI9.bel
    have HROW := Lib.hid hrow
    have HRR := Lib.hid (And.intro r1' (And.intro r2' r3'))
    by_cases hE : n.2.e = 0
    · have E1 : (n.2.e != 0) = false := by simp [hE]
      have HE := Lib.hid hE
      clear hE hG9 hM9 hI9 hrow r1' r2' r3'
      go_wp2_with fail
      generalize w8.setCell ⟨G, 6, none⟩ (.int .i64 n.1) = w9 at *
      have HC := Lib.hid (chain8_rowD HROW.out (.int .i64 3) (.int .i64 0) (.slice b1 m1 l1) (.slice b2 m2 l2) (.slice b3 m3 l3) (.int .i64 (f.1 / 4 % 2)) (.int .i64 n.1) (.int .i64 (f.1 % 4 + 1)))
      have HCB := Lib.hid (chain8_belowD HBW.out (Nat.le_refl _) (.int .i64 3) (.int .i64 0) (.slice b1 m1 l1) (.slice b2 m2 l2) (.slice b3 m3 l3) (.int .i64 (f.1 / 4 % 2)) (.int .i64 n.1) (.int .i64 (f.1 % 4 + 1)))
      have HEQ : Hid (Ending.returned (.tuple #[.agg #[.int .i64 3, .int .i64 0, .slice b1 m1 l1, .slice b2 m2 l2, .slice b3 m3 l3, .int .i64 (f.1 / 4 % 2), .int .i64 n.1, .int .i64 (f.1 % 4 + 1)], .int .i64 n.2.t, .int .i64 n0, .int .i64 0]) = .returned (.tuple #[.agg (hcells ⟨3, 0, b.1, [], [], f.1 / 4 % 2, n.1, f.1 % 4 + 1⟩ (.slice b1 m1 l1) (.slice b2 m2 l2) (.slice b3 m3 l3)), .int .i64 n.2.t, .int .i64 zs.length, .int .i64 0])) := Lib.hid (by rw [← HLEN.out]; rfl)
      refine wp_region_noPanic ?_
      go_region
      all_goals
        refine NoPanic.normal ?_
        refine ‹∀ (a : Act) (w : World), Code.wp Tryd.prog _ _ a w → _› _ _ ?_
        refine wp_ret ?_
        try simp only [Exit.then]
        refine bodyPost_ret (ref_results _ _ w.heap.size (.int .i64 3) (.int .i64 0) (.slice b1 m1 l1) (.slice b2 m2 l2) (.slice b3 m3 l3) (.int .i64 (f.1 / 4 % 2)) (.int .i64 n.1) (.int .i64 (f.1 % 4 + 1)) (.int .i64 n.2.t) (.int .i64 n0) (.int .i64 0) rfl rfl rfl rfl HC.out) rfl ?_
        simp only [if_pos HE.out]
        exact ⟨_, _, _, HEQ.out, ⟨HRR.out.1.below HCB.out, HRR.out.2.1.below HCB.out, HRR.out.2.2.below HCB.out⟩, HCB.out⟩
    · have E1 : (n.2.e != 0) = true := by simp [hE]
      have HE := Lib.hid hE
      clear hE hG9 hM9 hI9 hrow r1' r2' r3'
      go_wp2_with fail
      generalize w8.setCell ⟨G, 6, none⟩ (.int .i64 n.1) = w9 at *
      have HC := Lib.hid (chain8_rowD HROW.out (.int .i64 0) (.int .i64 0) (.slice none 0 0) (.slice none 0 0) (.slice none 0 0) (.int .i64 0) (.int .i64 0) (.int .i64 0))
      have HCB := Lib.hid (chain8_belowD HBW.out (Nat.le_refl _) (.int .i64 0) (.int .i64 0) (.slice none 0 0) (.slice none 0 0) (.slice none 0 0) (.int .i64 0) (.int .i64 0) (.int .i64 0))
      refine wp_region_noPanic ?_
      go_region
      all_goals
        refine NoPanic.normal ?_
        refine ‹∀ (a : Act) (w : World), Code.wp Tryd.prog _ _ a w → _› _ _ ?_
        refine wp_ret ?_
        try simp only [Exit.then]
        refine bodyPost_ret (ref_results _ _ w.heap.size (.int .i64 0) (.int .i64 0) (.slice none 0 0) (.slice none 0 0) (.slice none 0 0) (.int .i64 0) (.int .i64 0) (.int .i64 0) (.int .i64 0) (.int .i64 0) (.int .i64 n.2.e) rfl rfl rfl rfl HC.out) rfl ?_
        simp only [if_neg HE.out]
        exact ⟨_, _, _, rfl, ⟨Rd.nil _, Rd.nil _, Rd.nil _⟩, HCB.out⟩
#print axioms refshortW
end Go.Proofs.YtcnepdjcdjdlhaaDoor
