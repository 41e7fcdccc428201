/- The statement's own function of: a header's fields, its rows in new memory. -/
import Derived.Test.YtgnjmmaahpngpaaDoorInv
import Derived.Test.YtgnjmmaahpngpaaDoorHv
namespace Go.Proofs.YtgnjmmaahpngpaaDoor
open Go Go.RowKit

/-- The box G is there, a row of eight cells. -/
def Y8 (B : Nat) (w : World) : Prop := B + 1 ≤ w.heap.size ∧ ∃ cs : Array Value, cs.size = 8 ∧ w.heap[B]? = some (.cells cs 29 (0, 0))
theorem Y8.below {B : Nat} {w w' : World} (h : Y8 B w) (hb : Below w.heap.size w w') : Y8 B w' := by
  obtain ⟨h1, cs, h2, h3⟩ := h
  exact ⟨Nat.le_trans h1 hb.size, cs, h2, by rw [hb.block _ (by omega)]; exact h3⟩
theorem arr8 {c : Array Value} (h : c.size = 8) : ∃ z0 z1 z2 z3 z4 z5 z6 z7, c = #[z0, z1, z2, z3, z4, z5, z6, z7] := by
  obtain ⟨l⟩ := c
  match l, h with
  | [z0, z1, z2, z3, z4, z5, z6, z7], _ => exact ⟨z0, z1, z2, z3, z4, z5, z6, z7, rfl⟩
theorem Y8.cells {B : Nat} {w : World} (h : Y8 B w) : ∃ z0 z1 z2 z3 z4 z5 z6 z7, w.cell? ⟨B, 0, none⟩ = some z0 ∧ w.cell? ⟨B, 1, none⟩ = some z1 ∧ w.cell? ⟨B, 2, none⟩ = some z2 ∧ w.cell? ⟨B, 3, none⟩ = some z3 ∧ w.cell? ⟨B, 4, none⟩ = some z4 ∧ w.cell? ⟨B, 5, none⟩ = some z5 ∧ w.cell? ⟨B, 6, none⟩ = some z6 ∧ w.cell? ⟨B, 7, none⟩ = some z7 ∧ ∀ j, w.frozen? ⟨B, j, none⟩ = false := by
  obtain ⟨_, c, h2, h3⟩ := h
  obtain ⟨z0, z1, z2, z3, z4, z5, z6, z7, rfl⟩ := arr8 h2
  have hc := fun k => cell_of_row w B k _ 29 (0, 0) h3
  exact ⟨z0, z1, z2, z3, z4, z5, z6, z7, hc 0, hc 1, hc 2, hc 3, hc 4, hc 5, hc 6, hc 7, fun j => by simp [World.frozen?, h3]⟩
theorem Y8.size {B : Nat} {w : World} (h : Y8 B w) : B + 1 ≤ w.heap.size := h.1
theorem Y8.row {B : Nat} {w : World} (h : Y8 B w) {cs : Array Value} (hcs : cs.size = 8) : Y8 B (w.setRow B cs) := by
  obtain ⟨h1, c, h2, h3⟩ := h
  exact ⟨by simpa using h1, cs, hcs, setRow_heap _ _ _ _ _ _ h3⟩
theorem info26 : (Tryd.prog.info? 29).map (·.size) = some 8 := by kernel_rfl
theorem store26 {B : Nat} {w : World} (h : Y8 B w) {c0 c1 c2 c3 c4 c5 c6 c7 : Value} (h1 : (#[c0, c1, c2, c3, c4, c5, c6, c7] : Array Value).all (·.oneCell') = true) :
    (Instr.storeAt 29 (.pointer (some ⟨B, 0, none⟩)) (.agg #[c0, c1, c2, c3, c4, c5, c6, c7])).run Tryd.prog w = .ok () (w.setRow B #[c0, c1, c2, c3, c4, c5, c6, c7]) := by
  obtain ⟨_, c, h2, h3⟩ := h
  simp only [Instr.storeAt, Instr.sureAddr, Sem.run_bind, Sem.run_pure, Result.andThen_ok, run_storeVar_row w B 29 29 c #[c0, c1, c2, c3, c4, c5, c6, c7] h3 info26 (by rw [h2]; rfl) h1]
theorem storeH {B : Nat} {w : World} (hY : Y8 B w) (h : Hv) (a2 : Option Addr) (n2 m2 : Nat) (a3 : Option Addr) (n3 m3 : Nat) (a4 : Option Addr) (n4 m4 : Nat) :
    (Instr.storeAt 29 (.pointer (some ⟨B, 0, none⟩)) (.agg #[.int .i64 h.k, .int .i64 h.v, .slice a2 n2 m2, .slice a3 n3 m3, .slice a4 n4 m4, .int .i64 h.p, .int .i64 h.n, .int .i64 h.w])).run Tryd.prog w = .ok () (w.setRow B #[.int .i64 h.k, .int .i64 h.v, .slice a2 n2 m2, .slice a3 n3 m3, .slice a4 n4 m4, .int .i64 h.p, .int .i64 h.n, .int .i64 h.w]) :=
  store26 hY (by simp [Value.oneCell'])
theorem Ra.row {lo : Nat} {w : World} {v : Value} {zs : List Int} (h : Ra lo w v zs) {g : Nat} (hg : g < lo) (cs : Array Value) : Ra lo (w.setRow g cs) v zs := by
  refine ⟨?_, h.far⟩
  obtain ⟨ao, cap, hv, h1, h2, h3, h4, hc⟩ := h.rd
  refine ⟨ao, cap, hv, h1, h2, h3, h4, fun a ha j hj => ?_⟩
  have hz : zs ≠ [] := fun e => by rw [e] at hj; simp at hj
  have hne : a.block ≠ g := by
    have := h.far a zs.length cap (by rw [hv, ha]) hz
    omega
  obtain ⟨b, off, spot⟩ := a
  have hs : spot = none := by simpa [Addr.add] using World.cell?_spot (hc _ ha 0 (by omega))
  subst hs
  have hcell := hc _ ha j hj
  rw [Addr.add_lit] at hcell ⊢
  rw [cell_setRow_other w g cs ⟨b, off + j, none⟩ hne]; exact hcell
theorem keepR {w : World} {g : Nat} {cs : Array Value} {a : Addr} {v : Value} (hne : a.block ≠ g) (h : w.cell? a = some v) : (w.setRow g cs).cell? a = some v := by rw [cell_setRow_other w g cs a hne]; exact h
theorem Hr.below {w w' : World} {h : Hv} {vt vf vk : Value} (x : Hr w h vt vf vk) (hb : Below w.heap.size w w') : Hr w' h vt vf vk := ⟨x.to.below hb, x.fr.below hb, x.tk.below hb⟩

theorem Y8.set {G : Nat} {w : World} (h : Y8 G w) (i : Nat) (v : Value) : Y8 G (w.setCell ⟨G, i, none⟩ v) := by
  obtain ⟨h1, c, h2, h3⟩ := h
  refine ⟨by simpa [World.setCell] using h1, c.setIfInBounds i v, by simpa using h2, ?_⟩
  rw [heap_setCell_same w G i _ 29 _ h3]
theorem cell_set {w : World} {G b o i : Nat} {v u : Value} (hne : b ≠ G) (h : w.cell? ⟨b, o, none⟩ = some v) : (w.setCell ⟨G, i, none⟩ u).cell? ⟨b, o, none⟩ = some v := by
  unfold World.cell? at h ⊢
  rw [Below.heap_setCell w ⟨G, i, none⟩ u b hne]; exact h
theorem chain8 {w4 : World} {G b o : Nat} {v c0 c1 c2 c3 c4 c5 c6 c7 : Value} (hne : b ≠ G) (h : w4.cell? ⟨b, o, none⟩ = some v) : ((((((((w4.setCell ⟨G, 0, none⟩ c0).setCell ⟨G, 1, none⟩ c1).setCell ⟨G, 2, none⟩ c2).setCell ⟨G, 3, none⟩ c3).setCell ⟨G, 4, none⟩ c4).setCell ⟨G, 5, none⟩ c5).setCell ⟨G, 6, none⟩ c6).setCell ⟨G, 7, none⟩ c7).cell? ⟨b, o, none⟩ = some v :=
  cell_set hne (cell_set hne (cell_set hne (cell_set hne (cell_set hne (cell_set hne (cell_set hne (cell_set hne h)))))))
theorem keep8 {w w4 : World} {G : Nat} (hG : Hid (w.heap.size + 1 = G)) {h : Hv} {vt vf vk c0 c1 c2 c3 c4 c5 c6 c7 : Value} (hS : w4.cell? ⟨w.heap.size, 0, none⟩ = some (.int .i64 h.k) ∧ w4.cell? ⟨w.heap.size, 1, none⟩ = some (.int .i64 h.v) ∧ w4.cell? ⟨w.heap.size, 2, none⟩ = some (vt) ∧ w4.cell? ⟨w.heap.size, 3, none⟩ = some (vf) ∧ w4.cell? ⟨w.heap.size, 4, none⟩ = some (vk) ∧ w4.cell? ⟨w.heap.size, 5, none⟩ = some (.int .i64 h.p) ∧ w4.cell? ⟨w.heap.size, 6, none⟩ = some (.int .i64 h.n) ∧ w4.cell? ⟨w.heap.size, 7, none⟩ = some (.int .i64 h.w) ∧ Y8 G w4 ∧ Below w.heap.size w w4) :
    ((((((((w4.setCell ⟨G, 0, none⟩ c0).setCell ⟨G, 1, none⟩ c1).setCell ⟨G, 2, none⟩ c2).setCell ⟨G, 3, none⟩ c3).setCell ⟨G, 4, none⟩ c4).setCell ⟨G, 5, none⟩ c5).setCell ⟨G, 6, none⟩ c6).setCell ⟨G, 7, none⟩ c7).cell? ⟨w.heap.size, 0, none⟩ = some (.int .i64 h.k) ∧ ((((((((w4.setCell ⟨G, 0, none⟩ c0).setCell ⟨G, 1, none⟩ c1).setCell ⟨G, 2, none⟩ c2).setCell ⟨G, 3, none⟩ c3).setCell ⟨G, 4, none⟩ c4).setCell ⟨G, 5, none⟩ c5).setCell ⟨G, 6, none⟩ c6).setCell ⟨G, 7, none⟩ c7).cell? ⟨w.heap.size, 1, none⟩ = some (.int .i64 h.v) ∧ ((((((((w4.setCell ⟨G, 0, none⟩ c0).setCell ⟨G, 1, none⟩ c1).setCell ⟨G, 2, none⟩ c2).setCell ⟨G, 3, none⟩ c3).setCell ⟨G, 4, none⟩ c4).setCell ⟨G, 5, none⟩ c5).setCell ⟨G, 6, none⟩ c6).setCell ⟨G, 7, none⟩ c7).cell? ⟨w.heap.size, 2, none⟩ = some (vt) ∧ ((((((((w4.setCell ⟨G, 0, none⟩ c0).setCell ⟨G, 1, none⟩ c1).setCell ⟨G, 2, none⟩ c2).setCell ⟨G, 3, none⟩ c3).setCell ⟨G, 4, none⟩ c4).setCell ⟨G, 5, none⟩ c5).setCell ⟨G, 6, none⟩ c6).setCell ⟨G, 7, none⟩ c7).cell? ⟨w.heap.size, 3, none⟩ = some (vf) ∧ ((((((((w4.setCell ⟨G, 0, none⟩ c0).setCell ⟨G, 1, none⟩ c1).setCell ⟨G, 2, none⟩ c2).setCell ⟨G, 3, none⟩ c3).setCell ⟨G, 4, none⟩ c4).setCell ⟨G, 5, none⟩ c5).setCell ⟨G, 6, none⟩ c6).setCell ⟨G, 7, none⟩ c7).cell? ⟨w.heap.size, 4, none⟩ = some (vk) ∧ ((((((((w4.setCell ⟨G, 0, none⟩ c0).setCell ⟨G, 1, none⟩ c1).setCell ⟨G, 2, none⟩ c2).setCell ⟨G, 3, none⟩ c3).setCell ⟨G, 4, none⟩ c4).setCell ⟨G, 5, none⟩ c5).setCell ⟨G, 6, none⟩ c6).setCell ⟨G, 7, none⟩ c7).cell? ⟨w.heap.size, 5, none⟩ = some (.int .i64 h.p) ∧ ((((((((w4.setCell ⟨G, 0, none⟩ c0).setCell ⟨G, 1, none⟩ c1).setCell ⟨G, 2, none⟩ c2).setCell ⟨G, 3, none⟩ c3).setCell ⟨G, 4, none⟩ c4).setCell ⟨G, 5, none⟩ c5).setCell ⟨G, 6, none⟩ c6).setCell ⟨G, 7, none⟩ c7).cell? ⟨w.heap.size, 6, none⟩ = some (.int .i64 h.n) ∧ ((((((((w4.setCell ⟨G, 0, none⟩ c0).setCell ⟨G, 1, none⟩ c1).setCell ⟨G, 2, none⟩ c2).setCell ⟨G, 3, none⟩ c3).setCell ⟨G, 4, none⟩ c4).setCell ⟨G, 5, none⟩ c5).setCell ⟨G, 6, none⟩ c6).setCell ⟨G, 7, none⟩ c7).cell? ⟨w.heap.size, 7, none⟩ = some (.int .i64 h.w) ∧ Y8 G ((((((((w4.setCell ⟨G, 0, none⟩ c0).setCell ⟨G, 1, none⟩ c1).setCell ⟨G, 2, none⟩ c2).setCell ⟨G, 3, none⟩ c3).setCell ⟨G, 4, none⟩ c4).setCell ⟨G, 5, none⟩ c5).setCell ⟨G, 6, none⟩ c6).setCell ⟨G, 7, none⟩ c7) ∧ Below w.heap.size w ((((((((w4.setCell ⟨G, 0, none⟩ c0).setCell ⟨G, 1, none⟩ c1).setCell ⟨G, 2, none⟩ c2).setCell ⟨G, 3, none⟩ c3).setCell ⟨G, 4, none⟩ c4).setCell ⟨G, 5, none⟩ c5).setCell ⟨G, 6, none⟩ c6).setCell ⟨G, 7, none⟩ c7) := by
  obtain ⟨x0, x1, x2, x3, x4, x5, x6, x7, hY, hB⟩ := hS
  have hne : w.heap.size ≠ G := by have := hG.out; omega
  have hle : w.heap.size ≤ G := by have := hG.out; omega
  exact ⟨chain8 hne x0, chain8 hne x1, chain8 hne x2, chain8 hne x3, chain8 hne x4, chain8 hne x5, chain8 hne x6, chain8 hne x7, (((((((hY.set 0 c0).set 1 c1).set 2 c2).set 3 c3).set 4 c4).set 5 c5).set 6 c6).set 7 c7,
    (((((((hB.setCell hle c0).setCell hle c1).setCell hle c2).setCell hle c3).setCell hle c4).setCell hle c5).setCell hle c6).setCell hle c7⟩

theorem chain_row {w4 : World} {G : Nat} (hY : Y8 G w4) {c0 c1 c2 c3 c4 c5 c6 c7 : Value} : ((((((((w4.setCell ⟨G, 0, none⟩ c0).setCell ⟨G, 1, none⟩ c1).setCell ⟨G, 2, none⟩ c2).setCell ⟨G, 3, none⟩ c3).setCell ⟨G, 4, none⟩ c4).setCell ⟨G, 5, none⟩ c5).setCell ⟨G, 6, none⟩ c6).setCell ⟨G, 7, none⟩ c7).heap[G]? = some (.cells #[c0, c1, c2, c3, c4, c5, c6, c7] 29 (0, 0)) := by
  obtain ⟨_, c, h2, h3⟩ := hY
  obtain ⟨z0, z1, z2, z3, z4, z5, z6, z7, rfl⟩ := arr8 h2
  have e0 := heap_setCell_same w4 G 0 _ 29 c0 h3
  simp only [List.setIfInBounds_toArray, List.set_cons_zero] at e0
  have e1 := heap_setCell_same _ G 1 _ 29 c1 e0
  simp only [List.setIfInBounds_toArray, List.set_cons_zero, List.set_cons_succ] at e1
  have e2 := heap_setCell_same _ G 2 _ 29 c2 e1
  simp only [List.setIfInBounds_toArray, List.set_cons_zero, List.set_cons_succ] at e2
  have e3 := heap_setCell_same _ G 3 _ 29 c3 e2
  simp only [List.setIfInBounds_toArray, List.set_cons_zero, List.set_cons_succ] at e3
  have e4 := heap_setCell_same _ G 4 _ 29 c4 e3
  simp only [List.setIfInBounds_toArray, List.set_cons_zero, List.set_cons_succ] at e4
  have e5 := heap_setCell_same _ G 5 _ 29 c5 e4
  simp only [List.setIfInBounds_toArray, List.set_cons_zero, List.set_cons_succ] at e5
  have e6 := heap_setCell_same _ G 6 _ 29 c6 e5
  simp only [List.setIfInBounds_toArray, List.set_cons_zero, List.set_cons_succ] at e6
  have e7 := heap_setCell_same _ G 7 _ 29 c7 e6
  simp only [List.setIfInBounds_toArray, List.set_cons_zero, List.set_cons_succ] at e7
  exact e7
theorem chain_ra {w4 : World} {G : Nat} {v : Value} {zs : List Int} (h : Ra (G + 1) w4 v zs) {c0 c1 c2 c3 c4 c5 c6 c7 : Value} : Ra (G + 1) ((((((((w4.setCell ⟨G, 0, none⟩ c0).setCell ⟨G, 1, none⟩ c1).setCell ⟨G, 2, none⟩ c2).setCell ⟨G, 3, none⟩ c3).setCell ⟨G, 4, none⟩ c4).setCell ⟨G, 5, none⟩ c5).setCell ⟨G, 6, none⟩ c6).setCell ⟨G, 7, none⟩ c7) v zs :=
  (((((((h.set (p := ⟨G, 0, none⟩) (Nat.lt_succ_self _) c0).set (p := ⟨G, 1, none⟩) (Nat.lt_succ_self _) c1).set (p := ⟨G, 2, none⟩) (Nat.lt_succ_self _) c2).set (p := ⟨G, 3, none⟩) (Nat.lt_succ_self _) c3).set (p := ⟨G, 4, none⟩) (Nat.lt_succ_self _) c4).set (p := ⟨G, 5, none⟩) (Nat.lt_succ_self _) c5).set (p := ⟨G, 6, none⟩) (Nat.lt_succ_self _) c6).set (p := ⟨G, 7, none⟩) (Nat.lt_succ_self _) c7
theorem results16 {tmps : Array Value} {w : World} {G : Nat} {cs : Array Value} (hp : tmps.getD 2 undef = .pointer (some ⟨G, 0, none⟩)) (hg : w.heap[G]? = some (.cells cs 29 (0, 0))) (hs : cs.size = 8) :
    (results Tryd.f6 tmps).run Tryd.prog w = .ok (.agg cs) w := by
  exact results_cell_row (fn := Tryd.f6) (p := 2) (ty := 29) Tryd.results6 tmps w G 29 cs (0, 0) _ hp hg Tryd.underlying29 rfl (by rw [info26, hs])
theorem sBelow {w W : World} {G : Nat} (h : Hv) (vt vf vk : Value) (hS : W.cell? ⟨w.heap.size, 0, none⟩ = some (.int .i64 h.k) ∧ W.cell? ⟨w.heap.size, 1, none⟩ = some (.int .i64 h.v) ∧ W.cell? ⟨w.heap.size, 2, none⟩ = some (vt) ∧ W.cell? ⟨w.heap.size, 3, none⟩ = some (vf) ∧ W.cell? ⟨w.heap.size, 4, none⟩ = some (vk) ∧ W.cell? ⟨w.heap.size, 5, none⟩ = some (.int .i64 h.p) ∧ W.cell? ⟨w.heap.size, 6, none⟩ = some (.int .i64 h.n) ∧ W.cell? ⟨w.heap.size, 7, none⟩ = some (.int .i64 h.w) ∧ Y8 G W ∧ Below w.heap.size w W) : Below w.heap.size w W := hS.2.2.2.2.2.2.2.2.2
theorem sY8 {w W : World} {G : Nat} (h : Hv) (vt vf vk : Value) (hS : W.cell? ⟨w.heap.size, 0, none⟩ = some (.int .i64 h.k) ∧ W.cell? ⟨w.heap.size, 1, none⟩ = some (.int .i64 h.v) ∧ W.cell? ⟨w.heap.size, 2, none⟩ = some (vt) ∧ W.cell? ⟨w.heap.size, 3, none⟩ = some (vf) ∧ W.cell? ⟨w.heap.size, 4, none⟩ = some (vk) ∧ W.cell? ⟨w.heap.size, 5, none⟩ = some (.int .i64 h.p) ∧ W.cell? ⟨w.heap.size, 6, none⟩ = some (.int .i64 h.n) ∧ W.cell? ⟨w.heap.size, 7, none⟩ = some (.int .i64 h.w) ∧ Y8 G W ∧ Below w.heap.size w W) : Y8 G W := hS.2.2.2.2.2.2.2.2.1
theorem keepAll {w W W' : World} {G : Nat} {h : Hv} {vt vf vk : Value} (hb : Below W.heap.size W W') (hS : W.cell? ⟨w.heap.size, 0, none⟩ = some (.int .i64 h.k) ∧ W.cell? ⟨w.heap.size, 1, none⟩ = some (.int .i64 h.v) ∧ W.cell? ⟨w.heap.size, 2, none⟩ = some (vt) ∧ W.cell? ⟨w.heap.size, 3, none⟩ = some (vf) ∧ W.cell? ⟨w.heap.size, 4, none⟩ = some (vk) ∧ W.cell? ⟨w.heap.size, 5, none⟩ = some (.int .i64 h.p) ∧ W.cell? ⟨w.heap.size, 6, none⟩ = some (.int .i64 h.n) ∧ W.cell? ⟨w.heap.size, 7, none⟩ = some (.int .i64 h.w) ∧ Y8 G W ∧ Below w.heap.size w W) : W'.cell? ⟨w.heap.size, 0, none⟩ = some (.int .i64 h.k) ∧ W'.cell? ⟨w.heap.size, 1, none⟩ = some (.int .i64 h.v) ∧ W'.cell? ⟨w.heap.size, 2, none⟩ = some (vt) ∧ W'.cell? ⟨w.heap.size, 3, none⟩ = some (vf) ∧ W'.cell? ⟨w.heap.size, 4, none⟩ = some (vk) ∧ W'.cell? ⟨w.heap.size, 5, none⟩ = some (.int .i64 h.p) ∧ W'.cell? ⟨w.heap.size, 6, none⟩ = some (.int .i64 h.n) ∧ W'.cell? ⟨w.heap.size, 7, none⟩ = some (.int .i64 h.w) ∧ Y8 G W' ∧ Below w.heap.size w W' := by
  obtain ⟨x0, x1, x2, x3, x4, x5, x6, x7, hY, hB⟩ := hS
  exact ⟨keepS hb x0, keepS hb x1, keepS hb x2, keepS hb x3, keepS hb x4, keepS hb x5, keepS hb x6, keepS hb x7, hY.below hb, hB.trans (hb.mono hB.size)⟩

set_option maxRecDepth 20000 in
set_option maxHeartbeats 8000000 in
theorem of_any {w : World} (h : Hv) {vt vf vk : Value} (hr : Hr w h vt vf vk) (h1 : h.to.length ≤ 1000) (h2 : h.fr.length ≤ 1000) (h3 : h.tk.length ≤ 1000) :
    Calls Tryd.prog 6 #[.agg (hcells h vt vf vk)] w fun e w' => ∃ ut uf uk, e = .returned (.agg (hcells h ut uf uk)) ∧ Hr w' h ut uf uk ∧ Below w.heap.size w w' := by
  unfold hcells
  have hbx0 : (w.alloc (.cells #[.int .i64 h.k, .int .i64 h.v, vt, vf, vk, .int .i64 h.p, .int .i64 h.n, .int .i64 h.w] 24)).heap[w.heap.size]? = some (.cells #[.int .i64 h.k, .int .i64 h.v, vt, vf, vk, .int .i64 h.p, .int .i64 h.n, .int .i64 h.w] 24) := heap_alloc_new _ _
  have hbx := (Below.heap_alloc (w.alloc (.cells #[.int .i64 h.k, .int .i64 h.v, vt, vf, vk, .int .i64 h.p, .int .i64 h.n, .int .i64 h.w] 24)) (.cells #[.int .i64 0, .int .i64 0, .slice none 0 0, .slice none 0 0, .slice none 0 0, .int .i64 0, .int .i64 0, .int .i64 0] 29) w.heap.size (by simp)).trans hbx0
  have hby := heap_alloc2_new w (.cells #[.int .i64 h.k, .int .i64 h.v, vt, vf, vk, .int .i64 h.p, .int .i64 h.n, .int .i64 h.w] 24) (.cells #[.int .i64 0, .int .i64 0, .slice none 0 0, .slice none 0 0, .slice none 0 0, .int .i64 0, .int .i64 0, .int .i64 0] 29)
  have hB1 : Below w.heap.size w ((w.alloc (.cells #[.int .i64 h.k, .int .i64 h.v, vt, vf, vk, .int .i64 h.p, .int .i64 h.n, .int .i64 h.w] 24)).alloc (.cells #[.int .i64 0, .int .i64 0, .slice none 0 0, .slice none 0 0, .slice none 0 0, .int .i64 0, .int .i64 0, .int .i64 0] 29)) := (below_alloc w _).trans ((below_alloc _ _).mono (by simp))
  have hY : Y8 (w.heap.size + 1) ((w.alloc (.cells #[.int .i64 h.k, .int .i64 h.v, vt, vf, vk, .int .i64 h.p, .int .i64 h.n, .int .i64 h.w] 24)).alloc (.cells #[.int .i64 0, .int .i64 0, .slice none 0 0, .slice none 0 0, .slice none 0 0, .int .i64 0, .int .i64 0, .int .i64 0] 29)) := ⟨by simp, _, rfl, hby⟩
  have x0 : ((w.alloc (.cells #[.int .i64 h.k, .int .i64 h.v, vt, vf, vk, .int .i64 h.p, .int .i64 h.n, .int .i64 h.w] 24)).alloc (.cells #[.int .i64 0, .int .i64 0, .slice none 0 0, .slice none 0 0, .slice none 0 0, .int .i64 0, .int .i64 0, .int .i64 0] 29)).drew.cell? ⟨w.heap.size, 0, none⟩ = some (.int .i64 h.k) := (cell_of_row _ w.heap.size 0 _ 24 (0, 0) hbx).trans rfl
  have x1 : ((w.alloc (.cells #[.int .i64 h.k, .int .i64 h.v, vt, vf, vk, .int .i64 h.p, .int .i64 h.n, .int .i64 h.w] 24)).alloc (.cells #[.int .i64 0, .int .i64 0, .slice none 0 0, .slice none 0 0, .slice none 0 0, .int .i64 0, .int .i64 0, .int .i64 0] 29)).drew.cell? ⟨w.heap.size, 1, none⟩ = some (.int .i64 h.v) := (cell_of_row _ w.heap.size 1 _ 24 (0, 0) hbx).trans rfl
  have x2 : ((w.alloc (.cells #[.int .i64 h.k, .int .i64 h.v, vt, vf, vk, .int .i64 h.p, .int .i64 h.n, .int .i64 h.w] 24)).alloc (.cells #[.int .i64 0, .int .i64 0, .slice none 0 0, .slice none 0 0, .slice none 0 0, .int .i64 0, .int .i64 0, .int .i64 0] 29)).drew.cell? ⟨w.heap.size, 2, none⟩ = some (vt) := (cell_of_row _ w.heap.size 2 _ 24 (0, 0) hbx).trans rfl
  have x3 : ((w.alloc (.cells #[.int .i64 h.k, .int .i64 h.v, vt, vf, vk, .int .i64 h.p, .int .i64 h.n, .int .i64 h.w] 24)).alloc (.cells #[.int .i64 0, .int .i64 0, .slice none 0 0, .slice none 0 0, .slice none 0 0, .int .i64 0, .int .i64 0, .int .i64 0] 29)).drew.cell? ⟨w.heap.size, 3, none⟩ = some (vf) := (cell_of_row _ w.heap.size 3 _ 24 (0, 0) hbx).trans rfl
  have x4 : ((w.alloc (.cells #[.int .i64 h.k, .int .i64 h.v, vt, vf, vk, .int .i64 h.p, .int .i64 h.n, .int .i64 h.w] 24)).alloc (.cells #[.int .i64 0, .int .i64 0, .slice none 0 0, .slice none 0 0, .slice none 0 0, .int .i64 0, .int .i64 0, .int .i64 0] 29)).drew.cell? ⟨w.heap.size, 4, none⟩ = some (vk) := (cell_of_row _ w.heap.size 4 _ 24 (0, 0) hbx).trans rfl
  have x5 : ((w.alloc (.cells #[.int .i64 h.k, .int .i64 h.v, vt, vf, vk, .int .i64 h.p, .int .i64 h.n, .int .i64 h.w] 24)).alloc (.cells #[.int .i64 0, .int .i64 0, .slice none 0 0, .slice none 0 0, .slice none 0 0, .int .i64 0, .int .i64 0, .int .i64 0] 29)).drew.cell? ⟨w.heap.size, 5, none⟩ = some (.int .i64 h.p) := (cell_of_row _ w.heap.size 5 _ 24 (0, 0) hbx).trans rfl
  have x6 : ((w.alloc (.cells #[.int .i64 h.k, .int .i64 h.v, vt, vf, vk, .int .i64 h.p, .int .i64 h.n, .int .i64 h.w] 24)).alloc (.cells #[.int .i64 0, .int .i64 0, .slice none 0 0, .slice none 0 0, .slice none 0 0, .int .i64 0, .int .i64 0, .int .i64 0] 29)).drew.cell? ⟨w.heap.size, 6, none⟩ = some (.int .i64 h.n) := (cell_of_row _ w.heap.size 6 _ 24 (0, 0) hbx).trans rfl
  have x7 : ((w.alloc (.cells #[.int .i64 h.k, .int .i64 h.v, vt, vf, vk, .int .i64 h.p, .int .i64 h.n, .int .i64 h.w] 24)).alloc (.cells #[.int .i64 0, .int .i64 0, .slice none 0 0, .slice none 0 0, .slice none 0 0, .int .i64 0, .int .i64 0, .int .i64 0] 29)).drew.cell? ⟨w.heap.size, 7, none⟩ = some (.int .i64 h.w) := (cell_of_row _ w.heap.size 7 _ 24 (0, 0) hbx).trans rfl
  have hYd : Y8 (w.heap.size + 1) ((w.alloc (.cells #[.int .i64 h.k, .int .i64 h.v, vt, vf, vk, .int .i64 h.p, .int .i64 h.n, .int .i64 h.w] 24)).alloc (.cells #[.int .i64 0, .int .i64 0, .slice none 0 0, .slice none 0 0, .slice none 0 0, .int .i64 0, .int .i64 0, .int .i64 0] 29)).drew := hY
  have hBd : Below w.heap.size w ((w.alloc (.cells #[.int .i64 h.k, .int .i64 h.v, vt, vf, vk, .int .i64 h.p, .int .i64 h.n, .int .i64 h.w] 24)).alloc (.cells #[.int .i64 0, .int .i64 0, .slice none 0 0, .slice none 0 0, .slice none 0 0, .int .i64 0, .int .i64 0, .int .i64 0] 29)).drew := hB1.drew
  clear hbx hbx0 hby hY hB1
  have HR := Lib.hid hr
  clear hr
  go_enter Tryd.func6, Tryd.ntmps6
  go_wp2_with fail
  generalize ((w.alloc (.cells #[.int .i64 h.k, .int .i64 h.v, vt, vf, vk, .int .i64 h.p, .int .i64 h.n, .int .i64 h.w] 24)).alloc (.cells #[.int .i64 0, .int .i64 0, .slice none 0 0, .slice none 0 0, .slice none 0 0, .int .i64 0, .int .i64 0, .int .i64 0] 29)) = W2 at *
  generalize hG : w.heap.size + 1 = G at *
  have HG := Lib.hid hG
  clear hG
  go_region_held3 (fun w' => w'.cell? ⟨w.heap.size, 0, none⟩ = some (.int .i64 h.k) ∧ w'.cell? ⟨w.heap.size, 1, none⟩ = some (.int .i64 h.v) ∧ w'.cell? ⟨w.heap.size, 2, none⟩ = some (vt) ∧ w'.cell? ⟨w.heap.size, 3, none⟩ = some (vf) ∧ w'.cell? ⟨w.heap.size, 4, none⟩ = some (vk) ∧ w'.cell? ⟨w.heap.size, 5, none⟩ = some (.int .i64 h.p) ∧ w'.cell? ⟨w.heap.size, 6, none⟩ = some (.int .i64 h.n) ∧ w'.cell? ⟨w.heap.size, 7, none⟩ = some (.int .i64 h.w) ∧ Y8 G w' ∧ Below w.heap.size w w')
    (first | (have _t := tok3; first | with_reducible exact keep8 HG (by assumption) | with_reducible exact keepAll hb4 (by assumption)) | with_reducible exact ⟨x0, x1, x2, x3, x4, x5, x6, x7, hYd, hBd⟩ | with_reducible exact keepAll (below_alloc _ _) (by assumption) | with_reducible exact keepAll hb3 (by assumption) | with_reducible exact keepAll hb2 (by assumption))
    (first
      | (refine step_append_fresh (by rfl) _ _ (by rfl) _ (by rfl) vt h.to (by rfl) (HR.out.to.below ?_) ?_ (lo := G + 1) ?_ ?_; exact sBelow (G := G) h vt vf vk (by assumption); omega; exact Y8.size (sY8 (w := w) h vt vf vk (by assumption)); intro ut w2 hrt hb2; obtain ⟨at2, ct2, rfl⟩ := Rd.shape hrt.rd)
      | (refine step_append_fresh (by rfl) _ _ (by rfl) _ (by rfl) vf h.fr (by rfl) (HR.out.fr.below ?_) ?_ (lo := G + 1) ?_ ?_; exact sBelow (G := G) h vt vf vk (by assumption); omega; exact Y8.size (sY8 (w := w) h vt vf vk (by assumption)); intro uf w3 hrf hb3; obtain ⟨at3, ct3, rfl⟩ := Rd.shape hrf.rd; have hrt3 : Ra (G + 1) w3 (.slice at2 h.to.length ct2) h.to := (by first | exact hrt.below hb3 | exact (hrt.alloc _).below hb3 | exact ((hrt.alloc _).alloc _).below hb3))
      | (refine step_append_fresh (by rfl) _ _ (by rfl) _ (by rfl) vk h.tk (by rfl) (HR.out.tk.below ?_) ?_ (lo := G + 1) ?_ ?_; exact sBelow (G := G) h vt vf vk (by assumption); omega; exact Y8.size (sY8 (w := w) h vt vf vk (by assumption)); intro uk w4 hrk hb4; obtain ⟨at4, ct4, rfl⟩ := Rd.shape hrk.rd; have hrt4 : Ra (G + 1) w4 (.slice at2 h.to.length ct2) h.to := (by first | exact hrt3.below hb4 | exact (hrt3.alloc _).below hb4); have hrf4 : Ra (G + 1) w4 (.slice at3 h.fr.length ct3) h.fr := (by first | exact hrf.below hb4 | exact (hrf.alloc _).below hb4); have hY4 : Y8 G w4 := Y8.below (sY8 (w := w) h vt vf vk (by assumption)) hb4; obtain ⟨z0, z1, z2, z3, z4, z5, z6, z7, e0, e1, e2, e3, e4, e5, e6, e7, ef⟩ := hY4.cells; have HY4 := Lib.hid hY4; have HRT4 := Lib.hid hrt4; have HRF4 := Lib.hid hrf4; have HRK4 := Lib.hid hrk; have tok3 : True := trivial; clear hrt4 hrf4 hrk hrt hrt3 hrf hb2 hb3 hY4 x0 x1 x2 x3 x4 x5 x6 x7 hYd hBd h1 h2 h3))
  all_goals
    go_wp2_with fail
    refine bodyPost_ret (v := .agg #[.int .i64 h.k, .int .i64 h.v, .slice at2 h.to.length ct2, .slice at3 h.fr.length ct3, .slice at4 h.tk.length ct4, .int .i64 h.p, .int .i64 h.n, .int .i64 h.w]) (results16 rfl (chain_row HY4.out) rfl) rfl ⟨_, _, _, rfl, ⟨(chain_ra HRT4.out).rd, (chain_ra HRF4.out).rd, (chain_ra HRK4.out).rd⟩, sBelow (G := G) h vt vf vk (by assumption)⟩
#print axioms of_any
end Go.Proofs.YtgnjmmaahpngpaaDoor
