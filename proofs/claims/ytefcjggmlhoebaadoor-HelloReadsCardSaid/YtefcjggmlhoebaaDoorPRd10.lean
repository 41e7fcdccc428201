/- params.Read tells what bytes are as params. -/
import Derived.Test.YtefcjggmlhoebaaDoorPRd7
import Derived.Defers
import Derived.Recover
import Derived.Test.YtefcjggmlhoebaaDoorPRd8
namespace Go.Proofs.YtefcjggmlhoebaaDoor
open Go Go.RowKit

/-- Ten stores, one behind the other. -/
theorem chain10q {w : World} {G T : Nat} {z0 z1 z2 z3 z4 z5 z6 z7 z8 z9 : Value} (c0 c1 c2 c3 c4 c5 c6 c7 c8 c9 : Value) (h : w.heap[G]? = some (.cells #[z0, z1, z2, z3, z4, z5, z6, z7, z8, z9] T (0, 0))) :
    ((((((((((w.setCell ⟨G, 0, none⟩ c0).setCell ⟨G, 1, none⟩ c1).setCell ⟨G, 2, none⟩ c2).setCell ⟨G, 3, none⟩ c3).setCell ⟨G, 4, none⟩ c4).setCell ⟨G, 5, none⟩ c5).setCell ⟨G, 6, none⟩ c6).setCell ⟨G, 7, none⟩ c7).setCell ⟨G, 8, none⟩ c8).setCell ⟨G, 9, none⟩ c9).heap[G]? = some (.cells #[c0, c1, c2, c3, c4, c5, c6, c7, c8, c9] T (0, 0)) ∧ But G w ((((((((((w.setCell ⟨G, 0, none⟩ c0).setCell ⟨G, 1, none⟩ c1).setCell ⟨G, 2, none⟩ c2).setCell ⟨G, 3, none⟩ c3).setCell ⟨G, 4, none⟩ c4).setCell ⟨G, 5, none⟩ c5).setCell ⟨G, 6, none⟩ c6).setCell ⟨G, 7, none⟩ c7).setCell ⟨G, 8, none⟩ c8).setCell ⟨G, 9, none⟩ c9) := by
  have e0 := heap_setCell_same _ G 0 _ T c0 h
  simp only [List.setIfInBounds_toArray, List.set_cons_zero] at e0
  have e1 := heap_setCell_same _ G 1 _ T c1 e0
  simp only [List.setIfInBounds_toArray, List.set_cons_zero, List.set_cons_succ] at e1
  have e2 := heap_setCell_same _ G 2 _ T c2 e1
  simp only [List.setIfInBounds_toArray, List.set_cons_zero, List.set_cons_succ] at e2
  have e3 := heap_setCell_same _ G 3 _ T c3 e2
  simp only [List.setIfInBounds_toArray, List.set_cons_zero, List.set_cons_succ] at e3
  have e4 := heap_setCell_same _ G 4 _ T c4 e3
  simp only [List.setIfInBounds_toArray, List.set_cons_zero, List.set_cons_succ] at e4
  have e5 := heap_setCell_same _ G 5 _ T c5 e4
  simp only [List.setIfInBounds_toArray, List.set_cons_zero, List.set_cons_succ] at e5
  have e6 := heap_setCell_same _ G 6 _ T c6 e5
  simp only [List.setIfInBounds_toArray, List.set_cons_zero, List.set_cons_succ] at e6
  have e7 := heap_setCell_same _ G 7 _ T c7 e6
  simp only [List.setIfInBounds_toArray, List.set_cons_zero, List.set_cons_succ] at e7
  have e8 := heap_setCell_same _ G 8 _ T c8 e7
  simp only [List.setIfInBounds_toArray, List.set_cons_zero, List.set_cons_succ] at e8
  have e9 := heap_setCell_same _ G 9 _ T c9 e8
  simp only [List.setIfInBounds_toArray, List.set_cons_zero, List.set_cons_succ] at e9
  exact ⟨e9, (((((((((But.set w G 0 c0).trans (But.set _ G 1 c1)).trans (But.set _ G 2 c2)).trans (But.set _ G 3 c3)).trans (But.set _ G 4 c4)).trans (But.set _ G 5 c5)).trans (But.set _ G 6 c6)).trans (But.set _ G 7 c7)).trans (But.set _ G 8 c8)).trans (But.set _ G 9 c9)⟩

theorem assert_errnoP (k : Int) (w : World) : (Instr.typeAssert (.iface 35 (.int .i64 k)) 20 35 false).run Tryd.prog w = .ok (.int .i64 k) w := by
  kernel_rfl
/-- The two result boxes, one behind the other. -/
structure Bx (H : Nat) (w : World) : Prop where
  h : ∃ z0 z1 z2 z3 z4 z5 z6 z7 z8 z9, w.heap[H]? = some (.cells #[z0, z1, z2, z3, z4, z5, z6, z7, z8, z9] 79 (0, 0))
  x : ∃ v, w.heap[H + 1]? = some (.cells #[v] 35 (0, 0))
theorem Bx.keep {H : Nat} {w w' : World} (h : Bx H w) (h0 : w'.heap[H]? = w.heap[H]?) (h1 : w'.heap[H + 1]? = w.heap[H + 1]?) : Bx H w' := ⟨by rw [h0]; exact h.h, by rw [h1]; exact h.x⟩
/-- What they hold. -/
structure Ld (H : Nat) (cs : Array Value) (x : Value) (w : World) : Prop where
  h : w.heap[H]? = some (.cells cs 79 (0, 0))
  x : w.heap[H + 1]? = some (.cells #[x] 35 (0, 0))
theorem ld_of {w : World} {H : Nat} (hb : Bx H w) (c0 c1 c2 c3 c4 c5 c6 c7 c8 c9 x : Value) :
    Ld H #[c0, c1, c2, c3, c4, c5, c6, c7, c8, c9] x (((((((((((w.setCell ⟨H, 0, none⟩ c0).setCell ⟨H, 1, none⟩ c1).setCell ⟨H, 2, none⟩ c2).setCell ⟨H, 3, none⟩ c3).setCell ⟨H, 4, none⟩ c4).setCell ⟨H, 5, none⟩ c5).setCell ⟨H, 6, none⟩ c6).setCell ⟨H, 7, none⟩ c7).setCell ⟨H, 8, none⟩ c8).setCell ⟨H, 9, none⟩ c9).setCell ⟨H + 1, 0, none⟩ x) ∧ Below H w (((((((((((w.setCell ⟨H, 0, none⟩ c0).setCell ⟨H, 1, none⟩ c1).setCell ⟨H, 2, none⟩ c2).setCell ⟨H, 3, none⟩ c3).setCell ⟨H, 4, none⟩ c4).setCell ⟨H, 5, none⟩ c5).setCell ⟨H, 6, none⟩ c6).setCell ⟨H, 7, none⟩ c7).setCell ⟨H, 8, none⟩ c8).setCell ⟨H, 9, none⟩ c9).setCell ⟨H + 1, 0, none⟩ x) ∧ (∀ k, k < w.heap.size → k ≠ H → k ≠ H + 1 → (((((((((((w.setCell ⟨H, 0, none⟩ c0).setCell ⟨H, 1, none⟩ c1).setCell ⟨H, 2, none⟩ c2).setCell ⟨H, 3, none⟩ c3).setCell ⟨H, 4, none⟩ c4).setCell ⟨H, 5, none⟩ c5).setCell ⟨H, 6, none⟩ c6).setCell ⟨H, 7, none⟩ c7).setCell ⟨H, 8, none⟩ c8).setCell ⟨H, 9, none⟩ c9).setCell ⟨H + 1, 0, none⟩ x).heap[k]? = w.heap[k]?) := by
  obtain ⟨⟨z0, z1, z2, z3, z4, z5, z6, z7, z8, z9, hh⟩, v, hx⟩ := hb
  obtain ⟨hG, hB⟩ := chain10q c0 c1 c2 c3 c4 c5 c6 c7 c8 c9 hh
  have hx2 := hB.block (H + 1) (Array.getElem?_eq_some_iff.1 hx).1 (by omega)
  rw [hx] at hx2
  generalize ((((((((((w.setCell ⟨H, 0, none⟩ c0).setCell ⟨H, 1, none⟩ c1).setCell ⟨H, 2, none⟩ c2).setCell ⟨H, 3, none⟩ c3).setCell ⟨H, 4, none⟩ c4).setCell ⟨H, 5, none⟩ c5).setCell ⟨H, 6, none⟩ c6).setCell ⟨H, 7, none⟩ c7).setCell ⟨H, 8, none⟩ c8).setCell ⟨H, 9, none⟩ c9) = w8 at *
  have e := heap_setCell_same w8 (H + 1) 0 _ 35 x hx2
  simp at e
  have hb2 := But.set w8 (H + 1) 0 x
  refine ⟨⟨by rw [hb2.block H (Array.getElem?_eq_some_iff.1 hG).1 (by omega)]; exact hG, e⟩, ⟨hb2.os.trans hB.os, hb2.tape.trans hB.tape, hb2.output.trans hB.output, Nat.le_trans hB.size hb2.size, fun k hk => ?_⟩, fun k hk h1 h2 => (hb2.block k (Nat.lt_of_lt_of_le hk hB.size) h2).trans (hB.block k hk h1)⟩
  have hkl : k < w.heap.size := by have := (Array.getElem?_eq_some_iff.1 hx).1; omega
  exact (hb2.block k (Nat.lt_of_lt_of_le hkl hB.size) (by omega)).trans (hB.block k hkl (by omega))
theorem ld_drew {H : Nat} {cs : Array Value} {x : Value} {w w' : World} (h : Ld H cs x w') (hb : Below H w w') : Ld H cs x w'.drew ∧ Below H w w'.drew := ⟨⟨h.h, h.x⟩, hb.drew⟩
/-- No params. -/
def zP : Array Value := #[.int .i64 0, .int .i64 0, .bool false, .bool false, .bool false, .slice none 0 0, .slice none 0 0, .slice none 0 0, .int .i64 0, .slice none 0 0]

set_option maxRecDepth 20000 in
set_option maxHeartbeats 2000000 in
theorem pcatch_idle (H : Nat) (w : World) :
    CallsD Tryd.prog 69 #[.pointer (some ⟨H, 0, none⟩), .pointer (some ⟨H + 1, 0, none⟩)] .returning w fun e u' w' => e = .returned (.tuple #[]) ∧ u' = .returning ∧ w = w' := by
  refine callsD_of_wpS Tryd.func69 rfl fun c₀ cs hu => ?_
  apply wpS_seq
  apply wpS_region
  simp [wpOpsS, go_sem, recoverD, hu, Tryd.ntmps69, Exit.thenS]
  apply wpS_seq
  apply wpS_region
  simp [wpOpsS, go_sem, Exit.thenS]
  refine wpS_cond (t := false) (by simp [Act.eval, Array.replicate]) ?_
  simp only [Bool.false_eq_true, if_false]
  refine wpS_of_wp (wp_skip ?_)
  cases c₀
  simp_all [bodyPostS, results, Tryd.results69]

set_option maxRecDepth 20000 in
set_option maxHeartbeats 2000000 in
theorem pcatch_panicking (H : Nat) (w : World) (k : Int) (hb : Bx H w) :
    CallsD Tryd.prog 69 #[.pointer (some ⟨H, 0, none⟩), .pointer (some ⟨H + 1, 0, none⟩)] (.panicking [{ v := .iface 35 (.int .i64 k), recovered := false }]) w fun e u' w' => e = .returned (.tuple #[]) ∧ u' = .panicking [{ v := .iface 35 (.int .i64 k), recovered := true }] ∧ Ld H zP (.int .i64 k) w' ∧ Below H w w' := by
  have hld := ld_of hb (.int .i64 0) (.int .i64 0) (.bool false) (.bool false) (.bool false) (.slice none 0 0) (.slice none 0 0) (.slice none 0 0) (.int .i64 0) (.slice none 0 0) (.int .i64 k)
  have HL := Lib.hid (ld_drew hld.1 hld.2.1)
  clear hld
  obtain ⟨⟨z0, z1, z2, z3, z4, z5, z6, z7, z8, z9, hh⟩, v, hx⟩ := hb
  have hcc := fun i => cell_of_row w H i _ 79 (0, 0) hh
  have a0 := hcc 0
  have a1 := hcc 1
  have a2 := hcc 2
  have a3 := hcc 3
  have a4 := hcc 4
  have a5 := hcc 5
  have a6 := hcc 6
  have a7 := hcc 7
  have a8 := hcc 8
  have a9 := hcc 9
  have af : ∀ j, w.frozen? ⟨H, j, none⟩ = false := fun j => by simp [World.frozen?, hh]
  have b2 := cell_of_row w (H + 1) 0 _ 35 (0, 0) hx
  have g2 : w.frozen? ⟨H + 1, 0, none⟩ = false := by simp [World.frozen?, hx]
  clear hcc
  have hta := assert_errnoP k
  refine callsD_of_wpS Tryd.func69 rfl fun c₀ cs hu => ?_
  apply wpS_seq
  apply wpS_region
  simp [wpOpsS, go_sem, recoverD, hu, Tryd.ntmps69, Exit.thenS]
  apply wpS_seq
  apply wpS_region
  simp [wpOpsS, go_sem, Exit.thenS]
  refine wpS_cond (t := true) (by simp [Act.eval, Array.replicate]) ?_
  simp only [if_true]
  refine wpS_of_wp ?_
  simp [Array.replicate]
  go_region
  all_goals
    refine ⟨rfl, _, rfl, .tuple #[], ?_, rfl, rfl, HL.out⟩
    simp [results, Tryd.results69, go_sem]
set_option maxRecDepth 20000 in
theorem pread_results (tmps : Array Value) (w : World) (H : Nat) (c0 c1 c2 c3 c4 c5 c6 c7 c8 c9 : Value) (x : Int) (h2 : tmps[2]?.getD undef = .pointer (some ⟨H, 0, none⟩)) (h3 : tmps[3]?.getD undef = .pointer (some ⟨H + 1, 0, none⟩)) (hL : Ld H #[c0, c1, c2, c3, c4, c5, c6, c7, c8, c9] (.int .i64 x) w) :
    (results Tryd.f56 tmps).run Tryd.prog w = .ok (.tuple #[.agg #[c0, c1, c2, c3, c4, c5, c6, c7, c8, c9], .int .i64 x]) w := by
  have hcc := fun i => cell_of_row w H i _ 79 (0, 0) hL.h
  have a0 := hcc 0
  have a1 := hcc 1
  have a2 := hcc 2
  have a3 := hcc 3
  have a4 := hcc 4
  have a5 := hcc 5
  have a6 := hcc 6
  have a7 := hcc 7
  have a8 := hcc 8
  have a9 := hcc 9
  clear hcc
  have b2 := cell_of_row w (H + 1) 0 _ 35 (0, 0) hL.x
  simp [results, Tryd.results56, h2, h3, asAddr, a0, a1, a2, a3, a4, a5, a6, a7, a8, a9, b2, go_sem]
/-- Behind a return: the results are those that the boxes hold. -/
theorem pdoor_idle (tmps : Array Value) (w : World) (H : Nat) (c0 c1 c2 c3 c4 c5 c6 c7 c8 c9 : Value) (x : Int) (h2 : tmps[2]?.getD undef = .pointer (some ⟨H, 0, none⟩)) (h3 : tmps[3]?.getD undef = .pointer (some ⟨H + 1, 0, none⟩))
    (hL : Ld H #[c0, c1, c2, c3, c4, c5, c6, c7, c8, c9] (.int .i64 x) w) {R : Ending → World → Prop} (hR : R (.returned (.tuple #[.agg #[c0, c1, c2, c3, c4, c5, c6, c7, c8, c9], .int .i64 x])) w) :
    bodyPostD Tryd.prog Tryd.f56 R .ret ⟨tmps, [{ target := Target.fn (Fn.func 69) #[.pointer (some ⟨H, 0, none⟩), .pointer (some ⟨H + 1, 0, none⟩)], args := #[] }]⟩ w := by
  refine leaves_cons (f := 69) (args := #[.pointer (some ⟨H, 0, none⟩), .pointer (some ⟨H + 1, 0, none⟩)]) (by simp) (by simp [go_sem]) ?_
  refine (pcatch_idle H w).mono ?_
  rintro e' u' w'' ⟨rfl, rfl, rfl⟩
  exact ⟨_, pread_results tmps w H c0 c1 c2 c3 c4 c5 c6 c7 c8 c9 x h2 h3 hL, hR⟩
/-- Behind a panic of an error's number: no params, and the error. -/
theorem pdoor_panic (tmps : Array Value) (w : World) (H : Nat) (k : Int) (hB : Bx H w) (h2 : tmps[2]?.getD undef = .pointer (some ⟨H, 0, none⟩)) (h3 : tmps[3]?.getD undef = .pointer (some ⟨H + 1, 0, none⟩))
    {R : Ending → World → Prop} (hR : ∀ w', Below H w w' → R (.returned (.tuple #[.agg zP, .int .i64 k])) w') :
    bodyPostD Tryd.prog Tryd.f56 R (.panic [{ v := .iface 35 (.int .i64 k), recovered := false }]) ⟨tmps, [{ target := Target.fn (Fn.func 69) #[.pointer (some ⟨H, 0, none⟩), .pointer (some ⟨H + 1, 0, none⟩)], args := #[] }]⟩ w := by
  refine leaves_cons (f := 69) (args := #[.pointer (some ⟨H, 0, none⟩), .pointer (some ⟨H + 1, 0, none⟩)]) (by simp) (by simp [go_sem]) ?_
  refine (pcatch_panicking H w k hB).mono ?_
  rintro e' u' w'' ⟨rfl, rfl, hL, hb⟩
  exact ⟨_, pread_results tmps w'' H _ _ _ _ _ _ _ _ _ _ k h2 h3 hL, hR w'' hb⟩
end Go.Proofs.YtefcjggmlhoebaaDoor
namespace Go.Proofs.YtefcjggmlhoebaaDoor
open Go Go.RowKit

/-- What Read tells of bytes: params, an error's number. -/
def resP (zs : List Int) : Pv × Int := if 500 < zs.length then (p0, 4) else match readP zs with | some p => (p, 0) | none => (p0, 3)
theorem pr_zero (w : World) : Pr w p0 (.slice none 0 0) (.slice none 0 0) (.slice none 0 0) (.slice none 0 0) := ⟨Rd.nil w, Rd.nil w, Rd.nil w, Ri.nil w⟩
def RPost (zs : List Int) (w : World) (e : Ending) (w' : World) : Prop :=
  ∃ v5 v6 v7 v9, e = .returned (.tuple #[pAgg (resP zs).1 v5 v6 v7 v9, .int .i64 (resP zs).2]) ∧ Pr w' (resP zs).1 v5 v6 v7 v9 ∧ Below w.heap.size w w'
theorem rpost_no {zs : List Int} {w w' : World} {k : Int} (h : resP zs = (p0, k)) (hb : Below w.heap.size w w') : RPost zs w (.returned (.tuple #[.agg zP, .int .i64 k])) w' :=
  ⟨.slice none 0 0, .slice none 0 0, .slice none 0 0, .slice none 0 0, by rw [h]; rfl, by rw [h]; exact pr_zero _, hb⟩
end Go.Proofs.YtefcjggmlhoebaaDoor
namespace Go.Proofs.YtefcjggmlhoebaaDoor
open Go Go.RowKit

/-- The two boxes, as they are made. -/
def bxW (w : World) : World := (w.alloc (.cells #[.int .i64 0, .int .i64 0, .bool false, .bool false, .bool false, .slice none 0 0, .slice none 0 0, .slice none 0 0, .int .i64 0, .slice none 0 0] 79)).alloc (.cells #[.int .i64 0] 35)
theorem bxW_below (w : World) : Below w.heap.size w (bxW w) := ((below_alloc w _).alloc (by simp) _)
theorem bxW_size (w : World) : (bxW w).heap.size = w.heap.size + 2 := by simp [bxW]
/-- The two boxes, as they were made. -/
structure Bz (H : Nat) (w : World) : Prop where
  h : w.heap[H]? = some (.cells #[.int .i64 0, .int .i64 0, .bool false, .bool false, .bool false, .slice none 0 0, .slice none 0 0, .slice none 0 0, .int .i64 0, .slice none 0 0] 79 (0, 0))
  x : w.heap[H + 1]? = some (.cells #[.int .i64 0] 35 (0, 0))
theorem Bz.bx {H : Nat} {w : World} (h : Bz H w) : Bx H w := ⟨⟨_, _, _, _, _, _, _, _, _, _, h.h⟩, ⟨_, h.x⟩⟩
theorem Bz.keep {H : Nat} {w w' : World} (h : Bz H w) (h0 : w'.heap[H]? = w.heap[H]?) (h1 : w'.heap[H + 1]? = w.heap[H + 1]?) : Bz H w' := ⟨by rw [h0]; exact h.h, by rw [h1]; exact h.x⟩
theorem bxW_bx (w : World) : Bz w.heap.size (bxW w) := by
  have h0 := heap_alloc_new w (.cells #[.int .i64 0, .int .i64 0, .bool false, .bool false, .bool false, .slice none 0 0, .slice none 0 0, .slice none 0 0, .int .i64 0, .slice none 0 0] 79)
  unfold bxW
  exact ⟨(Below.heap_alloc _ _ w.heap.size (by simp)).trans h0, heap_alloc2_new w _ _⟩
theorem cell_mem {w : World} {K : Nat} {cs : Array Value} {T : TypeId} {m : Nat × Nat} (h : w.heap[K]? = some (.cells cs T m)) {a : Addr} {x : Value} (ha : a.block = K) (he : w.cell? a = some x) : x ∈ cs.toList := by
  unfold World.cell? at he
  rw [ha, h] at he
  simp only at he
  split at he
  · cases he
  · have := Array.mem_of_getElem? he
    simpa using this
theorem Bz.no {H : Nat} {w : World} (h : Bz H w) {a : Addr} (ha : a.block = H ∨ a.block = H + 1) : (∀ x, w.cell? a ≠ some (.int .u8 x)) ∧ (∀ x, 1 ≤ x → w.cell? a ≠ some (.int .i64 x)) := by
  rcases ha with ha | ha
  · refine ⟨fun x he => ?_, fun x hx he => ?_⟩
    · have hm := cell_mem h.h ha he
      simp at hm
    · have hm := cell_mem h.h ha he
      simp at hm; omega
  · refine ⟨fun x he => ?_, fun x hx he => ?_⟩
    · have hm := cell_mem h.x ha he
      simp at hm
    · have hm := cell_mem h.x ha he
      simp at hm; omega
/-- What is read stands behind the stores into the two boxes. -/
theorem Bz.pr {H : Nat} {w w' : World} {p : Pv} {v5 v6 v7 v9 : Value} (h : Bz H w) (hp : Pr w p v5 v6 v7 v9) (hl : ∀ x ∈ p.l, 1 ≤ x) (hk : ∀ k, k < w.heap.size → k ≠ H → k ≠ H + 1 → w'.heap[k]? = w.heap[k]?) : Pr w' p v5 v6 v7 v9 := by
  have hr : ∀ {v : Value} {zs : List Int}, Rd w v zs → Rd w' v zs := fun hv => hv.apart fun k hk1 => by
    by_cases e : k = H ∨ k = H + 1
    · exact .inl fun a x ha => (h.no (by rw [ha]; exact e)).1 x
    · exact .inr (hk k hk1 (fun e' => e (.inl e')) (fun e' => e (.inr e')))
  refine ⟨hr hp.g, hr hp.o, hr hp.r, ?_⟩
  obtain ⟨ao, cap, hv, h1, h2, h3, hc⟩ := hp.l
  refine ⟨ao, cap, hv, h1, h2, h3, fun a ha j hj => ?_⟩
  have hcell := hc a ha j hj
  have hx : 1 ≤ p.l.getD j 0 := by
    have e : p.l.getD j 0 = p.l[j] := by simp [hj]
    rw [e]; exact hl _ (List.getElem_mem hj)
  by_cases e : (a.add j).block = H ∨ (a.add j).block = H + 1
  · exact absurd hcell ((h.no e).2 _ hx)
  · rw [← hcell]
    exact World.cell?_of_block (w := w) (hk _ (cell_lt hcell) (fun e' => e (.inl e')) (fun e' => e (.inr e')))
theorem right_l {p : Pv} (h : rightP p = true) : ∀ x ∈ p.l, 1 ≤ x := by
  unfold rightP at h
  simp only [Bool.and_eq_true] at h
  obtain ⟨_, _, _, _, _, _, hl⟩ := h
  unfold versB at hl
  simp only [decide_eq_true_eq] at hl
  intro x hx
  have := hl.2.1 x hx
  unfold verB at this
  simp at this
  omega
theorem readP_right {zs : List Int} {p : Pv} (h : readP zs = some p) : rightP p = true := by
  unfold readP at h
  split at h
  · split at h
    · rename_i h2
      cases h
      exact h2.2
    · cases h
  · cases h
set_option maxRecDepth 20000 in
set_option maxHeartbeats 4000000 in
theorem pread_any {w : World} {v : Value} {zs : List Int} (hr : Rd w v zs) (hp : Plain v) (hl : zs.length ≤ 1000000) :
    Calls Tryd.prog 56 #[v] w (RPost zs w) := by
  obtain ⟨ao, n, cap, rfl⟩ := hr.shape3P
  have hnl : n = zs.length := by obtain ⟨_, _, e, _⟩ := hr; simp only [Value.slice.injEq] at e; exact e.2.1
  subst hnl
  have hB2 := bxW_below w
  have hof := of_q (short := 3) (hr.below hB2) hp hl
  have hsz := bxW_size w
  have hbx := bxW_bx w
  have HB2 := Lib.hid hB2
  have HBX := Lib.hid hbx
  have HSZ := Lib.hid hsz
  clear hB2 hr hp hsz
  by_cases h5 : 500 < zs.length
  · have HRES : Hid (resP zs = (p0, 4)) := Lib.hid (by unfold resP; rw [if_pos h5])
    have HLD := Lib.hid (ld_of hbx.bx (.int .i64 0) (.int .i64 0) (.bool false) (.bool false) (.bool false) (.slice none 0 0) (.slice none 0 0) (.slice none 0 0) (.int .i64 0) (.slice none 0 0) (.int .i64 4))
    clear hof hbx
    unfold bxW at *
    go_enter_defers Tryd.func56, Tryd.ntmps56
    go_wp2_with fail
    have hb : Below w.heap.size w ((w.alloc (.cells #[.int .i64 0, .int .i64 0, .bool false, .bool false, .bool false, .slice none 0 0, .slice none 0 0, .slice none 0 0, .int .i64 0, .slice none 0 0] 79)).alloc (.cells #[.int .i64 4] 35)) := (below_alloc w _).alloc (by simp) _
    have h0 := heap_alloc_new w (.cells #[.int .i64 0, .int .i64 0, .bool false, .bool false, .bool false, .slice none 0 0, .slice none 0 0, .slice none 0 0, .int .i64 0, .slice none 0 0] 79)
    exact ⟨_, pread_results _ _ w.heap.size _ _ _ _ _ _ _ _ _ _ 4 rfl rfl ⟨(Below.heap_alloc _ _ w.heap.size (by simp)).trans h0, heap_alloc2_new w _ _⟩, rpost_no HRES.out hb⟩
  · unfold bxW at *
    clear hbx
    go_enter_defers Tryd.func56, Tryd.ntmps56
    go_wp2_with fail
    generalize (w.alloc (.cells #[.int .i64 0, .int .i64 0, .bool false, .bool false, .bool false, .slice none 0 0, .slice none 0 0, .slice none 0 0, .int .i64 0, .slice none 0 0] 79)).alloc (.cells #[.int .i64 0] 35) = W0 at *
    refine hof.mono ?_
    rintro e w1 ⟨rfl, hF, rfl⟩
    clear hof
    go_wp2_with fail
    have h2 := heap_alloc2_new W0 (.cells #[.slice ao zs.length cap, .int .i64 0, .int .i64 3] 87) (.cells #[.pointer (some ⟨W0.heap.size, 0, none⟩), .pointer none, .int .i64 0, .int .i64 0, .bool false, .bool false, .bool false, .slice none 0 0, .slice none 0 0, .slice none 0 0, .int .i64 0, .slice none 0 0] 102)
    have hF2 := hF.keep (below_alloc (W0.alloc (.cells #[.slice ao zs.length cap, .int .i64 0, .int .i64 3] 87)) (.cells #[.pointer (some ⟨W0.heap.size, 0, none⟩), .pointer none, .int .i64 0, .int .i64 0, .bool false, .bool false, .bool false, .slice none 0 0, .slice none 0 0, .slice none 0 0, .int .i64 0, .slice none 0 0] 102))
    clear hF
    generalize (W0.alloc (.cells #[.slice ao zs.length cap, .int .i64 0, .int .i64 3] 87)).alloc (.cells #[.pointer (some ⟨W0.heap.size, 0, none⟩), .pointer none, .int .i64 0, .int .i64 0, .bool false, .bool false, .bool false, .slice none 0 0, .slice none 0 0, .slice none 0 0, .int .i64 0, .slice none 0 0] 102) = w2 at *
    have hq : Rq w2 (W0.heap.size + 1) W0.heap.size (.pointer none) p0 nilS nilS nilS nilS := ⟨h2, Rd.nil _, Rd.nil _, Rd.nil _, ⟨_, _, _, rfl⟩, ⟨_, rfl⟩⟩
    have hc := params_any hF2 hq (Nat.le_refl _) (Nat.lt_succ_self _)
    have HBL := Lib.hid hF2.bel
    clear h2 hF2 hq
    have HK : Hid (∀ w3, KqP (W0.heap.size + 1) W0.heap.size w2 w3 → Bz w.heap.size w3 ∧ Below w.heap.size w w3) := Lib.hid fun w3 hk => by
      have hsz := HSZ.out
      have hb := HBL.out
      have hs2 := hb.size
      refine ⟨(HBX.out.keep (w' := w2) (hb.block _ (by omega)) (hb.block _ (by omega))).keep (hk.block _ (by omega) (by omega) (by omega)) (hk.block _ (by omega) (by omega) (by omega)), ?_⟩
      exact (HB2.out.trans (hb.mono (by omega))).trans ⟨hk.os, hk.tape, hk.output, hk.size, fun k hk1 => hk.block k (by omega) (by omega) (by omega)⟩
    refine hc.mono ?_
    rintro e w3 (⟨hno, he, hk⟩ | ⟨p, v5, v6, v7, v9, hyes, rfl, hpr, hk⟩)
    · have HRES : Hid (resP zs = (p0, 3)) := Lib.hid (by unfold resP; rw [if_neg h5, hno])
      have hk2 := HK.out w3 hk
      have HK2 := Lib.hid hk2
      rw [errPanic] at he
      subst he
      clear hno hk hk2 hc
      go_wp2_with fail
      exact pdoor_panic _ _ w.heap.size 3 HK2.out.1.bx rfl rfl fun w' hb => rpost_no HRES.out (HK2.out.2.trans hb)
    · have HRES : Hid (resP zs = (p, 0)) := Lib.hid (by unfold resP; rw [if_neg h5, hyes])
      have hk2 := HK.out w3 hk
      obtain ⟨a5, k5, rfl⟩ := hpr.g.shape
      obtain ⟨a6, k6, rfl⟩ := hpr.o.shape
      obtain ⟨a7, k7, rfl⟩ := hpr.r.shape
      obtain ⟨a9, k9, rfl⟩ := hpr.l.shape
      have hld := ld_of hk2.1.bx (.int .i64 p.i) (.int .i64 p.d) (.bool p.hg) (.bool p.ho) (.bool p.hr) (.slice a5 p.g.length k5) (.slice a6 p.o.length k6) (.slice a7 p.r.length k7) (.int .i64 p.c) (.slice a9 p.l.length k9) (.int .i64 0)
      have HLD := Lib.hid hld
      have HK2 := Lib.hid hk2
      have HPR := Lib.hid hpr
      have HRL := Lib.hid (right_l (readP_right hyes))
      obtain ⟨hh, hx⟩ := hk2.1
      have hcc := fun i => cell_of_row w3 w.heap.size i _ 79 (0, 0) hh
      have q0 := hcc 0
      have q1 := hcc 1
      have q2 := hcc 2
      have q3 := hcc 3
      have q4 := hcc 4
      have q5 := hcc 5
      have q6 := hcc 6
      have q7 := hcc 7
      have q8 := hcc 8
      have q9 := hcc 9
      have qf : ∀ j, w3.frozen? ⟨w.heap.size, j, none⟩ = false := fun j => by simp [World.frozen?, hh]
      have qx := cell_of_row w3 (w.heap.size + 1) 0 _ 35 (0, 0) hx
      have qg : w3.frozen? ⟨w.heap.size + 1, 0, none⟩ = false := by simp [World.frozen?, hx]
      clear hcc hh hx hld hk2 hpr hyes hk hc
      unfold pAgg
      go_wp2_with fail
      refine pdoor_idle _ _ w.heap.size _ _ _ _ _ _ _ _ _ _ 0 rfl rfl HLD.out.1 ⟨_, _, _, _, by rw [HRES.out], by rw [HRES.out]; exact HK2.out.1.pr HPR.out HRL.out HLD.out.2.2, ?_⟩
      exact HK2.out.2.trans (HLD.out.2.1)
end Go.Proofs.YtefcjggmlhoebaaDoor
