/- What Read tells of bytes, as the program and the document have it. -/
import Derived.Test.YtmglhlfjddgllaaDoorPRd7
import Derived.Defers
import Derived.Recover
namespace Go.Proofs.YtmglhlfjddgllaaDoor
open Go Go.RowKit

/-- Ten stores, one behind the other. -/
theorem chain10q {w : World} {G T : Nat} {z0 z1 z2 z3 z4 z5 z6 z7 z8 z9 : Value} (c0 c1 c2 c3 c4 c5 c6 c7 c8 c9 : Value) (h : w.heap[G]? = some (.cells #[z0, z1, z2, z3, z4, z5, z6, z7, z8, z9] T (0, 0))) :
    ((((((((((w.setCell ⟨G, 0, none⟩ c0).setCell ⟨G, 1, none⟩ c1).setCell ⟨G, 2, none⟩ c2).setCell ⟨G, 3, none⟩ c3).setCell ⟨G, 4, none⟩ c4).setCell ⟨G, 5, none⟩ c5).setCell ⟨G, 6, none⟩ c6).setCell ⟨G, 7, none⟩ c7).setCell ⟨G, 8, none⟩ c8).setCell ⟨G, 9, none⟩ c9).heap[G]? = some (.cells #[c0, c1, c2, c3, c4, c5, c6, c7, c8, c9] T (0, 0)) ∧ But G w ((((((((((w.setCell ⟨G, 0, none⟩ c0).setCell ⟨G, 1, none⟩ c1).setCell ⟨G, 2, none⟩ c2).setCell ⟨G, 3, none⟩ c3).setCell ⟨G, 4, none⟩ c4).setCell ⟨G, 5, none⟩ c5).setCell ⟨G, 6, none⟩ c6).setCell ⟨G, 7, none⟩ c7).setCell ⟨G, 8, none⟩ c8).setCell ⟨G, 9, none⟩ c9) := by
  have e0 := heap_setCell_same _ G 0 _ T c0 h
  simp only [List.setIfInBounds_toArray, List.set_cons_zero] at e0
  have e1 := heap_setCell_same _ G 1 _ T c1 e0
  simp only [List.setIfInBounds_toArray, List.set_cons_zero, List.set_cons_succ] at e1
  have e2 := heap_setCell_same _ G 2 _ T c2 e1
  simp only [List.setIfInBounds_toArray, List.set_cons_zero, List.set_cons_succ] at e2
  have e3 := heap_setCell_same _ G 3 _ T c3 e2
  simp only [List.setIfInBounds_toArray, List.set_cons_zero, List.set_cons_succ] at e3
  have e4 := heap_setCell_same _ G 4 _ T c4 e3
  simp only [List.setIfInBounds_toArray, List.set_cons_zero, List.set_cons_succ] at e4
  have e5 := heap_setCell_same _ G 5 _ T c5 e4
  simp only [List.setIfInBounds_toArray, List.set_cons_zero, List.set_cons_succ] at e5
  have e6 := heap_setCell_same _ G 6 _ T c6 e5
  simp only [List.setIfInBounds_toArray, List.set_cons_zero, List.set_cons_succ] at e6
  have e7 := heap_setCell_same _ G 7 _ T c7 e6
  simp only [List.setIfInBounds_toArray, List.set_cons_zero, List.set_cons_succ] at e7
  have e8 := heap_setCell_same _ G 8 _ T c8 e7
  simp only [List.setIfInBounds_toArray, List.set_cons_zero, List.set_cons_succ] at e8
  have e9 := heap_setCell_same _ G 9 _ T c9 e8
  simp only [List.setIfInBounds_toArray, List.set_cons_zero, List.set_cons_succ] at e9
  exact ⟨e9, (((((((((But.set w G 0 c0).trans (But.set _ G 1 c1)).trans (But.set _ G 2 c2)).trans (But.set _ G 3 c3)).trans (But.set _ G 4 c4)).trans (But.set _ G 5 c5)).trans (But.set _ G 6 c6)).trans (But.set _ G 7 c7)).trans (But.set _ G 8 c8)).trans (But.set _ G 9 c9)⟩

theorem assert_errnoP (k : Int) (w : World) : (Instr.typeAssert (.iface 34 (.int .i64 k)) 20 34 false).run Tryd.prog w = .ok (.int .i64 k) w := by
  kernel_rfl
/-- The two result boxes, one behind the other. -/
structure Bx (H : Nat) (w : World) : Prop where
  h : ∃ z0 z1 z2 z3 z4 z5 z6 z7 z8 z9, w.heap[H]? = some (.cells #[z0, z1, z2, z3, z4, z5, z6, z7, z8, z9] 27 (0, 0))
  x : ∃ v, w.heap[H + 1]? = some (.cells #[v] 34 (0, 0))
theorem Bx.keep {H : Nat} {w w' : World} (h : Bx H w) (h0 : w'.heap[H]? = w.heap[H]?) (h1 : w'.heap[H + 1]? = w.heap[H + 1]?) : Bx H w' := ⟨by rw [h0]; exact h.h, by rw [h1]; exact h.x⟩
/-- What they hold. -/
structure Ld (H : Nat) (cs : Array Value) (x : Value) (w : World) : Prop where
  h : w.heap[H]? = some (.cells cs 27 (0, 0))
  x : w.heap[H + 1]? = some (.cells #[x] 34 (0, 0))
theorem ld_of {w : World} {H : Nat} (hb : Bx H w) (c0 c1 c2 c3 c4 c5 c6 c7 c8 c9 x : Value) :
    Ld H #[c0, c1, c2, c3, c4, c5, c6, c7, c8, c9] x (((((((((((w.setCell ⟨H, 0, none⟩ c0).setCell ⟨H, 1, none⟩ c1).setCell ⟨H, 2, none⟩ c2).setCell ⟨H, 3, none⟩ c3).setCell ⟨H, 4, none⟩ c4).setCell ⟨H, 5, none⟩ c5).setCell ⟨H, 6, none⟩ c6).setCell ⟨H, 7, none⟩ c7).setCell ⟨H, 8, none⟩ c8).setCell ⟨H, 9, none⟩ c9).setCell ⟨H + 1, 0, none⟩ x) ∧ Below H w (((((((((((w.setCell ⟨H, 0, none⟩ c0).setCell ⟨H, 1, none⟩ c1).setCell ⟨H, 2, none⟩ c2).setCell ⟨H, 3, none⟩ c3).setCell ⟨H, 4, none⟩ c4).setCell ⟨H, 5, none⟩ c5).setCell ⟨H, 6, none⟩ c6).setCell ⟨H, 7, none⟩ c7).setCell ⟨H, 8, none⟩ c8).setCell ⟨H, 9, none⟩ c9).setCell ⟨H + 1, 0, none⟩ x) ∧ (∀ k, k < w.heap.size → k ≠ H → k ≠ H + 1 → (((((((((((w.setCell ⟨H, 0, none⟩ c0).setCell ⟨H, 1, none⟩ c1).setCell ⟨H, 2, none⟩ c2).setCell ⟨H, 3, none⟩ c3).setCell ⟨H, 4, none⟩ c4).setCell ⟨H, 5, none⟩ c5).setCell ⟨H, 6, none⟩ c6).setCell ⟨H, 7, none⟩ c7).setCell ⟨H, 8, none⟩ c8).setCell ⟨H, 9, none⟩ c9).setCell ⟨H + 1, 0, none⟩ x).heap[k]? = w.heap[k]?) := by
  obtain ⟨⟨z0, z1, z2, z3, z4, z5, z6, z7, z8, z9, hh⟩, v, hx⟩ := hb
  obtain ⟨hG, hB⟩ := chain10q c0 c1 c2 c3 c4 c5 c6 c7 c8 c9 hh
  have hx2 := hB.block (H + 1) (Array.getElem?_eq_some_iff.1 hx).1 (by omega)
  rw [hx] at hx2
  generalize ((((((((((w.setCell ⟨H, 0, none⟩ c0).setCell ⟨H, 1, none⟩ c1).setCell ⟨H, 2, none⟩ c2).setCell ⟨H, 3, none⟩ c3).setCell ⟨H, 4, none⟩ c4).setCell ⟨H, 5, none⟩ c5).setCell ⟨H, 6, none⟩ c6).setCell ⟨H, 7, none⟩ c7).setCell ⟨H, 8, none⟩ c8).setCell ⟨H, 9, none⟩ c9) = w8 at *
  have e := heap_setCell_same w8 (H + 1) 0 _ 34 x hx2
  simp at e
  have hb2 := But.set w8 (H + 1) 0 x
  refine ⟨⟨by rw [hb2.block H (Array.getElem?_eq_some_iff.1 hG).1 (by omega)]; exact hG, e⟩, ⟨hb2.os.trans hB.os, hb2.tape.trans hB.tape, hb2.output.trans hB.output, Nat.le_trans hB.size hb2.size, fun k hk => ?_⟩, fun k hk h1 h2 => (hb2.block k (Nat.lt_of_lt_of_le hk hB.size) h2).trans (hB.block k hk h1)⟩
  have hkl : k < w.heap.size := by have := (Array.getElem?_eq_some_iff.1 hx).1; omega
  exact (hb2.block k (Nat.lt_of_lt_of_le hkl hB.size) (by omega)).trans (hB.block k hkl (by omega))
theorem ld_drew {H : Nat} {cs : Array Value} {x : Value} {w w' : World} (h : Ld H cs x w') (hb : Below H w w') : Ld H cs x w'.drew ∧ Below H w w'.drew := ⟨⟨h.h, h.x⟩, hb.drew⟩
/-- No params. -/
def zP : Array Value := #[.int .i64 0, .int .i64 0, .bool false, .bool false, .bool false, .slice none 0 0, .slice none 0 0, .slice none 0 0, .int .i64 0, .slice none 0 0]

set_option maxRecDepth 20000 in
set_option maxHeartbeats 2000000 in
theorem pcatch_idle (H : Nat) (w : World) :
    CallsD Tryd.prog 33 #[.pointer (some ⟨H, 0, none⟩), .pointer (some ⟨H + 1, 0, none⟩)] .returning w fun e u' w' => e = .returned (.tuple #[]) ∧ u' = .returning ∧ w = w' := by
  refine callsD_of_wpS Tryd.func33 rfl fun c₀ cs hu => ?_
  apply wpS_seq
  apply wpS_region
  simp [wpOpsS, go_sem, recoverD, hu, Tryd.ntmps33, Exit.thenS]
  apply wpS_seq
  apply wpS_region
  simp [wpOpsS, go_sem, Exit.thenS]
  refine wpS_cond (t := false) (by simp [Act.eval, Array.replicate]) ?_
  simp only [Bool.false_eq_true, if_false]
  refine wpS_of_wp (wp_skip ?_)
  cases c₀
  simp_all [bodyPostS, results, Tryd.results33]

set_option maxRecDepth 20000 in
set_option maxHeartbeats 2000000 in
theorem pcatch_panicking (H : Nat) (w : World) (k : Int) (hb : Bx H w) :
    CallsD Tryd.prog 33 #[.pointer (some ⟨H, 0, none⟩), .pointer (some ⟨H + 1, 0, none⟩)] (.panicking [{ v := .iface 34 (.int .i64 k), recovered := false }]) w fun e u' w' => e = .returned (.tuple #[]) ∧ u' = .panicking [{ v := .iface 34 (.int .i64 k), recovered := true }] ∧ Ld H zP (.int .i64 k) w' ∧ Below H w w' := by
  have hld := ld_of hb (.int .i64 0) (.int .i64 0) (.bool false) (.bool false) (.bool false) (.slice none 0 0) (.slice none 0 0) (.slice none 0 0) (.int .i64 0) (.slice none 0 0) (.int .i64 k)
  have HL := Lib.hid (ld_drew hld.1 hld.2.1)
  clear hld
  obtain ⟨⟨z0, z1, z2, z3, z4, z5, z6, z7, z8, z9, hh⟩, v, hx⟩ := hb
  have hcc := fun i => cell_of_row w H i _ 27 (0, 0) hh
  have a0 := hcc 0
  have a1 := hcc 1
  have a2 := hcc 2
  have a3 := hcc 3
  have a4 := hcc 4
  have a5 := hcc 5
  have a6 := hcc 6
  have a7 := hcc 7
  have a8 := hcc 8
  have a9 := hcc 9
  have af : ∀ j, w.frozen? ⟨H, j, none⟩ = false := fun j => by simp [World.frozen?, hh]
  have b2 := cell_of_row w (H + 1) 0 _ 34 (0, 0) hx
  have g2 : w.frozen? ⟨H + 1, 0, none⟩ = false := by simp [World.frozen?, hx]
  clear hcc
  have hta := assert_errnoP k
  refine callsD_of_wpS Tryd.func33 rfl fun c₀ cs hu => ?_
  apply wpS_seq
  apply wpS_region
  simp [wpOpsS, go_sem, recoverD, hu, Tryd.ntmps33, Exit.thenS]
  apply wpS_seq
  apply wpS_region
  simp [wpOpsS, go_sem, Exit.thenS]
  refine wpS_cond (t := true) (by simp [Act.eval, Array.replicate]) ?_
  simp only [if_true]
  refine wpS_of_wp ?_
  simp [Array.replicate]
  go_region
  all_goals
    refine ⟨rfl, _, rfl, .tuple #[], ?_, rfl, rfl, HL.out⟩
    simp [results, Tryd.results33, go_sem]
set_option maxRecDepth 20000 in
theorem pread_results (tmps : Array Value) (w : World) (H : Nat) (c0 c1 c2 c3 c4 c5 c6 c7 c8 c9 : Value) (x : Int) (h2 : tmps[2]?.getD undef = .pointer (some ⟨H, 0, none⟩)) (h3 : tmps[3]?.getD undef = .pointer (some ⟨H + 1, 0, none⟩)) (hL : Ld H #[c0, c1, c2, c3, c4, c5, c6, c7, c8, c9] (.int .i64 x) w) :
    (results Tryd.f16 tmps).run Tryd.prog w = .ok (.tuple #[.agg #[c0, c1, c2, c3, c4, c5, c6, c7, c8, c9], .int .i64 x]) w := by
  have hcc := fun i => cell_of_row w H i _ 27 (0, 0) hL.h
  have a0 := hcc 0
  have a1 := hcc 1
  have a2 := hcc 2
  have a3 := hcc 3
  have a4 := hcc 4
  have a5 := hcc 5
  have a6 := hcc 6
  have a7 := hcc 7
  have a8 := hcc 8
  have a9 := hcc 9
  clear hcc
  have b2 := cell_of_row w (H + 1) 0 _ 34 (0, 0) hL.x
  simp [results, Tryd.results16, h2, h3, asAddr, a0, a1, a2, a3, a4, a5, a6, a7, a8, a9, b2, go_sem]
/-- Behind a return: the results are those that the boxes hold. -/
theorem pdoor_idle (tmps : Array Value) (w : World) (H : Nat) (c0 c1 c2 c3 c4 c5 c6 c7 c8 c9 : Value) (x : Int) (h2 : tmps[2]?.getD undef = .pointer (some ⟨H, 0, none⟩)) (h3 : tmps[3]?.getD undef = .pointer (some ⟨H + 1, 0, none⟩))
    (hL : Ld H #[c0, c1, c2, c3, c4, c5, c6, c7, c8, c9] (.int .i64 x) w) {R : Ending → World → Prop} (hR : R (.returned (.tuple #[.agg #[c0, c1, c2, c3, c4, c5, c6, c7, c8, c9], .int .i64 x])) w) :
    bodyPostD Tryd.prog Tryd.f16 R .ret ⟨tmps, [{ target := Target.fn (Fn.func 33) #[.pointer (some ⟨H, 0, none⟩), .pointer (some ⟨H + 1, 0, none⟩)], args := #[] }]⟩ w := by
  refine leaves_cons (f := 33) (args := #[.pointer (some ⟨H, 0, none⟩), .pointer (some ⟨H + 1, 0, none⟩)]) (by simp) (by simp [go_sem]) ?_
  refine (pcatch_idle H w).mono ?_
  rintro e' u' w'' ⟨rfl, rfl, rfl⟩
  exact ⟨_, pread_results tmps w H c0 c1 c2 c3 c4 c5 c6 c7 c8 c9 x h2 h3 hL, hR⟩
/-- Behind a panic of an error's number: no params, and the error. -/
theorem pdoor_panic (tmps : Array Value) (w : World) (H : Nat) (k : Int) (hB : Bx H w) (h2 : tmps[2]?.getD undef = .pointer (some ⟨H, 0, none⟩)) (h3 : tmps[3]?.getD undef = .pointer (some ⟨H + 1, 0, none⟩))
    {R : Ending → World → Prop} (hR : ∀ w', Below H w w' → R (.returned (.tuple #[.agg zP, .int .i64 k])) w') :
    bodyPostD Tryd.prog Tryd.f16 R (.panic [{ v := .iface 34 (.int .i64 k), recovered := false }]) ⟨tmps, [{ target := Target.fn (Fn.func 33) #[.pointer (some ⟨H, 0, none⟩), .pointer (some ⟨H + 1, 0, none⟩)], args := #[] }]⟩ w := by
  refine leaves_cons (f := 33) (args := #[.pointer (some ⟨H, 0, none⟩), .pointer (some ⟨H + 1, 0, none⟩)]) (by simp) (by simp [go_sem]) ?_
  refine (pcatch_panicking H w k hB).mono ?_
  rintro e' u' w'' ⟨rfl, rfl, hL, hb⟩
  exact ⟨_, pread_results tmps w'' H _ _ _ _ _ _ _ _ _ _ k h2 h3 hL, hR w'' hb⟩
end Go.Proofs.YtmglhlfjddgllaaDoor
namespace Go.Proofs.YtmglhlfjddgllaaDoor
open Go Go.RowKit

/-- What Read tells of bytes: params, an error's number. -/
def resP (zs : List Int) : Pv × Int := if 500 < zs.length then (p0, 4) else match readP zs with | some p => (p, 0) | none => (p0, 3)
theorem pr_zero (w : World) : Pr w p0 (.slice none 0 0) (.slice none 0 0) (.slice none 0 0) (.slice none 0 0) := ⟨Rd.nil w, Rd.nil w, Rd.nil w, Ri.nil w⟩
def RPost (zs : List Int) (w : World) (e : Ending) (w' : World) : Prop :=
  ∃ v5 v6 v7 v9, e = .returned (.tuple #[pAgg (resP zs).1 v5 v6 v7 v9, .int .i64 (resP zs).2]) ∧ Pr w' (resP zs).1 v5 v6 v7 v9 ∧ Below w.heap.size w w'
theorem rpost_no {zs : List Int} {w w' : World} {k : Int} (h : resP zs = (p0, k)) (hb : Below w.heap.size w w') : RPost zs w (.returned (.tuple #[.agg zP, .int .i64 k])) w' :=
  ⟨.slice none 0 0, .slice none 0 0, .slice none 0 0, .slice none 0 0, by rw [h]; rfl, by rw [h]; exact pr_zero _, hb⟩
end Go.Proofs.YtmglhlfjddgllaaDoor
