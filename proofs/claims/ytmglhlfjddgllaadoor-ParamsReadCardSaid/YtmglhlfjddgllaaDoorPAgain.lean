/- ParamsAgain: what is read is written as it was: the walk. -/
import Derived.Test.YtmglhlfjddgllaaDoorPRd7
import Derived.Defers
import Derived.Recover
import Derived.Test.YtmglhlfjddgllaaDoorPAwk
import Derived.Test.YtmglhlfjddgllaaDoorRInv
import Derived.Test.YtmglhlfjddgllaaDoorPIn
namespace Go.Proofs.YtmglhlfjddgllaaDoor
open Go Go.RowKit

/-- Ten stores, one behind the other. -/
theorem chain10q {w : World} {G T : Nat} {z0 z1 z2 z3 z4 z5 z6 z7 z8 z9 : Value} (c0 c1 c2 c3 c4 c5 c6 c7 c8 c9 : Value) (h : w.heap[G]? = some (.cells #[z0, z1, z2, z3, z4, z5, z6, z7, z8, z9] T (0, 0))) :
    ((((((((((w.setCell ⟨G, 0, none⟩ c0).setCell ⟨G, 1, none⟩ c1).setCell ⟨G, 2, none⟩ c2).setCell ⟨G, 3, none⟩ c3).setCell ⟨G, 4, none⟩ c4).setCell ⟨G, 5, none⟩ c5).setCell ⟨G, 6, none⟩ c6).setCell ⟨G, 7, none⟩ c7).setCell ⟨G, 8, none⟩ c8).setCell ⟨G, 9, none⟩ c9).heap[G]? = some (.cells #[c0, c1, c2, c3, c4, c5, c6, c7, c8, c9] T (0, 0)) ∧ But G w ((((((((((w.setCell ⟨G, 0, none⟩ c0).setCell ⟨G, 1, none⟩ c1).setCell ⟨G, 2, none⟩ c2).setCell ⟨G, 3, none⟩ c3).setCell ⟨G, 4, none⟩ c4).setCell ⟨G, 5, none⟩ c5).setCell ⟨G, 6, none⟩ c6).setCell ⟨G, 7, none⟩ c7).setCell ⟨G, 8, none⟩ c8).setCell ⟨G, 9, none⟩ c9) := by
  have e0 := heap_setCell_same _ G 0 _ T c0 h
  simp only [List.setIfInBounds_toArray, List.set_cons_zero] at e0
  have e1 := heap_setCell_same _ G 1 _ T c1 e0
  simp only [List.setIfInBounds_toArray, List.set_cons_zero, List.set_cons_succ] at e1
  have e2 := heap_setCell_same _ G 2 _ T c2 e1
  simp only [List.setIfInBounds_toArray, List.set_cons_zero, List.set_cons_succ] at e2
  have e3 := heap_setCell_same _ G 3 _ T c3 e2
  simp only [List.setIfInBounds_toArray, List.set_cons_zero, List.set_cons_succ] at e3
  have e4 := heap_setCell_same _ G 4 _ T c4 e3
  simp only [List.setIfInBounds_toArray, List.set_cons_zero, List.set_cons_succ] at e4
  have e5 := heap_setCell_same _ G 5 _ T c5 e4
  simp only [List.setIfInBounds_toArray, List.set_cons_zero, List.set_cons_succ] at e5
  have e6 := heap_setCell_same _ G 6 _ T c6 e5
  simp only [List.setIfInBounds_toArray, List.set_cons_zero, List.set_cons_succ] at e6
  have e7 := heap_setCell_same _ G 7 _ T c7 e6
  simp only [List.setIfInBounds_toArray, List.set_cons_zero, List.set_cons_succ] at e7
  have e8 := heap_setCell_same _ G 8 _ T c8 e7
  simp only [List.setIfInBounds_toArray, List.set_cons_zero, List.set_cons_succ] at e8
  have e9 := heap_setCell_same _ G 9 _ T c9 e8
  simp only [List.setIfInBounds_toArray, List.set_cons_zero, List.set_cons_succ] at e9
  exact ⟨e9, (((((((((But.set w G 0 c0).trans (But.set _ G 1 c1)).trans (But.set _ G 2 c2)).trans (But.set _ G 3 c3)).trans (But.set _ G 4 c4)).trans (But.set _ G 5 c5)).trans (But.set _ G 6 c6)).trans (But.set _ G 7 c7)).trans (But.set _ G 8 c8)).trans (But.set _ G 9 c9)⟩

theorem assert_errnoP (k : Int) (w : World) : (Instr.typeAssert (.iface 34 (.int .i64 k)) 20 34 false).run Tryd.prog w = .ok (.int .i64 k) w := by
  kernel_rfl
/-- The two result boxes, one behind the other. -/
structure Bx (H : Nat) (w : World) : Prop where
  h : ∃ z0 z1 z2 z3 z4 z5 z6 z7 z8 z9, w.heap[H]? = some (.cells #[z0, z1, z2, z3, z4, z5, z6, z7, z8, z9] 27 (0, 0))
  x : ∃ v, w.heap[H + 1]? = some (.cells #[v] 34 (0, 0))
theorem Bx.keep {H : Nat} {w w' : World} (h : Bx H w) (h0 : w'.heap[H]? = w.heap[H]?) (h1 : w'.heap[H + 1]? = w.heap[H + 1]?) : Bx H w' := ⟨by rw [h0]; exact h.h, by rw [h1]; exact h.x⟩
/-- What they hold. -/
structure Ld (H : Nat) (cs : Array Value) (x : Value) (w : World) : Prop where
  h : w.heap[H]? = some (.cells cs 27 (0, 0))
  x : w.heap[H + 1]? = some (.cells #[x] 34 (0, 0))
theorem ld_of {w : World} {H : Nat} (hb : Bx H w) (c0 c1 c2 c3 c4 c5 c6 c7 c8 c9 x : Value) :
    Ld H #[c0, c1, c2, c3, c4, c5, c6, c7, c8, c9] x (((((((((((w.setCell ⟨H, 0, none⟩ c0).setCell ⟨H, 1, none⟩ c1).setCell ⟨H, 2, none⟩ c2).setCell ⟨H, 3, none⟩ c3).setCell ⟨H, 4, none⟩ c4).setCell ⟨H, 5, none⟩ c5).setCell ⟨H, 6, none⟩ c6).setCell ⟨H, 7, none⟩ c7).setCell ⟨H, 8, none⟩ c8).setCell ⟨H, 9, none⟩ c9).setCell ⟨H + 1, 0, none⟩ x) ∧ Below H w (((((((((((w.setCell ⟨H, 0, none⟩ c0).setCell ⟨H, 1, none⟩ c1).setCell ⟨H, 2, none⟩ c2).setCell ⟨H, 3, none⟩ c3).setCell ⟨H, 4, none⟩ c4).setCell ⟨H, 5, none⟩ c5).setCell ⟨H, 6, none⟩ c6).setCell ⟨H, 7, none⟩ c7).setCell ⟨H, 8, none⟩ c8).setCell ⟨H, 9, none⟩ c9).setCell ⟨H + 1, 0, none⟩ x) ∧ (∀ k, k < w.heap.size → k ≠ H → k ≠ H + 1 → (((((((((((w.setCell ⟨H, 0, none⟩ c0).setCell ⟨H, 1, none⟩ c1).setCell ⟨H, 2, none⟩ c2).setCell ⟨H, 3, none⟩ c3).setCell ⟨H, 4, none⟩ c4).setCell ⟨H, 5, none⟩ c5).setCell ⟨H, 6, none⟩ c6).setCell ⟨H, 7, none⟩ c7).setCell ⟨H, 8, none⟩ c8).setCell ⟨H, 9, none⟩ c9).setCell ⟨H + 1, 0, none⟩ x).heap[k]? = w.heap[k]?) := by
  obtain ⟨⟨z0, z1, z2, z3, z4, z5, z6, z7, z8, z9, hh⟩, v, hx⟩ := hb
  obtain ⟨hG, hB⟩ := chain10q c0 c1 c2 c3 c4 c5 c6 c7 c8 c9 hh
  have hx2 := hB.block (H + 1) (Array.getElem?_eq_some_iff.1 hx).1 (by omega)
  rw [hx] at hx2
  generalize ((((((((((w.setCell ⟨H, 0, none⟩ c0).setCell ⟨H, 1, none⟩ c1).setCell ⟨H, 2, none⟩ c2).setCell ⟨H, 3, none⟩ c3).setCell ⟨H, 4, none⟩ c4).setCell ⟨H, 5, none⟩ c5).setCell ⟨H, 6, none⟩ c6).setCell ⟨H, 7, none⟩ c7).setCell ⟨H, 8, none⟩ c8).setCell ⟨H, 9, none⟩ c9) = w8 at *
  have e := heap_setCell_same w8 (H + 1) 0 _ 34 x hx2
  simp at e
  have hb2 := But.set w8 (H + 1) 0 x
  refine ⟨⟨by rw [hb2.block H (Array.getElem?_eq_some_iff.1 hG).1 (by omega)]; exact hG, e⟩, ⟨hb2.os.trans hB.os, hb2.tape.trans hB.tape, hb2.output.trans hB.output, Nat.le_trans hB.size hb2.size, fun k hk => ?_⟩, fun k hk h1 h2 => (hb2.block k (Nat.lt_of_lt_of_le hk hB.size) h2).trans (hB.block k hk h1)⟩
  have hkl : k < w.heap.size := by have := (Array.getElem?_eq_some_iff.1 hx).1; omega
  exact (hb2.block k (Nat.lt_of_lt_of_le hkl hB.size) (by omega)).trans (hB.block k hkl (by omega))
theorem ld_drew {H : Nat} {cs : Array Value} {x : Value} {w w' : World} (h : Ld H cs x w') (hb : Below H w w') : Ld H cs x w'.drew ∧ Below H w w'.drew := ⟨⟨h.h, h.x⟩, hb.drew⟩
/-- No params. -/
def zP : Array Value := #[.int .i64 0, .int .i64 0, .bool false, .bool false, .bool false, .slice none 0 0, .slice none 0 0, .slice none 0 0, .int .i64 0, .slice none 0 0]

set_option maxRecDepth 20000 in
set_option maxHeartbeats 2000000 in
theorem pcatch_idle (H : Nat) (w : World) :
    CallsD Tryd.prog 33 #[.pointer (some ⟨H, 0, none⟩), .pointer (some ⟨H + 1, 0, none⟩)] .returning w fun e u' w' => e = .returned (.tuple #[]) ∧ u' = .returning ∧ w = w' := by
  refine callsD_of_wpS Tryd.func33 rfl fun c₀ cs hu => ?_
  apply wpS_seq
  apply wpS_region
  simp [wpOpsS, go_sem, recoverD, hu, Tryd.ntmps33, Exit.thenS]
  apply wpS_seq
  apply wpS_region
  simp [wpOpsS, go_sem, Exit.thenS]
  refine wpS_cond (t := false) (by simp [Act.eval, Array.replicate]) ?_
  simp only [Bool.false_eq_true, if_false]
  refine wpS_of_wp (wp_skip ?_)
  cases c₀
  simp_all [bodyPostS, results, Tryd.results33]

set_option maxRecDepth 20000 in
set_option maxHeartbeats 2000000 in
theorem pcatch_panicking (H : Nat) (w : World) (k : Int) (hb : Bx H w) :
    CallsD Tryd.prog 33 #[.pointer (some ⟨H, 0, none⟩), .pointer (some ⟨H + 1, 0, none⟩)] (.panicking [{ v := .iface 34 (.int .i64 k), recovered := false }]) w fun e u' w' => e = .returned (.tuple #[]) ∧ u' = .panicking [{ v := .iface 34 (.int .i64 k), recovered := true }] ∧ Ld H zP (.int .i64 k) w' ∧ Below H w w' := by
  have hld := ld_of hb (.int .i64 0) (.int .i64 0) (.bool false) (.bool false) (.bool false) (.slice none 0 0) (.slice none 0 0) (.slice none 0 0) (.int .i64 0) (.slice none 0 0) (.int .i64 k)
  have HL := Lib.hid (ld_drew hld.1 hld.2.1)
  clear hld
  obtain ⟨⟨z0, z1, z2, z3, z4, z5, z6, z7, z8, z9, hh⟩, v, hx⟩ := hb
  have hcc := fun i => cell_of_row w H i _ 27 (0, 0) hh
  have a0 := hcc 0
  have a1 := hcc 1
  have a2 := hcc 2
  have a3 := hcc 3
  have a4 := hcc 4
  have a5 := hcc 5
  have a6 := hcc 6
  have a7 := hcc 7
  have a8 := hcc 8
  have a9 := hcc 9
  have af : ∀ j, w.frozen? ⟨H, j, none⟩ = false := fun j => by simp [World.frozen?, hh]
  have b2 := cell_of_row w (H + 1) 0 _ 34 (0, 0) hx
  have g2 : w.frozen? ⟨H + 1, 0, none⟩ = false := by simp [World.frozen?, hx]
  clear hcc
  have hta := assert_errnoP k
  refine callsD_of_wpS Tryd.func33 rfl fun c₀ cs hu => ?_
  apply wpS_seq
  apply wpS_region
  simp [wpOpsS, go_sem, recoverD, hu, Tryd.ntmps33, Exit.thenS]
  apply wpS_seq
  apply wpS_region
  simp [wpOpsS, go_sem, Exit.thenS]
  refine wpS_cond (t := true) (by simp [Act.eval, Array.replicate]) ?_
  simp only [if_true]
  refine wpS_of_wp ?_
  simp [Array.replicate]
  go_region
  all_goals
    refine ⟨rfl, _, rfl, .tuple #[], ?_, rfl, rfl, HL.out⟩
    simp [results, Tryd.results33, go_sem]
set_option maxRecDepth 20000 in
theorem pread_results (tmps : Array Value) (w : World) (H : Nat) (c0 c1 c2 c3 c4 c5 c6 c7 c8 c9 : Value) (x : Int) (h2 : tmps[2]?.getD undef = .pointer (some ⟨H, 0, none⟩)) (h3 : tmps[3]?.getD undef = .pointer (some ⟨H + 1, 0, none⟩)) (hL : Ld H #[c0, c1, c2, c3, c4, c5, c6, c7, c8, c9] (.int .i64 x) w) :
    (results Tryd.f16 tmps).run Tryd.prog w = .ok (.tuple #[.agg #[c0, c1, c2, c3, c4, c5, c6, c7, c8, c9], .int .i64 x]) w := by
  have hcc := fun i => cell_of_row w H i _ 27 (0, 0) hL.h
  have a0 := hcc 0
  have a1 := hcc 1
  have a2 := hcc 2
  have a3 := hcc 3
  have a4 := hcc 4
  have a5 := hcc 5
  have a6 := hcc 6
  have a7 := hcc 7
  have a8 := hcc 8
  have a9 := hcc 9
  clear hcc
  have b2 := cell_of_row w (H + 1) 0 _ 34 (0, 0) hL.x
  simp [results, Tryd.results16, h2, h3, asAddr, a0, a1, a2, a3, a4, a5, a6, a7, a8, a9, b2, go_sem]
/-- Behind a return: the results are those that the boxes hold. -/
theorem pdoor_idle (tmps : Array Value) (w : World) (H : Nat) (c0 c1 c2 c3 c4 c5 c6 c7 c8 c9 : Value) (x : Int) (h2 : tmps[2]?.getD undef = .pointer (some ⟨H, 0, none⟩)) (h3 : tmps[3]?.getD undef = .pointer (some ⟨H + 1, 0, none⟩))
    (hL : Ld H #[c0, c1, c2, c3, c4, c5, c6, c7, c8, c9] (.int .i64 x) w) {R : Ending → World → Prop} (hR : R (.returned (.tuple #[.agg #[c0, c1, c2, c3, c4, c5, c6, c7, c8, c9], .int .i64 x])) w) :
    bodyPostD Tryd.prog Tryd.f16 R .ret ⟨tmps, [{ target := Target.fn (Fn.func 33) #[.pointer (some ⟨H, 0, none⟩), .pointer (some ⟨H + 1, 0, none⟩)], args := #[] }]⟩ w := by
  refine leaves_cons (f := 33) (args := #[.pointer (some ⟨H, 0, none⟩), .pointer (some ⟨H + 1, 0, none⟩)]) (by simp) (by simp [go_sem]) ?_
  refine (pcatch_idle H w).mono ?_
  rintro e' u' w'' ⟨rfl, rfl, rfl⟩
  exact ⟨_, pread_results tmps w H c0 c1 c2 c3 c4 c5 c6 c7 c8 c9 x h2 h3 hL, hR⟩
/-- Behind a panic of an error's number: no params, and the error. -/
theorem pdoor_panic (tmps : Array Value) (w : World) (H : Nat) (k : Int) (hB : Bx H w) (h2 : tmps[2]?.getD undef = .pointer (some ⟨H, 0, none⟩)) (h3 : tmps[3]?.getD undef = .pointer (some ⟨H + 1, 0, none⟩))
    {R : Ending → World → Prop} (hR : ∀ w', Below H w w' → R (.returned (.tuple #[.agg zP, .int .i64 k])) w') :
    bodyPostD Tryd.prog Tryd.f16 R (.panic [{ v := .iface 34 (.int .i64 k), recovered := false }]) ⟨tmps, [{ target := Target.fn (Fn.func 33) #[.pointer (some ⟨H, 0, none⟩), .pointer (some ⟨H + 1, 0, none⟩)], args := #[] }]⟩ w := by
  refine leaves_cons (f := 33) (args := #[.pointer (some ⟨H, 0, none⟩), .pointer (some ⟨H + 1, 0, none⟩)]) (by simp) (by simp [go_sem]) ?_
  refine (pcatch_panicking H w k hB).mono ?_
  rintro e' u' w'' ⟨rfl, rfl, hL, hb⟩
  exact ⟨_, pread_results tmps w'' H _ _ _ _ _ _ _ _ _ _ k h2 h3 hL, hR w'' hb⟩
end Go.Proofs.YtmglhlfjddgllaaDoor
namespace Go.Proofs.YtmglhlfjddgllaaDoor
open Go Go.RowKit

/-- What Read tells of bytes: params, an error's number. -/
def resP (zs : List Int) : Pv × Int := if 500 < zs.length then (p0, 4) else match readP zs with | some p => (p, 0) | none => (p0, 3)
theorem pr_zero (w : World) : Pr w p0 (.slice none 0 0) (.slice none 0 0) (.slice none 0 0) (.slice none 0 0) := ⟨Rd.nil w, Rd.nil w, Rd.nil w, Ri.nil w⟩
def RPost (zs : List Int) (w : World) (e : Ending) (w' : World) : Prop :=
  ∃ v5 v6 v7 v9, e = .returned (.tuple #[pAgg (resP zs).1 v5 v6 v7 v9, .int .i64 (resP zs).2]) ∧ Pr w' (resP zs).1 v5 v6 v7 v9 ∧ Below w.heap.size w w'
theorem rpost_no {zs : List Int} {w w' : World} {k : Int} (h : resP zs = (p0, k)) (hb : Below w.heap.size w w') : RPost zs w (.returned (.tuple #[.agg zP, .int .i64 k])) w' :=
  ⟨.slice none 0 0, .slice none 0 0, .slice none 0 0, .slice none 0 0, by rw [h]; rfl, by rw [h]; exact pr_zero _, hb⟩
end Go.Proofs.YtmglhlfjddgllaaDoor
namespace Go.Proofs.YtmglhlfjddgllaaDoor
open Go Go.RowKit

/-- Ten stores, one behind the other. -/
theorem chain10p {w : World} {G T : Nat} {z0 z1 z2 z3 z4 z5 z6 z7 z8 z9 : Value} (c0 c1 c2 c3 c4 c5 c6 c7 c8 c9 : Value) (h : w.heap[G]? = some (.cells #[z0, z1, z2, z3, z4, z5, z6, z7, z8, z9] T (0, 0))) :
    ((((((((((w.setCell ⟨G, 0, none⟩ c0).setCell ⟨G, 1, none⟩ c1).setCell ⟨G, 2, none⟩ c2).setCell ⟨G, 3, none⟩ c3).setCell ⟨G, 4, none⟩ c4).setCell ⟨G, 5, none⟩ c5).setCell ⟨G, 6, none⟩ c6).setCell ⟨G, 7, none⟩ c7).setCell ⟨G, 8, none⟩ c8).setCell ⟨G, 9, none⟩ c9).heap[G]? = some (.cells #[c0, c1, c2, c3, c4, c5, c6, c7, c8, c9] T (0, 0)) ∧ But G w ((((((((((w.setCell ⟨G, 0, none⟩ c0).setCell ⟨G, 1, none⟩ c1).setCell ⟨G, 2, none⟩ c2).setCell ⟨G, 3, none⟩ c3).setCell ⟨G, 4, none⟩ c4).setCell ⟨G, 5, none⟩ c5).setCell ⟨G, 6, none⟩ c6).setCell ⟨G, 7, none⟩ c7).setCell ⟨G, 8, none⟩ c8).setCell ⟨G, 9, none⟩ c9) := by
  have e0 := heap_setCell_same _ G 0 _ T c0 h
  simp only [List.setIfInBounds_toArray, List.set_cons_zero] at e0
  have e1 := heap_setCell_same _ G 1 _ T c1 e0
  simp only [List.setIfInBounds_toArray, List.set_cons_zero, List.set_cons_succ] at e1
  have e2 := heap_setCell_same _ G 2 _ T c2 e1
  simp only [List.setIfInBounds_toArray, List.set_cons_zero, List.set_cons_succ] at e2
  have e3 := heap_setCell_same _ G 3 _ T c3 e2
  simp only [List.setIfInBounds_toArray, List.set_cons_zero, List.set_cons_succ] at e3
  have e4 := heap_setCell_same _ G 4 _ T c4 e3
  simp only [List.setIfInBounds_toArray, List.set_cons_zero, List.set_cons_succ] at e4
  have e5 := heap_setCell_same _ G 5 _ T c5 e4
  simp only [List.setIfInBounds_toArray, List.set_cons_zero, List.set_cons_succ] at e5
  have e6 := heap_setCell_same _ G 6 _ T c6 e5
  simp only [List.setIfInBounds_toArray, List.set_cons_zero, List.set_cons_succ] at e6
  have e7 := heap_setCell_same _ G 7 _ T c7 e6
  simp only [List.setIfInBounds_toArray, List.set_cons_zero, List.set_cons_succ] at e7
  have e8 := heap_setCell_same _ G 8 _ T c8 e7
  simp only [List.setIfInBounds_toArray, List.set_cons_zero, List.set_cons_succ] at e8
  have e9 := heap_setCell_same _ G 9 _ T c9 e8
  simp only [List.setIfInBounds_toArray, List.set_cons_zero, List.set_cons_succ] at e9
  exact ⟨e9, (((((((((But.set w G 0 c0).trans (But.set _ G 1 c1)).trans (But.set _ G 2 c2)).trans (But.set _ G 3 c3)).trans (But.set _ G 4 c4)).trans (But.set _ G 5 c5)).trans (But.set _ G 6 c6)).trans (But.set _ G 7 c7)).trans (But.set _ G 8 c8)).trans (But.set _ G 9 c9)⟩
set_option maxRecDepth 20000 in
theorem params_results (tmps : Array Value) (w : World) (G : Nat) (c0 c1 c2 c3 c4 c5 c6 c7 c8 c9 : Value) (h2 : tmps[2]?.getD undef = .pointer (some ⟨G, 0, none⟩)) (hL : w.heap[G]? = some (.cells #[c0, c1, c2, c3, c4, c5, c6, c7, c8, c9] 27 (0, 0))) :
    (results Tryd.f35 tmps).run Tryd.prog w = .ok (.agg #[c0, c1, c2, c3, c4, c5, c6, c7, c8, c9]) w := by
  have hcc := fun i => cell_of_row w G i _ 27 (0, 0) hL
  have a0 := hcc 0
  have a1 := hcc 1
  have a2 := hcc 2
  have a3 := hcc 3
  have a4 := hcc 4
  have a5 := hcc 5
  have a6 := hcc 6
  have a7 := hcc 7
  have a8 := hcc 8
  have a9 := hcc 9
  clear hcc
  simp [results, Tryd.results35, h2, asAddr, a0, a1, a2, a3, a4, a5, a6, a7, a8, a9, go_sem]

set_option maxRecDepth 20000 in
set_option maxHeartbeats 8000000 in
theorem params_any {w0 w : World} {zs : List Int} {R B : Nat} {t : Nat} (hF : Fq w0 w B zs t 3) (hq : Rq w R B (.pointer none) p0 nilS nilS nilS nilS) (h1 : w0.heap.size ≤ B) (h2 : B < R) :
    Calls Tryd.prog 35 #[.pointer (some ⟨R, 0, none⟩)] w (PPost zs w R B) := by
  have hlt := hq.lt
  have HG0 : Hid (∀ w1, MapF w1 (w.heap.size + 1) 6 fnOf → Below (w.heap.size + 1) (w.alloc (.cells (pCells p0 nilS nilS nilS nilS) 27)) w1 → Lp w0 w zs B R w.heap.size (w.heap.size + 1) (-1) 0 zs.length (.pointer none) p0 nilS nilS nilS nilS fnOf zs t w1) := Lib.hid (by
    intro w1 hm hb
    have ha := below_alloc w (.cells (pCells p0 nilS nilS nilS nilS) 27)
    have hb' : Below w.heap.size w w1 := ha.trans (hb.mono (by omega))
    refine ⟨⟨⟨_, _, hF.keep hb'⟩, hq.below hb', hm, ?_, Kq.of_below hb', ⟨h1, h2, hlt, rfl, rfl⟩⟩, hF.keep hb', .inl ⟨rfl, rfl⟩, fun _ _ => rfl, by decide, rfl, Nat.le_refl _, by omega⟩
    rw [hb.block w.heap.size (by omega)]
    exact heap_alloc_new w _)
  have hk := takers_any (w.alloc (.cells (pCells p0 nilS nilS nilS nilS) 27))
  rw [World.size_alloc] at hk
  have HH := Lib.hid (And.intro h1 (And.intro h2 hlt))
  clear hF hq h1 h2 hlt
  go_enter Tryd.func35, Tryd.ntmps35
  dsimp only [pCells, p0, nilS] at hk
  go_wp2_with (go_at_call 48; refine hk.mono ?_; rintro e w1 ⟨rfl, hm1, hb1⟩)
  have hL := HG0.out w1 hm1 hb1
  clear HG0 hk hm1 hb1
  go_loopw [4] (fun lv wr => ∃ last m k bd p v5 v6 v7 v9 f rest t, lv = .int .i64 last ∧ Hid (Lp w0 w zs B R w.heap.size (w.heap.size + 1) last m k bd p v5 v6 v7 v9 f rest t wr)) (fun _ wr => leftW wr B)
  case atStart => exact ⟨_, _, _, _, _, _, _, _, _, _, _, _, rfl, Lib.hid hL⟩
  case round =>
    obtain ⟨last, m, k, bd, p, v5, v6, v7, v9, f, rest, t2, rfl, HL⟩ := hrel
    clear hL
    have c0 := HL.out.lc.c0
    have hleft := left_q HL.out.fq
    have hlen := HL.out.fq.sum
    by_cases hz : rest.length = 0
    · obtain rfl := List.eq_nil_of_length_eq_zero hz
      obtain ⟨hrun, hri⟩ := HL.out.done
      have HRUN := Lib.hid hrun
      have HRI := Lib.hid hri
      have hlk : ∀ {j : Int}, (Lit.int .i64 j).wf = true → (Instr.lookup 73 (.map (some (w.heap.size + 1))) (.int .i64 j) true).run Tryd.prog (wr.alloc (.cells #[.int .i64 1, .int .i64 4, .int .i64 17] 3)) = .ok (.tuple #[(f j).getD .nilFunc, .bool (f j).isSome]) (wr.alloc (.cells #[.int .i64 1, .int .i64 4, .int .i64 17] 3)) :=
        fun hj => (HL.out.lc.mp.below (below_alloc wr _)).look hj
      have k1 := hlk (wfM (k := 1) (by omega) (by omega))
      have k4 := hlk (wfM (k := 4) (by omega) (by omega))
      have k17 := hlk (wfM (k := 17) (by omega) (by omega))
      have K1 := Lib.hid k1
      have K4 := Lib.hid k4
      have K17 := Lib.hid k17
      have HC := Lib.hid (HL.out.lc.below (below_alloc wr (.cells #[.int .i64 1, .int .i64 4, .int .i64 17] 3)))
      have hx0 : (wr.alloc (.cells #[.int .i64 1, .int .i64 4, .int .i64 17] 3)).cell? ⟨wr.heap.size, 0, none⟩ = some (.int .i64 1) := by simp [go_sem]
      have hx1 : (wr.alloc (.cells #[.int .i64 1, .int .i64 4, .int .i64 17] 3)).cell? ⟨wr.heap.size, 1, none⟩ = some (.int .i64 4) := by simp [go_sem]
      have hx2 : (wr.alloc (.cells #[.int .i64 1, .int .i64 4, .int .i64 17] 3)).cell? ⟨wr.heap.size, 2, none⟩ = some (.int .i64 17) := by simp [go_sem]
      have hB1 := below_alloc wr (.cells #[.int .i64 1, .int .i64 4, .int .i64 17] 3)
      have HRI2 := Lib.hid (hri.below hB1)
      clear hrun hri hlk k1 k4 k17 hz hlen hB1
      go_wp2_with (go_at_call 49; refine hleft.mono ?_; rintro e w2 ⟨rfl, rfl⟩)
      clear hleft c0
      generalize wr.alloc (.cells #[.int .i64 1, .int .i64 4, .int .i64 17] 3) = W at *
      go_loopw [66] (fun iv w2 => ∃ i : Nat, iv = .int .i64 i ∧ i ≤ 3 ∧ W = w2 ∧ Hid ((0 < i → f 1 = none) ∧ (1 < i → f 4 = none) ∧ (2 < i → f 17 = none))) (fun iv _ => 3 - (intOf iv).toNat)
      case atStart => exact ⟨0, rfl, by omega, rfl, Lib.hid ⟨fun h => absurd h (by omega), fun h => absurd h (by omega), fun h => absurd h (by omega)⟩⟩
      case round =>
        obtain ⟨i, rfl, hi, rfl, HI⟩ := hrel
        have hi4 : i = 0 ∨ i = 1 ∨ i = 2 ∨ i = 3 := by omega
        rcases hi4 with rfl | rfl | rfl | rfl
        · have k1 := K1.out
          cases hf1 : f 1 with
          | none =>
            rw [hf1] at k1
            go_wp2_with (go_at_call 51; refine (want_yes _ _).mono ?_; rintro e w9 ⟨rfl, rfl⟩)
            go_round
            case rel => exact ⟨1, rfl, by omega, (by first | trivial | rfl), Lib.hid ⟨fun _ => (by first | trivial | exact hf1), fun h => absurd h (by omega), fun h => absurd h (by omega)⟩⟩
            case measure => simp [intOf]
          | some fv =>
            rw [hf1] at k1
            have HNO : Hid (readP zs = none) := Lib.hid (readP_lack HRUN.out fun h => by rw [h.1] at hf1; cases hf1)
            go_wp2_with (go_at_call 51; refine (want_no _ _).mono ?_; rintro e w9 ⟨he, rfl⟩; rw [errPanic] at he; subst he)
            exact ⟨rfl, .inl ⟨HNO.out, rfl, HC.out.kq⟩⟩
        · have k1 := K4.out
          cases hf1 : f 4 with
          | none =>
            rw [hf1] at k1
            go_wp2_with (go_at_call 51; refine (want_yes _ _).mono ?_; rintro e w9 ⟨rfl, rfl⟩)
            go_round
            case rel => exact ⟨2, rfl, by omega, (by first | trivial | rfl), Lib.hid ⟨fun _ => HI.out.1 (by omega), fun _ => (by first | trivial | exact hf1), fun h => absurd h (by omega)⟩⟩
            case measure => simp [intOf]
          | some fv =>
            rw [hf1] at k1
            have HNO : Hid (readP zs = none) := Lib.hid (readP_lack HRUN.out fun h => by rw [h.2.1] at hf1; cases hf1)
            go_wp2_with (go_at_call 51; refine (want_no _ _).mono ?_; rintro e w9 ⟨he, rfl⟩; rw [errPanic] at he; subst he)
            exact ⟨rfl, .inl ⟨HNO.out, rfl, HC.out.kq⟩⟩
        · have k1 := K17.out
          cases hf1 : f 17 with
          | none =>
            rw [hf1] at k1
            go_wp2_with (go_at_call 51; refine (want_yes _ _).mono ?_; rintro e w9 ⟨rfl, rfl⟩)
            go_round
            case rel => exact ⟨3, rfl, by omega, (by first | trivial | rfl), Lib.hid ⟨fun _ => HI.out.1 (by omega), fun _ => HI.out.2.1 (by omega), fun _ => (by first | trivial | exact hf1)⟩⟩
            case measure => simp [intOf]
          | some fv =>
            rw [hf1] at k1
            have HNO : Hid (readP zs = none) := Lib.hid (readP_lack HRUN.out fun h => by rw [h.2.2] at hf1; cases hf1)
            go_wp2_with (go_at_call 51; refine (want_no _ _).mono ?_; rintro e w9 ⟨he, rfl⟩; rw [errPanic] at he; subst he)
            exact ⟨rfl, .inl ⟨HNO.out, rfl, HC.out.kq⟩⟩
        · have hall : f 1 = none ∧ f 4 = none ∧ f 17 = none := ⟨HI.out.1 (by omega), HI.out.2.1 (by omega), HI.out.2.2 (by omega)⟩
          have HALL := Lib.hid hall
          have hpr : Pr W p v5 v6 v7 v9 := ⟨HC.out.rq.g, HC.out.rq.o, HC.out.rq.r, HRI2.out.rd⟩
          have hright := right_any hpr
          obtain ⟨c0, c1, c2, c3, c4, c5, c6, c7, c8, c9, c10, c11, cf⟩ := HC.out.rq.cells
          obtain ⟨a5, k5, rfl⟩ := hpr.g.shape
          obtain ⟨a6, k6, rfl⟩ := hpr.o.shape
          obtain ⟨a7, k7, rfl⟩ := hpr.r.shape
          obtain ⟨a9, k9, rfl⟩ := hpr.l.shape
          clear hall hpr hx0 hx1 hx2
          cases hr : rightP p with
          | false =>
            have HNO : Hid (readP zs = none) := Lib.hid (readP_wrong HRUN.out hr)
            rw [hr] at hright
            have HR := Lib.hid hr
            clear hr
            go_wp2_with (first
              | (go_at_call 12; refine hright.mono ?_; rintro e w3 ⟨rfl, hb3⟩)
              | (go_at_call 51; refine (want_no _ _).mono ?_; rintro e w9 ⟨he, rfl⟩; rw [errPanic] at he; subst he))
            exact ⟨rfl, .inl ⟨HNO.out, rfl, HC.out.kq.trans (Kq.of_below hb3)⟩⟩
          | true =>
            have HYES : Hid (readP zs = some p) := Lib.hid (readP_yes HRUN.out HALL.out hr)
            rw [hr] at hright
            clear hr
            go_wp2_with (first
              | (go_at_call 12; refine hright.mono ?_; rintro e w3 ⟨rfl, hb3⟩; have H3 := Lib.hid (HC.out.below hb3); obtain ⟨c0, c1, c2, c3, c4, c5, c6, c7, c8, c9, c10, c11, cf⟩ := H3.out.rq.cells; obtain ⟨g0, g1, g2, g3, g4, g5, g6, g7, g8, g9⟩ := pcells H3.out.gx; have gf : ∀ j, w3.frozen? ⟨w.heap.size, j, none⟩ = false := fun j => by simp [World.frozen?, H3.out.gx])
              | (go_at_call 51; refine (want_yes _ _).mono ?_; rintro e w9 ⟨rfl, rfl⟩))
            obtain ⟨hG, hBt⟩ := chain10p (.int .i64 p.i) (.int .i64 p.d) (.bool p.hg) (.bool p.ho) (.bool p.hr) (.slice a5 p.g.length k5) (.slice a6 p.o.length k6) (.slice a7 p.r.length k7) (.int .i64 p.c) (.slice a9 p.l.length k9) H3.out.gx
            have hnG : NoB w3 w.heap.size := noB_cells H3.out.gx (by
              intro v hv x
              simp only [nilS, List.mem_cons, List.not_mem_nil, or_false] at hv
              rcases hv with rfl | rfl | rfl | rfl | rfl | rfl | rfl | rfl | rfl | rfl <;> simp)
            refine bodyPost_ret (params_results _ _ w.heap.size _ _ _ _ _ _ _ _ _ _ rfl hG) rfl (.inr ⟨p, _, _, _, _, HYES.out, rfl, ⟨H3.out.rq.g.but hBt hnG, H3.out.rq.o.but hBt hnG, H3.out.rq.r.but hBt hnG, (HRI2.out.below hb3).but hBt (Nat.lt_succ_self _)⟩, ?_⟩)
            have hk3 := H3.out.kq
            exact ⟨hBt.os.trans hk3.os, hBt.tape.trans hk3.tape, hBt.output.trans hk3.output, Nat.le_trans hk3.size hBt.size, fun k hk1 hn hm => (hBt.block k (Nat.lt_of_lt_of_le hk1 hk3.size) (by omega)).trans (hk3.block k hk1 hn hm)⟩
    · have hpos : 0 < rest.length := by omega
      have hbyt : Byt rest := by obtain ⟨_, _, hr, _⟩ := HL.out.fq.box; exact hr.byt
      rcases rd_size hbyt with ⟨e0, ⟨en1, en2⟩, s1, es, es1, _, hs1⟩ | ⟨e1, e2, e3⟩
      · have hrd : rd rest = ((rd rest).1, (s1 : Int), 0) := by rw [← es, ← e0]
        have hn1 := number_q HL.out.fq _ s1 hrd hs1
        have HN := Lib.hid hrd
        have hwf := wfM (k := (rd rest).1) en1 (by omega)
        have HML := Lib.hid (fun (w2 : World) (h : MapF w2 (w.heap.size + 1) 6 f) => h.look hwf)
        by_cases hok : last < (rd rest).1 ∧ ∃ fv, fnOf (rd rest).1 = some fv
        · obtain ⟨hl, fv, hfv⟩ := hok
          obtain ⟨F, rfl, tk, hn17⟩ := fn_tk hfv
          have hfn : f (rd rest).1 = some (.func (.func F) #[] #[]) := by rw [HL.out.up _ hl]; exact hfv
          have hl9 : v9 = nilS ∧ p.l = [] := by
            rcases HL.out.l9 with h | ⟨h, _⟩
            · exact h
            · omega
          obtain ⟨rfl, hpl⟩ := hl9
          have HPL := Lib.hid hpl
          have HFN := Lib.hid hfn
          have hlt : decide (last < (rd rest).1) = true := decide_eq_true hl
          have hby1 := hbyt.drop s1
          have HE0 := Lib.hid e0
          have HES := Lib.hid es
          clear hpl hrd HN HML e0 es hfv
          generalize hN1 : (rd rest).1 = n1 at *
          have HN1 := Lib.hid hN1
          clear hN1
          rcases rd_size hby1 with ⟨g0, ⟨gn1, gn2⟩, s2, gs, gs1, _, hs2⟩ | ⟨g1, g2, g3⟩
          · have hrd2 : rd (rest.drop s1) = ((rd (rest.drop s1)).1, (s2 : Int), 0) := by rw [← gs, ← g0]
            by_cases hsh : (((rest.drop s1).drop s2).length : Int) < (rd (rest.drop s1)).1
            · have HNO : Hid (readP zs = none) := Lib.hid (readP_no (by
                rw [HL.out.run]; refine rf_cut hpos (cut_no3 ?_)
                rw [HES.out, Int.toNat_natCast, gs, Int.toNat_natCast]; omega))
              have HSH := Lib.hid hsh
              clear hsh gs gs1 g0 gn1 gn2
              have HRD2 := Lib.hid hrd2
              clear hrd2
              generalize (rd (rest.drop s1)).1 = N2 at *
              go_wp2_with (first
          | (go_at_call 49; refine hleft.mono ?_; rintro e w1 ⟨rfl, rfl⟩)
            | (go_at_call 50; refine hn1.mono ?_; rintro e w2 ⟨rfl, hF2, hb2⟩; have HC := Lib.hid (HL.out.lc.but hb2 hF2); have hlk := HC.out.mp.look hwf; rw [hfn] at hlk; have c0 := HC.out.c0)
            | (go_at_call 51; refine (want_yes _ _).mono ?_; rintro e w3 ⟨rfl, rfl⟩))
              have hn2 := number_q hF2.drew _ s2 HRD2.out hs2
              clear hF2
              refine wp_region_held_drew (S := fun w' => w'.cell? ⟨R, 0, none⟩ = some (.pointer (some ⟨B, 0, none⟩))) (by kernel_rfl) c0 (fun _ => ?_)
              refine wpAnyH_take (i := 0) (oi := { dst := some 37, op := Op.move (Operand.tmp 0), type := 72, pos := "reader.go:34", after := #[], guard := none }) (v := ?_) rfl (by kernel_rfl) (by kernel_rfl) (by kernel_rfl) (fun _ _ _ h => h) (Or.inl ⟨by rfl, ?_⟩) (by exact c0) ?_
              rotate_left
              · intro w hSw; (try dsimp only at hSw); go_simp; try (with_reducible rfl)
              repeat (first | simp only [Act.put] | simp only [List.setIfInBounds_toArray] | simp only [List.set_cons_zero] | simp only [List.set_cons_succ])
              refine wpAnyH_take (i := 1) (oi := { dst := some 38, op := Op.move (Operand.tmp 0), type := 72, pos := "reader.go:34", after := #[], guard := none }) (v := ?_) rfl (by kernel_rfl) (by kernel_rfl) (by kernel_rfl) (fun _ _ _ h => h) (Or.inl ⟨by rfl, ?_⟩) (by exact c0) ?_
              rotate_left
              · intro w hSw; (try dsimp only at hSw); go_simp; try (with_reducible rfl)
              repeat (first | simp only [Act.put] | simp only [List.setIfInBounds_toArray] | simp only [List.set_cons_zero] | simp only [List.set_cons_succ])
              refine wpAnyH_take (i := 2) (oi := { dst := some 39, op := Op.nilCheck (Operand.tmp 38), type := 0, pos := "reader.go:34", after := #[{ on := 1, ground := Ground.data }], guard := none }) (v := ?_) rfl (by kernel_rfl) (by kernel_rfl) (by kernel_rfl) (fun _ _ _ h => h) (Or.inl ⟨by rfl, ?_⟩) (by exact c0) ?_
              rotate_left
              · intro w hSw; (try dsimp only at hSw); go_simp; try (with_reducible rfl)
              repeat (first | simp only [Act.put] | simp only [List.setIfInBounds_toArray] | simp only [List.set_cons_zero] | simp only [List.set_cons_succ])
              refine wpAnyH_take (i := 3) (oi := { dst := some 40, op := Op.fieldAddr 56 (Operand.tmp 39) 0, type := 0, pos := "reader.go:34", after := #[{ on := 2, ground := Ground.data }], guard := none }) (v := ?_) rfl (by kernel_rfl) (by kernel_rfl) (by kernel_rfl) (fun _ _ _ h => h) (Or.inl ⟨by rfl, ?_⟩) (by exact c0) ?_
              rotate_left
              · intro w hSw; (try dsimp only at hSw); go_simp; try (with_reducible rfl)
              repeat (first | simp only [Act.put] | simp only [List.setIfInBounds_toArray] | simp only [List.set_cons_zero] | simp only [List.set_cons_succ])
              refine wpAnyH_take (i := 4) (oi := { dst := some 41, op := Op.load 53 (Operand.tmp 40), type := 53, pos := "reader.go:34", after := #[{ on := 3, ground := Ground.data }], guard := none }) (v := ?_) rfl (by kernel_rfl) (by kernel_rfl) (by kernel_rfl) (fun _ _ _ h => h) (Or.inl ⟨by rfl, ?_⟩) (by exact c0) ?_
              rotate_left
              · intro w hSw; (try dsimp only at hSw); go_simp; try (with_reducible rfl)
              repeat (first | simp only [Act.put] | simp only [List.setIfInBounds_toArray] | simp only [List.set_cons_zero] | simp only [List.set_cons_succ])
              refine wpAnyH_take (i := 5) (oi := { dst := some 42, op := Op.move (Operand.tmp 0), type := 72, pos := "reader.go:34", after := #[], guard := none }) (v := ?_) rfl (by kernel_rfl) (by kernel_rfl) (by kernel_rfl) (fun _ _ _ h => h) (Or.inl ⟨by rfl, ?_⟩) (by exact c0) ?_
              rotate_left
              · intro w hSw; (try dsimp only at hSw); go_simp; try (with_reducible rfl)
              repeat (first | simp only [Act.put] | simp only [List.setIfInBounds_toArray] | simp only [List.set_cons_zero] | simp only [List.set_cons_succ])
              refine wpAnyH_take (i := 6) (oi := { dst := some 43, op := Op.nilCheck (Operand.tmp 42), type := 0, pos := "reader.go:34", after := #[{ on := 5, ground := Ground.data }], guard := none }) (v := ?_) rfl (by kernel_rfl) (by kernel_rfl) (by kernel_rfl) (fun _ _ _ h => h) (Or.inl ⟨by rfl, ?_⟩) (by exact c0) ?_
              rotate_left
              · intro w hSw; (try dsimp only at hSw); go_simp; try (with_reducible rfl)
              repeat (first | simp only [Act.put] | simp only [List.setIfInBounds_toArray] | simp only [List.set_cons_zero] | simp only [List.set_cons_succ])
              refine wpAnyH_take (i := 7) (oi := { dst := some 44, op := Op.fieldAddr 56 (Operand.tmp 43) 0, type := 0, pos := "reader.go:34", after := #[{ on := 6, ground := Ground.data }], guard := none }) (v := ?_) rfl (by kernel_rfl) (by kernel_rfl) (by kernel_rfl) (fun _ _ _ h => h) (Or.inl ⟨by rfl, ?_⟩) (by exact c0) ?_
              rotate_left
              · intro w hSw; (try dsimp only at hSw); go_simp; try (with_reducible rfl)
              repeat (first | simp only [Act.put] | simp only [List.setIfInBounds_toArray] | simp only [List.set_cons_zero] | simp only [List.set_cons_succ])
              refine wpAnyH_take (i := 8) (oi := { dst := some 45, op := Op.load 53 (Operand.tmp 44), type := 53, pos := "reader.go:34", after := #[{ on := 7, ground := Ground.data }], guard := none }) (v := ?_) rfl (by kernel_rfl) (by kernel_rfl) (by kernel_rfl) (fun _ _ _ h => h) (Or.inl ⟨by rfl, ?_⟩) (by exact c0) ?_
              rotate_left
              · intro w hSw; (try dsimp only at hSw); go_simp; try (with_reducible rfl)
              repeat (first | simp only [Act.put] | simp only [List.setIfInBounds_toArray] | simp only [List.set_cons_zero] | simp only [List.set_cons_succ])
              refine wpAnyH_ready (rs := [9]) (by kernel_rfl) (by simp) ?_
              refine AllReadyH.cons (o := { dst := some 46, op := Op.call { callee := Callee.value (Operand.func 50), args := #[Operand.tmp 45], argTypes := #[53] }, type := 3, pos := "reader.go:34", after := #[{ on := 8, ground := Ground.data }], guard := none }) rfl (fun K hK => ?_) AllReadyH.nil
              go_simp
              refine hn2.mono ?_
              rintro e w3 ⟨rfl, hF3, hb3⟩
              have h3 := HC.out.but ((But.refl B w2).drew.trans hb3) hF3
              have k3 := h3.c0
              refine hK.out _ _ k3 (fun _ => ?_)
              clear hK K
              repeat (first | simp only [Act.put] | simp only [List.setIfInBounds_toArray] | simp only [List.set_cons_zero] | simp only [List.set_cons_succ])
              refine wpAnyH_ready (rs := [10]) (by kernel_rfl) (by simp) ?_
              refine AllReadyH.cons (o := { dst := some 47, op := Op.call { callee := Callee.value (Operand.func 52), args := #[Operand.tmp 41, Operand.tmp 46], argTypes := #[53, 3] }, type := 22, pos := "reader.go:34", after := #[{ on := 4, ground := Ground.data }, { on := 9, ground := Ground.data }, { on := 9, ground := Ground.chain }], guard := none }) rfl (fun K hK => ?_) AllReadyH.nil
              go_simp
              have hn3 := bytes_e hF3 _ HSH.out
              refine hn3.mono ?_
              rintro e w4 ⟨he, hb4⟩
              rw [errPanic] at he
              subst he
              exact ⟨rfl, .inl ⟨HNO.out, rfl, h3.kq.trans (Kq.r hb4)⟩⟩
            · have hcut : cutP rest = some (n1, ((rest.drop s1).drop s2).take (rd (rest.drop s1)).1.toNat, ((rest.drop s1).drop s2).drop (rd (rest.drop s1)).1.toNat) := by
                have h1 := cut_yes (zs := rest) HE0.out (by rw [HES.out, Int.toNat_natCast]; exact g0) (by rw [HES.out, Int.toNat_natCast, gs, Int.toNat_natCast]; omega)
                rw [HES.out, Int.toNat_natCast, gs, Int.toNat_natCast, HN1.out] at h1
                exact h1
              have HCUT := Lib.hid hcut
              have HN2 : Hid (((rd (rest.drop s1)).1.toNat : Int) = (rd (rest.drop s1)).1) := Lib.hid (by omega)
              have HSH : Hid ((rd (rest.drop s1)).1.toNat ≤ ((rest.drop s1).drop s2).length) := Lib.hid (by omega)
              have HRD2 := Lib.hid hrd2
              clear hsh gs gs1 g0 gn1 gn2 hrd2 hcut
              generalize (rd (rest.drop s1)).1 = N2 at *
              have HVL : Hid ((((rest.drop s1).drop s2).take N2.toNat).length ≤ 1000000) := Lib.hid (by simp; omega)
              have HSL : Hid ((((rest.drop s1).drop s2).drop N2.toNat).length < rest.length) := Lib.hid (by simp; omega)
              go_wp2_with (first
          | (go_at_call 49; refine hleft.mono ?_; rintro e w1 ⟨rfl, rfl⟩)
            | (go_at_call 50; refine hn1.mono ?_; rintro e w2 ⟨rfl, hF2, hb2⟩; have HC := Lib.hid (HL.out.lc.but hb2 hF2); have hlk := HC.out.mp.look hwf; rw [hfn] at hlk; have c0 := HC.out.c0)
            | (go_at_call 51; refine (want_yes _ _).mono ?_; rintro e w3 ⟨rfl, rfl⟩))
              have hn2 := number_q hF2.drew _ s2 HRD2.out hs2
              clear hF2
              refine wp_region_held_drew (S := fun w' => w'.cell? ⟨R, 0, none⟩ = some (.pointer (some ⟨B, 0, none⟩))) (by kernel_rfl) c0 (fun _ => ?_)
              refine wpAnyH_take (i := 0) (oi := { dst := some 37, op := Op.move (Operand.tmp 0), type := 72, pos := "reader.go:34", after := #[], guard := none }) (v := ?_) rfl (by kernel_rfl) (by kernel_rfl) (by kernel_rfl) (fun _ _ _ h => h) (Or.inl ⟨by rfl, ?_⟩) (by exact c0) ?_
              rotate_left
              · intro w hSw; (try dsimp only at hSw); go_simp; try (with_reducible rfl)
              repeat (first | simp only [Act.put] | simp only [List.setIfInBounds_toArray] | simp only [List.set_cons_zero] | simp only [List.set_cons_succ])
              refine wpAnyH_take (i := 1) (oi := { dst := some 38, op := Op.move (Operand.tmp 0), type := 72, pos := "reader.go:34", after := #[], guard := none }) (v := ?_) rfl (by kernel_rfl) (by kernel_rfl) (by kernel_rfl) (fun _ _ _ h => h) (Or.inl ⟨by rfl, ?_⟩) (by exact c0) ?_
              rotate_left
              · intro w hSw; (try dsimp only at hSw); go_simp; try (with_reducible rfl)
              repeat (first | simp only [Act.put] | simp only [List.setIfInBounds_toArray] | simp only [List.set_cons_zero] | simp only [List.set_cons_succ])
              refine wpAnyH_take (i := 2) (oi := { dst := some 39, op := Op.nilCheck (Operand.tmp 38), type := 0, pos := "reader.go:34", after := #[{ on := 1, ground := Ground.data }], guard := none }) (v := ?_) rfl (by kernel_rfl) (by kernel_rfl) (by kernel_rfl) (fun _ _ _ h => h) (Or.inl ⟨by rfl, ?_⟩) (by exact c0) ?_
              rotate_left
              · intro w hSw; (try dsimp only at hSw); go_simp; try (with_reducible rfl)
              repeat (first | simp only [Act.put] | simp only [List.setIfInBounds_toArray] | simp only [List.set_cons_zero] | simp only [List.set_cons_succ])
              refine wpAnyH_take (i := 3) (oi := { dst := some 40, op := Op.fieldAddr 56 (Operand.tmp 39) 0, type := 0, pos := "reader.go:34", after := #[{ on := 2, ground := Ground.data }], guard := none }) (v := ?_) rfl (by kernel_rfl) (by kernel_rfl) (by kernel_rfl) (fun _ _ _ h => h) (Or.inl ⟨by rfl, ?_⟩) (by exact c0) ?_
              rotate_left
              · intro w hSw; (try dsimp only at hSw); go_simp; try (with_reducible rfl)
              repeat (first | simp only [Act.put] | simp only [List.setIfInBounds_toArray] | simp only [List.set_cons_zero] | simp only [List.set_cons_succ])
              refine wpAnyH_take (i := 4) (oi := { dst := some 41, op := Op.load 53 (Operand.tmp 40), type := 53, pos := "reader.go:34", after := #[{ on := 3, ground := Ground.data }], guard := none }) (v := ?_) rfl (by kernel_rfl) (by kernel_rfl) (by kernel_rfl) (fun _ _ _ h => h) (Or.inl ⟨by rfl, ?_⟩) (by exact c0) ?_
              rotate_left
              · intro w hSw; (try dsimp only at hSw); go_simp; try (with_reducible rfl)
              repeat (first | simp only [Act.put] | simp only [List.setIfInBounds_toArray] | simp only [List.set_cons_zero] | simp only [List.set_cons_succ])
              refine wpAnyH_take (i := 5) (oi := { dst := some 42, op := Op.move (Operand.tmp 0), type := 72, pos := "reader.go:34", after := #[], guard := none }) (v := ?_) rfl (by kernel_rfl) (by kernel_rfl) (by kernel_rfl) (fun _ _ _ h => h) (Or.inl ⟨by rfl, ?_⟩) (by exact c0) ?_
              rotate_left
              · intro w hSw; (try dsimp only at hSw); go_simp; try (with_reducible rfl)
              repeat (first | simp only [Act.put] | simp only [List.setIfInBounds_toArray] | simp only [List.set_cons_zero] | simp only [List.set_cons_succ])
              refine wpAnyH_take (i := 6) (oi := { dst := some 43, op := Op.nilCheck (Operand.tmp 42), type := 0, pos := "reader.go:34", after := #[{ on := 5, ground := Ground.data }], guard := none }) (v := ?_) rfl (by kernel_rfl) (by kernel_rfl) (by kernel_rfl) (fun _ _ _ h => h) (Or.inl ⟨by rfl, ?_⟩) (by exact c0) ?_
              rotate_left
              · intro w hSw; (try dsimp only at hSw); go_simp; try (with_reducible rfl)
              repeat (first | simp only [Act.put] | simp only [List.setIfInBounds_toArray] | simp only [List.set_cons_zero] | simp only [List.set_cons_succ])
              refine wpAnyH_take (i := 7) (oi := { dst := some 44, op := Op.fieldAddr 56 (Operand.tmp 43) 0, type := 0, pos := "reader.go:34", after := #[{ on := 6, ground := Ground.data }], guard := none }) (v := ?_) rfl (by kernel_rfl) (by kernel_rfl) (by kernel_rfl) (fun _ _ _ h => h) (Or.inl ⟨by rfl, ?_⟩) (by exact c0) ?_
              rotate_left
              · intro w hSw; (try dsimp only at hSw); go_simp; try (with_reducible rfl)
              repeat (first | simp only [Act.put] | simp only [List.setIfInBounds_toArray] | simp only [List.set_cons_zero] | simp only [List.set_cons_succ])
              refine wpAnyH_take (i := 8) (oi := { dst := some 45, op := Op.load 53 (Operand.tmp 44), type := 53, pos := "reader.go:34", after := #[{ on := 7, ground := Ground.data }], guard := none }) (v := ?_) rfl (by kernel_rfl) (by kernel_rfl) (by kernel_rfl) (fun _ _ _ h => h) (Or.inl ⟨by rfl, ?_⟩) (by exact c0) ?_
              rotate_left
              · intro w hSw; (try dsimp only at hSw); go_simp; try (with_reducible rfl)
              repeat (first | simp only [Act.put] | simp only [List.setIfInBounds_toArray] | simp only [List.set_cons_zero] | simp only [List.set_cons_succ])
              refine wpAnyH_ready (rs := [9]) (by kernel_rfl) (by simp) ?_
              refine AllReadyH.cons (o := { dst := some 46, op := Op.call { callee := Callee.value (Operand.func 50), args := #[Operand.tmp 45], argTypes := #[53] }, type := 3, pos := "reader.go:34", after := #[{ on := 8, ground := Ground.data }], guard := none }) rfl (fun K hK => ?_) AllReadyH.nil
              go_simp
              refine hn2.mono ?_
              rintro e w3 ⟨rfl, hF3, hb3⟩
              have h3 := HC.out.but ((But.refl B w2).drew.trans hb3) hF3
              have k3 := h3.c0
              refine hK.out _ _ k3 (fun _ => ?_)
              clear hK K
              repeat (first | simp only [Act.put] | simp only [List.setIfInBounds_toArray] | simp only [List.set_cons_zero] | simp only [List.set_cons_succ])
              refine wpAnyH_ready (rs := [10]) (by kernel_rfl) (by simp) ?_
              refine AllReadyH.cons (o := { dst := some 47, op := Op.call { callee := Callee.value (Operand.func 52), args := #[Operand.tmp 41, Operand.tmp 46], argTypes := #[53, 3] }, type := 22, pos := "reader.go:34", after := #[{ on := 4, ground := Ground.data }, { on := 9, ground := Ground.data }, { on := 9, ground := Ground.chain }], guard := none }) rfl (fun K hK => ?_) AllReadyH.nil
              go_simp
              have hn3 := bytes_q hF3 N2.toNat HSH.out
              rw [HN2.out] at hn3
              refine hn3.mono ?_
              rintro e w4 ⟨bv, rfl, ⟨hbv, hbp⟩, hF4, hb4⟩
              have h4 := h3.but hb4 hF4
              have k4 := h4.c0
              have hof := of_q (short := 3) hbv.rd hbp HVL.out
              have h5 := h4.below (below_alloc w4 (.cells #[bv, .int .i64 0, .int .i64 3] 71))
              have k5 := h5.c0
              have c15 := h5.c1
              have f5 := h5.fz
              obtain ⟨ba, bn, bc, rfl⟩ := hbp.slice
              refine hK.out _ _ k4 (fun _ => ?_)
              clear hK K
              repeat (first | simp only [Act.put] | simp only [List.setIfInBounds_toArray] | simp only [List.set_cons_zero] | simp only [List.set_cons_succ])
              refine wpAnyH_ready (rs := [11]) (by kernel_rfl) (by simp) ?_
              refine AllReadyH.cons (o := { dst := some 48, op := Op.call { callee := Callee.value (Operand.func 34), args := #[Operand.tmp 47, Operand.const (Value.int IntKind.i64 3)], argTypes := #[22, 34] }, type := 53, pos := "reader.go:34", after := #[{ on := 10, ground := Ground.data }, { on := 10, ground := Ground.chain }], guard := none }) rfl (fun K hK => ?_) AllReadyH.nil
              go_simp
              refine hof.mono ?_
              rintro e w5 ⟨rfl, hF5, rfl⟩
              refine hK.out _ _ k5 (fun _ => ?_)
              clear hK K
              repeat (first | simp only [Act.put] | simp only [List.setIfInBounds_toArray] | simp only [List.set_cons_zero] | simp only [List.set_cons_succ])
              refine wpAnyH_take (i := 12) (oi := { dst := some 49, op := Op.nilCheck (Operand.tmp 37), type := 0, pos := "reader.go:34", after := #[{ on := 0, ground := Ground.data }, { on := 0, ground := Ground.phase }, { on := 1, ground := Ground.phase }, { on := 2, ground := Ground.phase }, { on := 3, ground := Ground.phase }, { on := 4, ground := Ground.phase }, { on := 5, ground := Ground.phase }, { on := 6, ground := Ground.phase }, { on := 7, ground := Ground.phase }, { on := 8, ground := Ground.phase }, { on := 9, ground := Ground.phase }, { on := 10, ground := Ground.phase }, { on := 11, ground := Ground.phase }], guard := none }) (v := ?_) rfl (by kernel_rfl) (by kernel_rfl) (by kernel_rfl) (fun _ _ _ h => h) (Or.inl ⟨by rfl, ?_⟩) (by exact k5) ?_
              rotate_left
              · intro w hSw; (try dsimp only at hSw); go_simp; try (with_reducible rfl)
              repeat (first | simp only [Act.put] | simp only [List.setIfInBounds_toArray] | simp only [List.set_cons_zero] | simp only [List.set_cons_succ])
              refine wpAnyH_take (i := 13) (oi := { dst := some 50, op := Op.fieldAddr 56 (Operand.tmp 49) 1, type := 0, pos := "reader.go:34", after := #[{ on := 12, ground := Ground.data }, { on := 0, ground := Ground.phase }, { on := 1, ground := Ground.phase }, { on := 2, ground := Ground.phase }, { on := 3, ground := Ground.phase }, { on := 4, ground := Ground.phase }, { on := 5, ground := Ground.phase }, { on := 6, ground := Ground.phase }, { on := 7, ground := Ground.phase }, { on := 8, ground := Ground.phase }, { on := 9, ground := Ground.phase }, { on := 10, ground := Ground.phase }, { on := 11, ground := Ground.phase }], guard := none }) (v := ?_) rfl (by kernel_rfl) (by kernel_rfl) (by kernel_rfl) (fun _ _ _ h => h) (Or.inl ⟨by rfl, ?_⟩) (by exact k5) ?_
              rotate_left
              · intro w hSw; (try dsimp only at hSw); go_simp; try (with_reducible rfl)
              repeat (first | simp only [Act.put] | simp only [List.setIfInBounds_toArray] | simp only [List.set_cons_zero] | simp only [List.set_cons_succ])
              refine wpAnyH_ready (rs := [14]) (by kernel_rfl) (by simp) ?_
              refine AllReadyH.cons (o := { dst := none, op := Op.store 53 (Operand.tmp 50) (Operand.tmp 48), type := 0, pos := "reader.go:34", after := #[{ on := 13, ground := Ground.data }, { on := 11, ground := Ground.data }, { on := 11, ground := Ground.chain }, { on := 0, ground := Ground.phase }, { on := 1, ground := Ground.phase }, { on := 2, ground := Ground.phase }, { on := 3, ground := Ground.phase }, { on := 4, ground := Ground.phase }, { on := 5, ground := Ground.phase }, { on := 6, ground := Ground.phase }, { on := 7, ground := Ground.phase }, { on := 8, ground := Ground.phase }, { on := 9, ground := Ground.phase }, { on := 10, ground := Ground.phase }, { on := 11, ground := Ground.phase }], guard := none }) rfl (fun K hK => ?_) AllReadyH.nil
              go_simp
              have h6 := h5.set1 w4.heap.size
              have k6 := h6.c0
              refine hK.out _ _ k6 (fun _ => ?_)
              clear hK K
              repeat (first | simp only [Act.put] | simp only [List.setIfInBounds_toArray] | simp only [List.set_cons_zero] | simp only [List.set_cons_succ])
              refine wpAnyH_done (by kernel_rfl) ?_ _
              have hent := tk.ent
              have hdq : Dq ((w4.alloc (.cells #[.slice ba bn bc, .int .i64 0, .int .i64 3] 71)).setCell ⟨R, 1, none⟩ (.pointer (some ⟨w4.heap.size, 0, none⟩))) w4.heap.size (((rest.drop s1).drop s2).take N2.toNat) :=
                Dq.set ⟨w4, 0, rfl, hF5⟩ h5.rq.noB h4.rq.lt 1 _
              have hT := tk.does _ R B w4.heap.size p v5 v6 v7 _ h6.rq h4.rq.lt HPL.out hdq
              have H6 := Lib.hid h6
              have hF6 := (hF4.keep (below_alloc w4 (.cells #[.slice ba bn bc, .int .i64 0, .int .i64 3] 71))).but (But.set _ R 1 (.pointer (some ⟨w4.heap.size, 0, none⟩))) (by have := HH.out; omega) (by have := HH.out; omega)
              have HF6 := Lib.hid hF6
              have hsz6 : Hid (w4.heap.size < ((w4.alloc (.cells #[.slice ba bn bc, .int .i64 0, .int .i64 3] 71)).setCell ⟨R, 1, none⟩ (.pointer (some ⟨w4.heap.size, 0, none⟩))).heap.size) := Lib.hid (by simp [World.setCell])
              have HMD : Hid (w.heap.size + 1 < w4.heap.size) := Lib.hid h4.mp.lt
              clear hn2 hn3 hn1 h3 k3 h4 k4 hof h5 k5 c15 f5 h6 k6 hF3 hF4 hF5 hb3 hb4 hbv hdq hF6 hlk hb2
              generalize ((w4.alloc (.cells #[.slice ba bn bc, .int .i64 0, .int .i64 3] 71)).setCell ⟨R, 1, none⟩ (.pointer (some ⟨w4.heap.size, 0, none⟩))) = w6 at *
              generalize w4.heap.size = D at *
              go_wp2_with fail
              refine hT.mono ?_
              rintro e w7 (⟨he, hk7, hno7⟩ | ⟨p', u5, u6, u7, u9, rest', rfl, hq7, hd7, hk7, hr7, h97, hy, hn⟩)
              · have HNO : Hid (readP zs = none) := Lib.hid (readP_no (by rw [HL.out.run]; exact rf_low hpos HCUT.out (.inr hno7)))
                have HKQ := Lib.hid (H6.out.kqd hk7 HMD.out)
                rw [errPanic] at he
                subst he
                go_wp2_with fail
                exact ⟨rfl, .inl ⟨HNO.out, rfl, HKQ.out⟩⟩
              · have h7 := H6.out.took hk7 HMD.out hq7
                have c1 := h7.c1
                obtain ⟨wb, tb, hsb, hFb⟩ := hd7
                have hleft7 := left_q hFb
                have H7 := Lib.hid h7
                have HF7 := Lib.hid (HF6.out.kq hk7 (by have := HH.out; omega) (by have := HH.out; have := HMD.out; omega) (by have := HH.out; omega) (by have := HH.out; have := HMD.out; omega))
                have HY := Lib.hid hy
                have HN7 := Lib.hid hn
                have HWF := Lib.hid hwf
                have HR7 := Lib.hid hr7
                have H97 := Lib.hid h97
                have HHL := Lib.hid hl
                clear h7 hq7 hFb hsb hy hn hr7 h97 hk7 hT hent c0
                by_cases hz7 : rest'.length = 0
                · obtain rfl := List.eq_nil_of_length_eq_zero hz7
                  have HMP := Lib.hid H7.out.mp
                  obtain ⟨w8, hdel, hm8, hg8⟩ := HMP.out.drop HWF.out 0
                  have HM8 := Lib.hid hm8
                  have HG8 := Lib.hid hg8
                  clear hm8 hg8 hz7
                  go_wp2_with (first
                    | (go_at_call 49; refine hleft7.mono ?_; rintro e w9 ⟨rfl, rfl⟩)
                    | (go_at_call 51; refine (want_yes _ _).mono ?_; rintro e w9 ⟨rfl, rfl⟩))
                  have hm8 := HM8.out
                  have hg8 := HG8.out
                  have h8 := H7.out.del hm8 hg8
                  have hF8 := HF7.out.but (but_grown hg8) (by have := HH.out; omega) (by have := HH.out; omega)
                  have HST := Lib.hid (HL.out.step hpos HCUT.out HHL.out HFN.out (HY.out (by first | trivial | rfl)) h8 hF8 (by
                    by_cases h17 : n1 < 17
                    · exact .inl (H97.out h17)
                    · exact .inr ⟨by omega, (HR7.out.mono (by have := hsz6.out; have := HMD.out; omega)).butC (but_grown hg8) (noC_map HMP.out)⟩) HSL.out)
                  go_round
                  case rel => exact ⟨_, _, _, _, _, _, _, _, _, _, _, _, rfl, HST⟩
                  case measure => rw [hF8.leftW, HL.out.fq.leftW]; exact HSL.out
                · have hpos7 : 0 < rest'.length := by omega
                  have HNO : Hid (readP zs = none) := Lib.hid (readP_no (by rw [HL.out.run]; exact rf_low hpos HCUT.out (.inr (HN7.out fun e => hz7 (by rw [e]; rfl)))))
                  have hb7 : ((rest'.length : Int) == 0) = false := beq_eq_false_iff_ne.2 (by omega)
                  go_wp2_with (first
                    | (go_at_call 49; refine hleft7.mono ?_; rintro e w8 ⟨rfl, rfl⟩)
                    | (go_at_call 51; with_reducible refine (want_no _ _).mono ?_; (rintro e w9 ⟨he, rfl⟩; rw [errPanic] at he; subst he)))
                  exact ⟨rfl, .inl ⟨HNO.out, rfl, H7.out.kq⟩⟩
          · have hrd2 : rd (rest.drop s1) = (0, 0, (rd (rest.drop s1)).2.2) := Prod.ext g1 (Prod.ext g2 rfl)
            have HNO : Hid (readP zs = none) := Lib.hid (readP_no (by
              rw [HL.out.run]; refine rf_cut hpos (cut_no2 ?_)
              rw [HES.out, Int.toNat_natCast]; omega))
            have e4 : (if (rd (rest.drop s1)).2.2 = 2 then (3 : Int) else (rd (rest.drop s1)).2.2) = 3 := by split <;> omega
            have HE4 := Lib.hid e4
            have HRD2 := Lib.hid hrd2
            have HG3 := Lib.hid g3
            clear g1 g2 g3 e4 hrd2
            go_wp2_with (first
          | (go_at_call 49; refine hleft.mono ?_; rintro e w1 ⟨rfl, rfl⟩)
            | (go_at_call 50; refine hn1.mono ?_; rintro e w2 ⟨rfl, hF2, hb2⟩; have HC := Lib.hid (HL.out.lc.but hb2 hF2); have hlk := HC.out.mp.look hwf; rw [hfn] at hlk; have c0 := HC.out.c0)
            | (go_at_call 51; refine (want_yes _ _).mono ?_; rintro e w3 ⟨rfl, rfl⟩))
            have hn2 := number_e hF2.drew _ HRD2.out HG3.out
            rw [HE4.out] at hn2
            clear hF2
            refine wp_region_held_drew (S := fun w' => w'.cell? ⟨R, 0, none⟩ = some (.pointer (some ⟨B, 0, none⟩))) (by kernel_rfl) c0 (fun _ => ?_)
            refine wpAnyH_take (i := 0) (oi := { dst := some 37, op := Op.move (Operand.tmp 0), type := 72, pos := "reader.go:34", after := #[], guard := none }) (v := ?_) rfl (by kernel_rfl) (by kernel_rfl) (by kernel_rfl) (fun _ _ _ h => h) (Or.inl ⟨by rfl, ?_⟩) (by exact c0) ?_
            rotate_left
            · intro w hSw; (try dsimp only at hSw); go_simp; try (with_reducible rfl)
            repeat (first | simp only [Act.put] | simp only [List.setIfInBounds_toArray] | simp only [List.set_cons_zero] | simp only [List.set_cons_succ])
            refine wpAnyH_take (i := 1) (oi := { dst := some 38, op := Op.move (Operand.tmp 0), type := 72, pos := "reader.go:34", after := #[], guard := none }) (v := ?_) rfl (by kernel_rfl) (by kernel_rfl) (by kernel_rfl) (fun _ _ _ h => h) (Or.inl ⟨by rfl, ?_⟩) (by exact c0) ?_
            rotate_left
            · intro w hSw; (try dsimp only at hSw); go_simp; try (with_reducible rfl)
            repeat (first | simp only [Act.put] | simp only [List.setIfInBounds_toArray] | simp only [List.set_cons_zero] | simp only [List.set_cons_succ])
            refine wpAnyH_take (i := 2) (oi := { dst := some 39, op := Op.nilCheck (Operand.tmp 38), type := 0, pos := "reader.go:34", after := #[{ on := 1, ground := Ground.data }], guard := none }) (v := ?_) rfl (by kernel_rfl) (by kernel_rfl) (by kernel_rfl) (fun _ _ _ h => h) (Or.inl ⟨by rfl, ?_⟩) (by exact c0) ?_
            rotate_left
            · intro w hSw; (try dsimp only at hSw); go_simp; try (with_reducible rfl)
            repeat (first | simp only [Act.put] | simp only [List.setIfInBounds_toArray] | simp only [List.set_cons_zero] | simp only [List.set_cons_succ])
            refine wpAnyH_take (i := 3) (oi := { dst := some 40, op := Op.fieldAddr 56 (Operand.tmp 39) 0, type := 0, pos := "reader.go:34", after := #[{ on := 2, ground := Ground.data }], guard := none }) (v := ?_) rfl (by kernel_rfl) (by kernel_rfl) (by kernel_rfl) (fun _ _ _ h => h) (Or.inl ⟨by rfl, ?_⟩) (by exact c0) ?_
            rotate_left
            · intro w hSw; (try dsimp only at hSw); go_simp; try (with_reducible rfl)
            repeat (first | simp only [Act.put] | simp only [List.setIfInBounds_toArray] | simp only [List.set_cons_zero] | simp only [List.set_cons_succ])
            refine wpAnyH_take (i := 4) (oi := { dst := some 41, op := Op.load 53 (Operand.tmp 40), type := 53, pos := "reader.go:34", after := #[{ on := 3, ground := Ground.data }], guard := none }) (v := ?_) rfl (by kernel_rfl) (by kernel_rfl) (by kernel_rfl) (fun _ _ _ h => h) (Or.inl ⟨by rfl, ?_⟩) (by exact c0) ?_
            rotate_left
            · intro w hSw; (try dsimp only at hSw); go_simp; try (with_reducible rfl)
            repeat (first | simp only [Act.put] | simp only [List.setIfInBounds_toArray] | simp only [List.set_cons_zero] | simp only [List.set_cons_succ])
            refine wpAnyH_take (i := 5) (oi := { dst := some 42, op := Op.move (Operand.tmp 0), type := 72, pos := "reader.go:34", after := #[], guard := none }) (v := ?_) rfl (by kernel_rfl) (by kernel_rfl) (by kernel_rfl) (fun _ _ _ h => h) (Or.inl ⟨by rfl, ?_⟩) (by exact c0) ?_
            rotate_left
            · intro w hSw; (try dsimp only at hSw); go_simp; try (with_reducible rfl)
            repeat (first | simp only [Act.put] | simp only [List.setIfInBounds_toArray] | simp only [List.set_cons_zero] | simp only [List.set_cons_succ])
            refine wpAnyH_take (i := 6) (oi := { dst := some 43, op := Op.nilCheck (Operand.tmp 42), type := 0, pos := "reader.go:34", after := #[{ on := 5, ground := Ground.data }], guard := none }) (v := ?_) rfl (by kernel_rfl) (by kernel_rfl) (by kernel_rfl) (fun _ _ _ h => h) (Or.inl ⟨by rfl, ?_⟩) (by exact c0) ?_
            rotate_left
            · intro w hSw; (try dsimp only at hSw); go_simp; try (with_reducible rfl)
            repeat (first | simp only [Act.put] | simp only [List.setIfInBounds_toArray] | simp only [List.set_cons_zero] | simp only [List.set_cons_succ])
            refine wpAnyH_take (i := 7) (oi := { dst := some 44, op := Op.fieldAddr 56 (Operand.tmp 43) 0, type := 0, pos := "reader.go:34", after := #[{ on := 6, ground := Ground.data }], guard := none }) (v := ?_) rfl (by kernel_rfl) (by kernel_rfl) (by kernel_rfl) (fun _ _ _ h => h) (Or.inl ⟨by rfl, ?_⟩) (by exact c0) ?_
            rotate_left
            · intro w hSw; (try dsimp only at hSw); go_simp; try (with_reducible rfl)
            repeat (first | simp only [Act.put] | simp only [List.setIfInBounds_toArray] | simp only [List.set_cons_zero] | simp only [List.set_cons_succ])
            refine wpAnyH_take (i := 8) (oi := { dst := some 45, op := Op.load 53 (Operand.tmp 44), type := 53, pos := "reader.go:34", after := #[{ on := 7, ground := Ground.data }], guard := none }) (v := ?_) rfl (by kernel_rfl) (by kernel_rfl) (by kernel_rfl) (fun _ _ _ h => h) (Or.inl ⟨by rfl, ?_⟩) (by exact c0) ?_
            rotate_left
            · intro w hSw; (try dsimp only at hSw); go_simp; try (with_reducible rfl)
            repeat (first | simp only [Act.put] | simp only [List.setIfInBounds_toArray] | simp only [List.set_cons_zero] | simp only [List.set_cons_succ])
            refine wpAnyH_ready (rs := [9]) (by kernel_rfl) (by simp) ?_
            refine AllReadyH.cons (o := { dst := some 46, op := Op.call { callee := Callee.value (Operand.func 50), args := #[Operand.tmp 45], argTypes := #[53] }, type := 3, pos := "reader.go:34", after := #[{ on := 8, ground := Ground.data }], guard := none }) rfl (fun K hK => ?_) AllReadyH.nil
            go_simp
            refine hn2.mono ?_
            rintro e w4 ⟨he, hb4⟩
            rw [errPanic] at he
            subst he
            exact ⟨rfl, .inl ⟨HNO.out, rfl, HC.out.kq.trans (Kq.r (((But.refl B w2).drew).trans hb4))⟩⟩
        · have HNO : Hid (readP zs = none) := Lib.hid (readP_no (by
            rw [HL.out.run]
            cases hc : cutP rest with
            | none => exact rf_cut hpos hc
            | some x =>
              obtain ⟨n, v, s⟩ := x
              have en := cut_n hc
              refine rf_low hpos hc ?_
              by_cases hl : n ≤ last
              · exact .inl hl
              · refine .inr (fn_none ?_ p v)
                cases hf : fnOf n with
                | none => rfl
                | some fv => exact absurd ⟨by omega, fv, by rw [← en]; exact hf⟩ hok))
          have HKQ := Lib.hid (fun (w3 : World) (hb : But B wr w3) => HL.out.lc.kq.trans (Kq.r (R := R) hb))
          have HMP := Lib.hid (fun (w3 : World) {r3 : List Int} {t3 : Nat} (hb : But B wr w3) (hF : Fq w0 w3 B r3 t3 3) => (HL.out.lc.but hb hF).mp)
          have hdec : (f (rd rest).1).isSome = true → decide (last < (rd rest).1) = false := fun hs => by
            refine decide_eq_false fun hl => hok ⟨hl, ?_⟩
            rw [HL.out.up _ hl] at hs
            exact Option.isSome_iff_exists.1 hs
          generalize (rd rest).1 = n1 at *
          have HD := Lib.hid hdec
          clear hdec hok
          cases hsm : (f n1).isSome with
          | true =>
            have hd := HD.out hsm
            go_wp2_with (first
              | (go_at_call 49; refine hleft.mono ?_; rintro e w2 ⟨rfl, rfl⟩)
              | (go_at_call 50; refine hn1.mono ?_; rintro e w3 ⟨rfl, hF3, hb3⟩; have hlk := HML.out w3 (HMP.out w3 hb3 hF3); rw [hsm] at hlk)
              | (go_at_call 51; refine (want_no _ _).mono ?_; rintro e w4 ⟨he, rfl⟩; rw [errPanic] at he; subst he))
            exact ⟨rfl, .inl ⟨HNO.out, rfl, HKQ.out _ hb3⟩⟩
          | false =>
            go_wp2_with (first
              | (go_at_call 49; refine hleft.mono ?_; rintro e w2 ⟨rfl, rfl⟩)
              | (go_at_call 50; refine hn1.mono ?_; rintro e w3 ⟨rfl, hF3, hb3⟩; have hlk := HML.out w3 (HMP.out w3 hb3 hF3); rw [hsm] at hlk)
              | (go_at_call 51; refine (want_no _ _).mono ?_; rintro e w4 ⟨he, rfl⟩; rw [errPanic] at he; subst he))
            exact ⟨rfl, .inl ⟨HNO.out, rfl, HKQ.out _ hb3⟩⟩
      · have hrd : rd rest = (0, 0, (rd rest).2.2) := Prod.ext e1 (Prod.ext e2 rfl)
        have hn1 := number_e HL.out.fq _ hrd e3
        have HNO : Hid (readP zs = none) := Lib.hid (readP_no (by rw [HL.out.run]; exact rf_cut hpos (cut_no1 (by omega))))
        have e4 : (if (rd rest).2.2 = 2 then (3 : Int) else (rd rest).2.2) = 3 := by split <;> omega
        rw [e4] at hn1
        clear e1 e2 e3 e4 hrd
        go_wp2_with (first
          | (go_at_call 49; refine hleft.mono ?_; rintro e w2 ⟨rfl, rfl⟩)
          | (go_at_call 50; refine hn1.mono ?_; rintro e w3 ⟨he, hb1⟩; rw [errPanic] at he; subst he))
        exact ⟨rfl, .inl ⟨HNO.out, rfl, HL.out.lc.kq.trans (Kq.r hb1)⟩⟩
end Go.Proofs.YtmglhlfjddgllaaDoor
namespace Go.Proofs.YtmglhlfjddgllaaDoor
open Go Go.RowKit

/-- The two boxes, as they are made. -/
def bxW (w : World) : World := (w.alloc (.cells #[.int .i64 0, .int .i64 0, .bool false, .bool false, .bool false, .slice none 0 0, .slice none 0 0, .slice none 0 0, .int .i64 0, .slice none 0 0] 27)).alloc (.cells #[.int .i64 0] 34)
theorem bxW_below (w : World) : Below w.heap.size w (bxW w) := ((below_alloc w _).alloc (by simp) _)
theorem bxW_size (w : World) : (bxW w).heap.size = w.heap.size + 2 := by simp [bxW]
/-- The two boxes, as they were made. -/
structure Bz (H : Nat) (w : World) : Prop where
  h : w.heap[H]? = some (.cells #[.int .i64 0, .int .i64 0, .bool false, .bool false, .bool false, .slice none 0 0, .slice none 0 0, .slice none 0 0, .int .i64 0, .slice none 0 0] 27 (0, 0))
  x : w.heap[H + 1]? = some (.cells #[.int .i64 0] 34 (0, 0))
theorem Bz.bx {H : Nat} {w : World} (h : Bz H w) : Bx H w := ⟨⟨_, _, _, _, _, _, _, _, _, _, h.h⟩, ⟨_, h.x⟩⟩
theorem Bz.keep {H : Nat} {w w' : World} (h : Bz H w) (h0 : w'.heap[H]? = w.heap[H]?) (h1 : w'.heap[H + 1]? = w.heap[H + 1]?) : Bz H w' := ⟨by rw [h0]; exact h.h, by rw [h1]; exact h.x⟩
theorem bxW_bx (w : World) : Bz w.heap.size (bxW w) := by
  have h0 := heap_alloc_new w (.cells #[.int .i64 0, .int .i64 0, .bool false, .bool false, .bool false, .slice none 0 0, .slice none 0 0, .slice none 0 0, .int .i64 0, .slice none 0 0] 27)
  unfold bxW
  exact ⟨(Below.heap_alloc _ _ w.heap.size (by simp)).trans h0, heap_alloc2_new w _ _⟩
theorem cell_mem {w : World} {K : Nat} {cs : Array Value} {T : TypeId} {m : Nat × Nat} (h : w.heap[K]? = some (.cells cs T m)) {a : Addr} {x : Value} (ha : a.block = K) (he : w.cell? a = some x) : x ∈ cs.toList := by
  unfold World.cell? at he
  rw [ha, h] at he
  simp only at he
  split at he
  · cases he
  · have := Array.mem_of_getElem? he
    simpa using this
theorem Bz.no {H : Nat} {w : World} (h : Bz H w) {a : Addr} (ha : a.block = H ∨ a.block = H + 1) : (∀ x, w.cell? a ≠ some (.int .u8 x)) ∧ (∀ x, 1 ≤ x → w.cell? a ≠ some (.int .i64 x)) := by
  rcases ha with ha | ha
  · refine ⟨fun x he => ?_, fun x hx he => ?_⟩
    · have hm := cell_mem h.h ha he
      simp at hm
    · have hm := cell_mem h.h ha he
      simp at hm; omega
  · refine ⟨fun x he => ?_, fun x hx he => ?_⟩
    · have hm := cell_mem h.x ha he
      simp at hm
    · have hm := cell_mem h.x ha he
      simp at hm; omega
/-- What is read stands behind the stores into the two boxes. -/
theorem Bz.pr {H : Nat} {w w' : World} {p : Pv} {v5 v6 v7 v9 : Value} (h : Bz H w) (hp : Pr w p v5 v6 v7 v9) (hl : ∀ x ∈ p.l, 1 ≤ x) (hk : ∀ k, k < w.heap.size → k ≠ H → k ≠ H + 1 → w'.heap[k]? = w.heap[k]?) : Pr w' p v5 v6 v7 v9 := by
  have hr : ∀ {v : Value} {zs : List Int}, Rd w v zs → Rd w' v zs := fun hv => hv.apart fun k hk1 => by
    by_cases e : k = H ∨ k = H + 1
    · exact .inl fun a x ha => (h.no (by rw [ha]; exact e)).1 x
    · exact .inr (hk k hk1 (fun e' => e (.inl e')) (fun e' => e (.inr e')))
  refine ⟨hr hp.g, hr hp.o, hr hp.r, ?_⟩
  obtain ⟨ao, cap, hv, h1, h2, h3, hc⟩ := hp.l
  refine ⟨ao, cap, hv, h1, h2, h3, fun a ha j hj => ?_⟩
  have hcell := hc a ha j hj
  have hx : 1 ≤ p.l.getD j 0 := by
    have e : p.l.getD j 0 = p.l[j] := by simp [hj]
    rw [e]; exact hl _ (List.getElem_mem hj)
  by_cases e : (a.add j).block = H ∨ (a.add j).block = H + 1
  · exact absurd hcell ((h.no e).2 _ hx)
  · rw [← hcell]
    exact World.cell?_of_block (w := w) (hk _ (cell_lt hcell) (fun e' => e (.inl e')) (fun e' => e (.inr e')))
theorem right_l {p : Pv} (h : rightP p = true) : ∀ x ∈ p.l, 1 ≤ x := by
  unfold rightP at h
  simp only [Bool.and_eq_true] at h
  obtain ⟨_, _, _, _, _, _, hl⟩ := h
  unfold versB at hl
  simp only [decide_eq_true_eq] at hl
  intro x hx
  have := hl.2.1 x hx
  unfold verB at this
  simp at this
  omega
theorem readP_right {zs : List Int} {p : Pv} (h : readP zs = some p) : rightP p = true := by
  unfold readP at h
  split at h
  · split at h
    · rename_i h2
      cases h
      exact h2.2
    · cases h
  · cases h
set_option maxRecDepth 20000 in
set_option maxHeartbeats 4000000 in
theorem pread_any {w : World} {v : Value} {zs : List Int} (hr : Rd w v zs) (hp : Plain v) (hl : zs.length ≤ 1000000) :
    Calls Tryd.prog 16 #[v] w (RPost zs w) := by
  obtain ⟨ao, n, cap, rfl⟩ := hr.shape3
  have hnl : n = zs.length := by obtain ⟨_, _, e, _⟩ := hr; simp only [Value.slice.injEq] at e; exact e.2.1
  subst hnl
  have hB2 := bxW_below w
  have hof := of_q (short := 3) (hr.below hB2) hp hl
  have hsz := bxW_size w
  have hbx := bxW_bx w
  have HB2 := Lib.hid hB2
  have HBX := Lib.hid hbx
  have HSZ := Lib.hid hsz
  clear hB2 hr hp hsz
  by_cases h5 : 500 < zs.length
  · have HRES : Hid (resP zs = (p0, 4)) := Lib.hid (by unfold resP; rw [if_pos h5])
    have HLD := Lib.hid (ld_of hbx.bx (.int .i64 0) (.int .i64 0) (.bool false) (.bool false) (.bool false) (.slice none 0 0) (.slice none 0 0) (.slice none 0 0) (.int .i64 0) (.slice none 0 0) (.int .i64 4))
    clear hof hbx
    unfold bxW at *
    go_enter_defers Tryd.func16, Tryd.ntmps16
    go_wp2_with fail
    have hb : Below w.heap.size w ((w.alloc (.cells #[.int .i64 0, .int .i64 0, .bool false, .bool false, .bool false, .slice none 0 0, .slice none 0 0, .slice none 0 0, .int .i64 0, .slice none 0 0] 27)).alloc (.cells #[.int .i64 4] 34)) := (below_alloc w _).alloc (by simp) _
    have h0 := heap_alloc_new w (.cells #[.int .i64 0, .int .i64 0, .bool false, .bool false, .bool false, .slice none 0 0, .slice none 0 0, .slice none 0 0, .int .i64 0, .slice none 0 0] 27)
    exact ⟨_, pread_results _ _ w.heap.size _ _ _ _ _ _ _ _ _ _ 4 rfl rfl ⟨(Below.heap_alloc _ _ w.heap.size (by simp)).trans h0, heap_alloc2_new w _ _⟩, rpost_no HRES.out hb⟩
  · unfold bxW at *
    clear hbx
    go_enter_defers Tryd.func16, Tryd.ntmps16
    go_wp2_with fail
    generalize (w.alloc (.cells #[.int .i64 0, .int .i64 0, .bool false, .bool false, .bool false, .slice none 0 0, .slice none 0 0, .slice none 0 0, .int .i64 0, .slice none 0 0] 27)).alloc (.cells #[.int .i64 0] 34) = W0 at *
    refine hof.mono ?_
    rintro e w1 ⟨rfl, hF, rfl⟩
    clear hof
    go_wp2_with fail
    have h2 := heap_alloc2_new W0 (.cells #[.slice ao zs.length cap, .int .i64 0, .int .i64 3] 71) (.cells #[.pointer (some ⟨W0.heap.size, 0, none⟩), .pointer none, .int .i64 0, .int .i64 0, .bool false, .bool false, .bool false, .slice none 0 0, .slice none 0 0, .slice none 0 0, .int .i64 0, .slice none 0 0] 56)
    have hF2 := hF.keep (below_alloc (W0.alloc (.cells #[.slice ao zs.length cap, .int .i64 0, .int .i64 3] 71)) (.cells #[.pointer (some ⟨W0.heap.size, 0, none⟩), .pointer none, .int .i64 0, .int .i64 0, .bool false, .bool false, .bool false, .slice none 0 0, .slice none 0 0, .slice none 0 0, .int .i64 0, .slice none 0 0] 56))
    clear hF
    generalize (W0.alloc (.cells #[.slice ao zs.length cap, .int .i64 0, .int .i64 3] 71)).alloc (.cells #[.pointer (some ⟨W0.heap.size, 0, none⟩), .pointer none, .int .i64 0, .int .i64 0, .bool false, .bool false, .bool false, .slice none 0 0, .slice none 0 0, .slice none 0 0, .int .i64 0, .slice none 0 0] 56) = w2 at *
    have hq : Rq w2 (W0.heap.size + 1) W0.heap.size (.pointer none) p0 nilS nilS nilS nilS := ⟨h2, Rd.nil _, Rd.nil _, Rd.nil _, ⟨_, _, _, rfl⟩, ⟨_, rfl⟩⟩
    have hc := params_any hF2 hq (Nat.le_refl _) (Nat.lt_succ_self _)
    have HBL := Lib.hid hF2.bel
    clear h2 hF2 hq
    have HK : Hid (∀ w3, Kq (W0.heap.size + 1) W0.heap.size w2 w3 → Bz w.heap.size w3 ∧ Below w.heap.size w w3) := Lib.hid fun w3 hk => by
      have hsz := HSZ.out
      have hb := HBL.out
      have hs2 := hb.size
      refine ⟨(HBX.out.keep (w' := w2) (hb.block _ (by omega)) (hb.block _ (by omega))).keep (hk.block _ (by omega) (by omega) (by omega)) (hk.block _ (by omega) (by omega) (by omega)), ?_⟩
      exact (HB2.out.trans (hb.mono (by omega))).trans ⟨hk.os, hk.tape, hk.output, hk.size, fun k hk1 => hk.block k (by omega) (by omega) (by omega)⟩
    refine hc.mono ?_
    rintro e w3 (⟨hno, he, hk⟩ | ⟨p, v5, v6, v7, v9, hyes, rfl, hpr, hk⟩)
    · have HRES : Hid (resP zs = (p0, 3)) := Lib.hid (by unfold resP; rw [if_neg h5, hno])
      have hk2 := HK.out w3 hk
      have HK2 := Lib.hid hk2
      rw [errPanic] at he
      subst he
      clear hno hk hk2 hc
      go_wp2_with fail
      exact pdoor_panic _ _ w.heap.size 3 HK2.out.1.bx rfl rfl fun w' hb => rpost_no HRES.out (HK2.out.2.trans hb)
    · have HRES : Hid (resP zs = (p, 0)) := Lib.hid (by unfold resP; rw [if_neg h5, hyes])
      have hk2 := HK.out w3 hk
      obtain ⟨a5, k5, rfl⟩ := hpr.g.shape
      obtain ⟨a6, k6, rfl⟩ := hpr.o.shape
      obtain ⟨a7, k7, rfl⟩ := hpr.r.shape
      obtain ⟨a9, k9, rfl⟩ := hpr.l.shape
      have hld := ld_of hk2.1.bx (.int .i64 p.i) (.int .i64 p.d) (.bool p.hg) (.bool p.ho) (.bool p.hr) (.slice a5 p.g.length k5) (.slice a6 p.o.length k6) (.slice a7 p.r.length k7) (.int .i64 p.c) (.slice a9 p.l.length k9) (.int .i64 0)
      have HLD := Lib.hid hld
      have HK2 := Lib.hid hk2
      have HPR := Lib.hid hpr
      have HRL := Lib.hid (right_l (readP_right hyes))
      obtain ⟨hh, hx⟩ := hk2.1
      have hcc := fun i => cell_of_row w3 w.heap.size i _ 27 (0, 0) hh
      have q0 := hcc 0
      have q1 := hcc 1
      have q2 := hcc 2
      have q3 := hcc 3
      have q4 := hcc 4
      have q5 := hcc 5
      have q6 := hcc 6
      have q7 := hcc 7
      have q8 := hcc 8
      have q9 := hcc 9
      have qf : ∀ j, w3.frozen? ⟨w.heap.size, j, none⟩ = false := fun j => by simp [World.frozen?, hh]
      have qx := cell_of_row w3 (w.heap.size + 1) 0 _ 34 (0, 0) hx
      have qg : w3.frozen? ⟨w.heap.size + 1, 0, none⟩ = false := by simp [World.frozen?, hx]
      clear hcc hh hx hld hk2 hpr hyes hk hc
      unfold pAgg
      go_wp2_with fail
      refine pdoor_idle _ _ w.heap.size _ _ _ _ _ _ _ _ _ _ 0 rfl rfl HLD.out.1 ⟨_, _, _, _, by rw [HRES.out], by rw [HRES.out]; exact HK2.out.1.pr HPR.out HRL.out HLD.out.2.2, ?_⟩
      exact HK2.out.2.trans (HLD.out.2.1)
end Go.Proofs.YtmglhlfjddgllaaDoor
namespace Go.Proofs.YtmglhlfjddgllaaDoor
open Go Go.RowKit

theorem plain_inP {W : World} {r : Reach} {b : Nat} {a : Option Addr} {len cap : Nat} (h : Value.okWide Tryd.prog W r b 22 (.slice a len cap)) : Plain (.slice a len cap) := by
  unfold Value.okWide at h
  rw [Tryd.underlying22] at h
  simp only [Cell.okWide, Tryd.underlying22, Cell.ok] at h
  cases a with
  | none =>
    split at h
    all_goals first
      | (rename_i e1 e2; cases e1; cases e2; exact .inl rfl)
      | (exfalso; simp_all; done)
  | some x =>
    obtain ⟨b, off, spot⟩ := x
    have hs : spot = none := h.2.2.2.1
    subst hs
    exact .inr ⟨_, _, _, _, rfl⟩
theorem resP_cases (zs : List Int) : (∃ p, resP zs = (p, 0) ∧ readP zs = some p) ∨ ∃ k, resP zs = (p0, k) ∧ (k = 3 ∨ k = 4) := by
  unfold resP
  by_cases h : 500 < zs.length
  · rw [if_pos h]; exact .inr ⟨4, rfl, .inr rfl⟩
  · rw [if_neg h]
    cases readP zs with
    | none => exact .inr ⟨3, rfl, .inl rfl⟩
    | some p => exact .inl ⟨p, rfl, rfl⟩
set_option maxRecDepth 20000 in
set_option maxHeartbeats 4000000 in
theorem pagain_walk {w : World} {v : Value} {zs : List Int} (hr : Rd w v zs) (hp : Plain v) (ht : Tab w) (hw : 1 < w.heap.size) :
    Calls Tryd.prog 6 #[v] w fun e w' => e = .returned (.bool true) ∧ Below w.heap.size w w' := by
  have hl := hr.len
  obtain ⟨ao, cap, rfl⟩ := hr.shape
  by_cases h6 : 600 < zs.length
  · clear hr hp ht hw
    go_enter Tryd.func6, Tryd.ntmps6
    go_wp2_with fail
    go_ret
    exact ⟨rfl, Below.refl _ _⟩
  · have hrd := pread_any hr hp (by omega)
    have HR := Lib.hid hr
    have HT := Lib.hid ht
    have HW := Lib.hid hw
    unfold RPost at hrd
    rcases resP_cases zs with ⟨p, hres, hrp⟩ | ⟨k, hres, hk⟩
    · obtain ⟨hzs, hright⟩ := Rv.read_again hr.byt hrp
      rw [hres] at hrd
      dsimp only at hrd
      have HZ := Lib.hid hzs
      clear hr hp ht hw hres hrp hzs hright
      go_enter Tryd.func6, Tryd.ntmps6
      go_wp2_with (go_at_call 16; refine hrd.mono ?_; rintro e w1 ⟨v5, v6, v7, v9, rfl, hpr, hb1⟩; obtain ⟨a5, k5, rfl⟩ := hpr.g.shape; obtain ⟨a6, k6, rfl⟩ := hpr.o.shape; obtain ⟨a7, k7, rfl⟩ := hpr.r.shape; obtain ⟨a9, k9, rfl⟩ := hpr.l.shape; unfold pAgg)
      have hY := below_alloc w1 (.cells (pCells p (.slice a5 p.g.length k5) (.slice a6 p.o.length k6) (.slice a7 p.r.length k7) (.slice a9 p.l.length k9)) 27)
      have hwr := write_any (hpr.below hY) (HT.out.below (hb1.trans (hY.mono hb1.size))) (by have := HW.out; have := hb1.size; simp; omega)
      have HB2 := Lib.hid (hb1.trans (hY.mono hb1.size))
      clear hpr hY hrd
      dsimp only [pAgg, pCells] at hwr
      refine hwr.mono ?_
      rintro e w2 ⟨v2, rfl, ho2, hz2, hb2⟩
      have r2 := (Rd.of_own ho2 hz2).1
      have hsz1 := HB2.out.size
      have B2 := HB2.out.trans (hb2.mono hsz1)
      have hsm := same_any r2 (HR.out.below B2)
      rw [decide_eq_true HZ.out.symm] at hsm
      obtain ⟨a2, c2, rfl⟩ := own_shape ho2
      have HB := Lib.hid B2
      clear hb2 ho2 r2 B2 hwr hb1 hsz1 hz2
      go_wp2_with (first
        | (go_at_call 14; refine hsm.mono ?_; rintro e w3 ⟨rfl, hb3⟩)
        | (go_at_call 13; refine (pawake_any _ (HT.out.below (HB.out.trans (hb3.mono HB.out.size))) (by have := HW.out; have := HB.out.size; have := hb3.size; omega)).mono ?_; rintro e w4 ⟨rfl, hb4⟩))
      go_ret
      have B3 := HB.out.trans (hb3.mono HB.out.size)
      exact ⟨rfl, B3.trans (hb4.mono B3.size)⟩
    · have hne : ¬ k = 0 := by omega
      rw [hres] at hrd
      dsimp only at hrd
      clear hr hp ht hw hres hk
      go_enter Tryd.func6, Tryd.ntmps6
      go_wp2_with (go_at_call 16; refine hrd.mono ?_; rintro e w1 ⟨v5, v6, v7, v9, rfl, hpr, hb1⟩; obtain ⟨a5, k5, rfl⟩ := hpr.g.shape; obtain ⟨a6, k6, rfl⟩ := hpr.o.shape; obtain ⟨a7, k7, rfl⟩ := hpr.r.shape; obtain ⟨a9, k9, rfl⟩ := hpr.l.shape; unfold pAgg)
      have hY := below_alloc w1 (.cells (pCells p0 (.slice a5 p0.g.length k5) (.slice a6 p0.o.length k6) (.slice a7 p0.r.length k7) (.slice a9 p0.l.length k9)) 27)
      have B2 := hb1.trans (hY.mono hb1.size)
      refine (pawake_any _ (HT.out.below B2) (by have := HW.out; have := B2.size; omega)).mono ?_
      rintro e w4 ⟨rfl, hb4⟩
      go_wp2_with fail
      go_ret
      exact ⟨rfl, B2.trans (hb4.mono B2.size)⟩
end Go.Proofs.YtmglhlfjddgllaaDoor
