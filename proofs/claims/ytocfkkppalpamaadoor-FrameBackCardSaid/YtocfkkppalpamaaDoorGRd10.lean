/- frame.Read tells what bytes are as frames. -/
import Derived.Test.YtocfkkppalpamaaDoorGRd9
import Derived.Defers
import Derived.Recover
namespace Go.Proofs.YtocfkkppalpamaaDoor
open Go Go.RowKit

theorem heap_alloc2_newG (w : World) (o o' : Obj) : ((w.alloc o).alloc o').heap[w.heap.size + 1]? = some o' := by
  have := heap_alloc_new (w.alloc o) o'
  simpa using this
theorem assert_errnoG (k : Int) (w : World) : (Instr.typeAssert (.iface 35 (.int .i64 k)) 20 35 false).run Tryd.prog w = .ok (.int .i64 k) w := by
  kernel_rfl
/-- The two result boxes, and what they hold. -/
structure Ld (H : Nat) (c x : Value) (w : World) : Prop where
  h : w.heap[H]? = some (.cells #[c] 38 (0, 0))
  x : w.heap[H + 1]? = some (.cells #[x] 35 (0, 0))
theorem Ld.cells {H : Nat} {c x : Value} {w : World} (h : Ld H c x w) : w.cell? ⟨H, 0, none⟩ = some c ∧ w.cell? ⟨H + 1, 0, none⟩ = some x ∧ w.frozen? ⟨H, 0, none⟩ = false ∧ w.frozen? ⟨H + 1, 0, none⟩ = false :=
  ⟨(cell_of_row w H 0 _ _ (0, 0) h.h).trans rfl, (cell_of_row w (H + 1) 0 _ _ (0, 0) h.x).trans rfl, by simp [World.frozen?, h.h], by simp [World.frozen?, h.x]⟩
theorem Ld.keep {H : Nat} {c x : Value} {w w' : World} (h : Ld H c x w) (h0 : w'.heap[H]? = w.heap[H]?) (h1 : w'.heap[H + 1]? = w.heap[H + 1]?) : Ld H c x w' := ⟨by rw [h0]; exact h.h, by rw [h1]; exact h.x⟩
theorem ld_of {w : World} {H : Nat} {c x : Value} (hb : Ld H c x w) (c' x' : Value) : Ld H c' x' ((w.setCell ⟨H, 0, none⟩ c').setCell ⟨H + 1, 0, none⟩ x') ∧ Below H w ((w.setCell ⟨H, 0, none⟩ c').setCell ⟨H + 1, 0, none⟩ x') ∧ (∀ k, k < w.heap.size → k ≠ H → k ≠ H + 1 → ((w.setCell ⟨H, 0, none⟩ c').setCell ⟨H + 1, 0, none⟩ x').heap[k]? = w.heap[k]?) := by
  have b1 := But.set w H 0 c'
  have b2 := But.set (w.setCell ⟨H, 0, none⟩ c') (H + 1) 0 x'
  have e0 := heap_setCell_same w H 0 _ 38 c' hb.h
  have hx1 := (b1.block (H + 1) (Array.getElem?_eq_some_iff.1 hb.x).1 (by omega)).trans hb.x
  have e1 := heap_setCell_same (w.setCell ⟨H, 0, none⟩ c') (H + 1) 0 _ 35 x' hx1
  have hl := (Array.getElem?_eq_some_iff.1 hb.x).1
  refine ⟨⟨?_, e1⟩, ⟨b2.os.trans b1.os, b2.tape.trans b1.tape, b2.output.trans b1.output, Nat.le_trans b1.size b2.size, fun k hk => (b2.block k (by have := b1.size; omega) (by omega)).trans (b1.block k (by omega) (by omega))⟩, fun k hk h1 h2 => (b2.block k (by have := b1.size; omega) h2).trans (b1.block k hk h1)⟩
  rw [b2.block H (by have := b1.size; omega) (by omega)]; exact e0
theorem ld_drew {H : Nat} {c x : Value} {w w' : World} (h : Ld H c x w') (hb : Below H w w') : Ld H c x w'.drew ∧ Below H w w'.drew := ⟨⟨h.h, h.x⟩, hb.drew⟩
set_option maxRecDepth 20000 in
set_option maxHeartbeats 2000000 in
theorem gcatch_idle (H : Nat) (w : World) :
    CallsD Tryd.prog 29 #[.pointer (some ⟨H, 0, none⟩), .pointer (some ⟨H + 1, 0, none⟩)] .returning w fun e u' w' => e = .returned (.tuple #[]) ∧ u' = .returning ∧ w = w' := by
  refine callsD_of_wpS Tryd.func29 rfl fun c₀ cs hu => ?_
  apply wpS_seq
  apply wpS_region
  simp [wpOpsS, go_sem, recoverD, hu, Tryd.ntmps29, Exit.thenS]
  apply wpS_seq
  apply wpS_region
  simp [wpOpsS, go_sem, Exit.thenS]
  refine wpS_cond (t := false) (by simp [Act.eval, Array.replicate]) ?_
  simp only [Bool.false_eq_true, if_false]
  refine wpS_of_wp (wp_skip ?_)
  cases c₀
  simp_all [bodyPostS, results, Tryd.results29]
set_option maxRecDepth 20000 in
set_option maxHeartbeats 2000000 in
theorem gcatch_panicking (H : Nat) (w : World) (k : Int) {c x : Value} (hb : Ld H c x w) :
    CallsD Tryd.prog 29 #[.pointer (some ⟨H, 0, none⟩), .pointer (some ⟨H + 1, 0, none⟩)] (.panicking [{ v := .iface 35 (.int .i64 k), recovered := false }]) w fun e u' w' => e = .returned (.tuple #[]) ∧ u' = .panicking [{ v := .iface 35 (.int .i64 k), recovered := true }] ∧ Ld H (.slice none 0 0) (.int .i64 k) w' ∧ Below H w w' := by
  have hld := ld_of hb (.slice none 0 0) (.int .i64 k)
  have HL := Lib.hid (ld_drew hld.1 hld.2.1)
  clear hld
  obtain ⟨a0, b0, af, bf⟩ := hb.cells
  have hta := assert_errnoG k
  refine callsD_of_wpS Tryd.func29 rfl fun c₀ cs hu => ?_
  apply wpS_seq
  apply wpS_region
  simp [wpOpsS, go_sem, recoverD, hu, Tryd.ntmps29, Exit.thenS]
  apply wpS_seq
  apply wpS_region
  simp [wpOpsS, go_sem, Exit.thenS]
  refine wpS_cond (t := true) (by simp [Act.eval, Array.replicate]) ?_
  simp only [if_true]
  refine wpS_of_wp ?_
  simp [Array.replicate]
  go_region
  all_goals
    refine ⟨rfl, _, rfl, .tuple #[], ?_, rfl, rfl, HL.out⟩
    simp [results, Tryd.results29, go_sem]
set_option maxRecDepth 20000 in
theorem gread_results (tmps : Array Value) (w : World) (H : Nat) (c : Value) (x : Int) (h2 : tmps[2]?.getD undef = .pointer (some ⟨H, 0, none⟩)) (h3 : tmps[3]?.getD undef = .pointer (some ⟨H + 1, 0, none⟩)) (hL : Ld H c (.int .i64 x) w) :
    (results Tryd.f18 tmps).run Tryd.prog w = .ok (.tuple #[c, .int .i64 x]) w := by
  obtain ⟨a0, b0, _, _⟩ := hL.cells
  simp [results, Tryd.results18, h2, h3, asAddr, a0, b0, go_sem]
/-- Behind a return: the results are those that the boxes hold. -/
theorem gdoor_idle (tmps : Array Value) (w : World) (H : Nat) (c : Value) (x : Int) (h2 : tmps[2]?.getD undef = .pointer (some ⟨H, 0, none⟩)) (h3 : tmps[3]?.getD undef = .pointer (some ⟨H + 1, 0, none⟩))
    (hL : Ld H c (.int .i64 x) w) {R : Ending → World → Prop} (hR : R (.returned (.tuple #[c, .int .i64 x])) w) :
    bodyPostD Tryd.prog Tryd.f18 R .ret ⟨tmps, [{ target := Target.fn (Fn.func 29) #[.pointer (some ⟨H, 0, none⟩), .pointer (some ⟨H + 1, 0, none⟩)], args := #[] }]⟩ w := by
  refine leaves_cons (f := 29) (args := #[.pointer (some ⟨H, 0, none⟩), .pointer (some ⟨H + 1, 0, none⟩)]) (by simp) (by simp [go_sem]) ?_
  refine (gcatch_idle H w).mono ?_
  rintro e' u' w'' ⟨rfl, rfl, rfl⟩
  exact ⟨_, gread_results tmps w H c x h2 h3 hL, hR⟩
/-- Behind a panic of an error's number: no frames, and the error. -/
theorem gdoor_panic (tmps : Array Value) (w : World) (H : Nat) (k : Int) {c x : Value} (hB : Ld H c x w) (h2 : tmps[2]?.getD undef = .pointer (some ⟨H, 0, none⟩)) (h3 : tmps[3]?.getD undef = .pointer (some ⟨H + 1, 0, none⟩))
    {R : Ending → World → Prop} (hR : ∀ w', Below H w w' → R (.returned (.tuple #[.slice none 0 0, .int .i64 k])) w') :
    bodyPostD Tryd.prog Tryd.f18 R (.panic [{ v := .iface 35 (.int .i64 k), recovered := false }]) ⟨tmps, [{ target := Target.fn (Fn.func 29) #[.pointer (some ⟨H, 0, none⟩), .pointer (some ⟨H + 1, 0, none⟩)], args := #[] }]⟩ w := by
  refine leaves_cons (f := 29) (args := #[.pointer (some ⟨H, 0, none⟩), .pointer (some ⟨H + 1, 0, none⟩)]) (by simp) (by simp [go_sem]) ?_
  refine (gcatch_panicking H w k hB).mono ?_
  rintro e' u' w'' ⟨rfl, rfl, hL, hb⟩
  exact ⟨_, gread_results tmps w'' H _ k h2 h3 hL, hR w'' hb⟩
/-- What Read tells. -/
def GRPost (zs : List Int) (w : World) (e : Ending) (w' : World) : Prop :=
  ∃ v L n, e = .returned (.tuple #[v, .int .i64 n]) ∧ Fl w' v L ∧ Below w.heap.size w w' ∧
    ((n = 4 ∧ 1200 < zs.length ∧ L = []) ∨ (n = 3 ∧ zs.length ≤ 1200 ∧ gRead zs = none ∧ L = []) ∨ (n = 0 ∧ zs.length ≤ 1200 ∧ gRead zs = some (L.map Fe.f)))
theorem grpost_no {zs : List Int} {w w' : World} {n : Int} (h : (n = 4 ∧ 1200 < zs.length) ∨ (n = 3 ∧ zs.length ≤ 1200 ∧ gRead zs = none)) (hb : Below w.heap.size w w') : GRPost zs w (.returned (.tuple #[.slice none 0 0, .int .i64 n])) w' := by
  refine ⟨_, [], n, rfl, (Fo.nil 0 w').fl, hb, ?_⟩
  rcases h with ⟨h1, h2⟩ | ⟨h1, h2, h3⟩
  · exact .inl ⟨h1, h2, rfl⟩
  · exact .inr (.inl ⟨h1, h2, h3, rfl⟩)
set_option maxRecDepth 20000 in
set_option maxHeartbeats 4000000 in
theorem gread_any {w : World} {v : Value} {zs : List Int} (hr : Rd w v zs) (hp : Plain v) (hl : zs.length ≤ 1000000) :
    Calls Tryd.prog 18 #[v] w (GRPost zs w) := by
  obtain ⟨ao, cap, rfl⟩ := hr.shape
  have hB2 : Below w.heap.size w ((w.alloc (.cells #[.slice none 0 0] 38)).alloc (.cells #[.int .i64 0] 35)) := (below_alloc w _).alloc (by simp) _
  have hLD : Ld w.heap.size (.slice none 0 0) (.int .i64 0) ((w.alloc (.cells #[.slice none 0 0] 38)).alloc (.cells #[.int .i64 0] 35)) := ⟨(Below.heap_alloc _ _ w.heap.size (by simp)).trans (heap_alloc_new w _), heap_alloc2_newG w _ _⟩
  have hof := of_q (short := 3) (hr.below hB2) hp hl
  have HBYT := Lib.hid hr.byt
  have HB2 := Lib.hid hB2
  have HLD := Lib.hid hLD
  have HSZ : Hid (((w.alloc (.cells #[.slice none 0 0] 38)).alloc (.cells #[.int .i64 0] 35)).heap.size = w.heap.size + 2) := Lib.hid (by simp)
  obtain ⟨a0, b0, af, bf⟩ := hLD.cells
  by_cases h5 : 1200 < zs.length
  · have h5' : (1200 : Int) < (zs.length : Int) := by omega
    have HN := Lib.hid h5
    have hb4 : Below w.heap.size w ((w.alloc (.cells #[.slice none 0 0] 38)).alloc (.cells #[.int .i64 4] 35)) := (below_alloc w _).alloc (by simp) _
    have hld4 : Ld w.heap.size (.slice none 0 0) (.int .i64 4) ((w.alloc (.cells #[.slice none 0 0] 38)).alloc (.cells #[.int .i64 4] 35)) := ⟨(Below.heap_alloc _ _ w.heap.size (by simp)).trans (heap_alloc_new w _), heap_alloc2_newG w _ _⟩
    have HB4 := Lib.hid hb4
    have HLD4 := Lib.hid hld4
    clear hof hB2 hLD hr hp hb4 hld4 a0 b0 af bf h5
    go_enter_defers Tryd.func18, Tryd.ntmps18
    go_wp2_with fail
    exact ⟨_, gread_results _ _ w.heap.size _ 4 rfl rfl HLD4.out, grpost_no (.inl ⟨rfl, HN.out⟩) HB4.out⟩
  · have h5' : ¬ (1200 : Int) < (zs.length : Int) := by omega
    have HN := Lib.hid (show zs.length ≤ 1200 by omega)
    clear hB2 hLD hr hp h5 a0 b0 af bf
    go_enter_defers Tryd.func18, Tryd.ntmps18
    go_wp2_with fail
    generalize (w.alloc (.cells #[.slice none 0 0] 38)).alloc (.cells #[.int .i64 0] 35) = W0 at *
    refine hof.mono ?_
    rintro e w1 ⟨rfl, hF, rfl⟩
    clear hof
    go_wp2_with fail
    have h2 : ((W0.alloc (.cells #[.slice ao zs.length cap, .int .i64 0, .int .i64 3] 78)).alloc (.cells #[.pointer (some ⟨W0.heap.size, 0, none⟩), .int .i64 0, .int .i64 0, .slice none 0 0, .int .i64 0, .slice none 0 0, .int .i64 0] 64)).heap[W0.heap.size + 1]? = some (.cells (gCells W0.heap.size ⟨0, 0, [], 0, [], 0⟩ (.slice none 0 0) (.slice none 0 0)) 64 (0, 0)) := heap_alloc2_newG W0 _ _
    have hF2 := hF.keep (below_alloc (W0.alloc (.cells #[.slice ao zs.length cap, .int .i64 0, .int .i64 3] 78)) (.cells #[.pointer (some ⟨W0.heap.size, 0, none⟩), .int .i64 0, .int .i64 0, .slice none 0 0, .int .i64 0, .slice none 0 0, .int .i64 0] 64))
    have hsz2 : W0.heap.size + 1 < ((W0.alloc (.cells #[.slice ao zs.length cap, .int .i64 0, .int .i64 3] 78)).alloc (.cells #[.pointer (some ⟨W0.heap.size, 0, none⟩), .int .i64 0, .int .i64 0, .slice none 0 0, .int .i64 0, .slice none 0 0, .int .i64 0] 64)).heap.size := by simp
    clear hF
    generalize (W0.alloc (.cells #[.slice ao zs.length cap, .int .i64 0, .int .i64 3] 78)).alloc (.cells #[.pointer (some ⟨W0.heap.size, 0, none⟩), .int .i64 0, .int .i64 0, .slice none 0 0, .int .i64 0, .slice none 0 0, .int .i64 0] 64) = w2 at *
    have hc := frames_any hF2 h2 HBYT.out HN.out ⟨Nat.le_refl _, Nat.lt_succ_self _⟩
    have HBL := Lib.hid hF2.bel
    clear h2 hF2
    have HK : Hid (∀ w3, Kq (W0.heap.size + 1) W0.heap.size w2 w3 → Ld w.heap.size (.slice none 0 0) (.int .i64 0) w3 ∧ Below w.heap.size w w3) := Lib.hid fun w3 hk => by
      have hsz := HSZ.out
      have hb := HBL.out
      have hs2 := hb.size
      refine ⟨(HLD.out.keep (hb.block _ (by omega)) (hb.block _ (by omega))).keep (hk.block _ (by omega) (by omega) (by omega)) (hk.block _ (by omega) (by omega) (by omega)), ?_⟩
      exact (HB2.out.trans (hb.mono (by omega))).trans ⟨hk.os, hk.tape, hk.output, hk.size, fun k hk1 => hk.block k (by omega) (by omega) (by omega)⟩
    refine hc.mono ?_
    rintro e w3 (⟨he, hk, hno⟩ | ⟨fv, L, rfl, hyes, hfo, hk⟩)
    · have hk2 := HK.out w3 hk
      have HK2 := Lib.hid hk2
      have HNO := Lib.hid hno
      rw [errPanic] at he
      subst he
      clear hno hk hk2 hc
      go_wp2_with fail
      exact gdoor_panic _ _ w.heap.size 3 HK2.out.1 rfl rfl fun w' hb => grpost_no (.inr ⟨rfl, HN.out, HNO.out⟩) (HK2.out.2.trans hb)
    · have hk2 := HK.out w3 hk
      obtain ⟨a0, b0, af, bf⟩ := hk2.1.cells
      obtain ⟨fa, fc, rfl⟩ := hfo.shape
      have hld := ld_of hk2.1 (.slice fa L.length fc) (.int .i64 0)
      have hfo2 := hfo.keep (w' := (w3.setCell ⟨w.heap.size, 0, none⟩ (.slice fa L.length fc)).setCell ⟨w.heap.size + 1, 0, none⟩ (.int .i64 0)) fun k hk1 hk3 => hld.2.2 k hk1 (by have := HSZ.out; have := hsz2; omega) (by have := HSZ.out; have := hsz2; omega)
      have HLD2 := Lib.hid hld
      have HFO := Lib.hid hfo2
      have HBB := Lib.hid hk2.2
      have HY := Lib.hid hyes
      clear hk hk2 hfo hfo2 hld hyes hc
      go_wp2_with fail
      exact gdoor_idle _ _ w.heap.size _ 0 rfl rfl HLD2.out.1 ⟨_, L, 0, rfl, HFO.out.fl, HBB.out.trans HLD2.out.2.1, .inr (.inr ⟨rfl, HN.out, HY.out⟩)⟩
#print axioms gread_any
end Go.Proofs.YtocfkkppalpamaaDoor
