/- Look tells the term of a number, its parts in new memory. -/
import Derived.Test.YtmplcibaoanlnaaPure
namespace Go.Proofs.Ytmplcibaoanlnaa
open Go Go.RowKit

theorem info38s : (Try.prog.info? 47).map (·.size) = some 3 := by kernel_rfl
theorem results11 {tmps : Array Value} {w : World} {g : Nat} {c0 c1 c2 b : Value} (hp : tmps.getD 4 undef = .pointer (some ⟨g, 0, none⟩)) (hg : w.heap[g]? = some (.cells #[c0, c1, c2] 47 (0, 0))) (hb : tmps.getD 5 undef = b) :
    (results Try.f31 tmps).run Try.prog w = .ok (.tuple #[.agg #[c0, c1, c2], b]) w := by
  rw [results_cell_tmp (fn := Try.f31) (p := 4) (u := 5) (ty := 47) Try.results31, hp, hb]
  simp [asAddr, run_loadVar_row w g 47 47 #[c0, c1, c2] (0, 0) _ hg Try.underlying47 rfl info38s, Result.andThen]
set_option maxHeartbeats 1000000 in
set_option maxRecDepth 20000 in
theorem look_nil {w : World} {t : Int} : Calls Try.prog 31 #[.pointer none, .int .i64 t] w fun e w' => e = .returned (.tuple #[.agg #[.int .i64 0, .string ByteArray.empty, .slice none 0 0], .bool false]) ∧ Below w.heap.size w w' := by
  go_enter Try.func31, Try.ntmps31
  go_wp2_with (go_at_call 33; refine (has_nil _ t).mono ?_; rintro e w' ⟨rfl, rfl⟩)
  refine bodyPost_ret (v := .tuple #[.agg #[.int .i64 0, .string ByteArray.empty, .slice none 0 0], .bool false]) (results11 rfl (heap_alloc_new w _) rfl) rfl ⟨rfl, below_alloc w _⟩
set_option maxHeartbeats 1000000 in
set_option maxRecDepth 20000 in
theorem look_any {w : World} {B tb mb : Nat} {nv : Value} {L : List (Nd × Value)} {f : Int → ByteArray → List Int → Option Int} (h : Tbl w B tb mb nv L f) (q : Nat) (hq : q < L.length) :
    Calls Try.prog 31 #[.pointer (some ⟨tb, 0, none⟩), .int .i64 ((q : Int) + 1)] w fun e w' => ∃ pv, e = .returned (.tuple #[.agg #[.int .i64 L[q].1.1, .string L[q].1.2.1, pv], .bool true]) ∧ w'.ownsRow w.heap.size 26 1 pv L[q].1.2.2.length (cs .i64 L[q].1.2.2) ∧ Below w.heap.size w w' := by
  obtain ⟨g, c, hnv', hc9, hLc, hcell0, hcell1, hcell2⟩ := node_cell h q hq
  have hc0 : w.cell? ⟨tb, 0, none⟩ = some nv := by simp [World.cell?, h.tab]
  have hpart := h.parts L[q] (List.getElem_mem hq)
  have hok := h.ok L[q] (List.getElem_mem hq)
  have hlen := hok.2.2.1
  obtain ⟨ao, cp, hpv, _⟩ := own_shape hpart
  have hrd := (Rd.of_own hpart).1
  have hy := has_yes (w := w.alloc (.cells #[.int .i64 0, .string ByteArray.empty, .slice none 0 0] 47)) (h.keep (below_alloc w _)) ((q : Int) + 1) (by omega) (by omega)
  have hqI : (q : Int) < (L.length : Int) := by omega
  have HQ := Lib.hid hq
  have htl := blk_lt h.tab
  have hgl := cell_lt hcell0
  simp only at hgl
  have hne1 : tb ≠ w.heap.size := by omega
  have hne2 : g ≠ w.heap.size := by omega
  generalize L[q] = p at *
  obtain ⟨⟨k, s, ps⟩, pv⟩ := p
  simp only at hcell0 hcell1 hcell2 hpart hlen hpv hrd
  subst hnv'
  clear h hok hq
  go_enter Try.func31, Try.ntmps31
  go_wp2_with (go_at_call 33; refine hy.mono ?_; rintro e w' ⟨rfl, rfl⟩)
  have hrd2 := (hrd.alloc (.cells #[.int .i64 0, .string ByteArray.empty, .slice none 0 0] 47)).alloc (.cells #[.int .i64 k, .string s, .slice ao ps.length cp] 47)
  rw [hpv] at hrd2
  refine (clone_any hrd2 (by omega)).mono ?_
  rintro e w3 ⟨v3, rfl, hown3, hb3⟩
  have b3 : Below w.heap.size w w3 := (below_alloc w _).trans (((below_alloc _ _).mono (by simp)).trans (hb3.mono (by simp; omega)))
  have hA : w3.heap[w.heap.size]? = some (.cells #[.int .i64 0, .string ByteArray.empty, .slice none 0 0] 47 (0, 0)) := by
    rw [hb3.block _ (by simp; omega)]; exact heap_alloc2_old w _ _
  have hA2 : w3.heap[w.heap.size + 1]? = some (.cells #[.int .i64 k, .string s, .slice ao ps.length cp] 47 (0, 0)) := by
    rw [hb3.block _ (by simp)]; exact heap_alloc2_new w _ _
  have hs3 : w.heap.size + 2 ≤ w3.heap.size := by have := hb3.size; simp at this; omega
  obtain ⟨ao3, cp3, rfl, _⟩ := own_shape hown3
  have x0 : w3.cell? ⟨w.heap.size, 0, none⟩ = some (.int .i64 0) := by simp [World.cell?, hA]
  have x1 : w3.cell? ⟨w.heap.size, 1, none⟩ = some (.string ByteArray.empty) := by simp [World.cell?, hA]
  have x2 : w3.cell? ⟨w.heap.size, 2, none⟩ = some (.slice none 0 0) := by simp [World.cell?, hA]
  have y0 : w3.cell? ⟨w.heap.size + 1, 0, none⟩ = some (.int .i64 k) := by simp [World.cell?, hA2]
  have y1 : w3.cell? ⟨w.heap.size + 1, 1, none⟩ = some (.string s) := by simp [World.cell?, hA2]
  have y2 : w3.cell? ⟨w.heap.size + 1, 2, none⟩ = some (.slice ao ps.length cp) := by simp [World.cell?, hA2]
  have z0 : ∀ j, w3.frozen? ⟨w.heap.size, j, none⟩ = false := fun j => by simp [World.frozen?, hA]
  have z1 : ∀ j, w3.frozen? ⟨w.heap.size + 1, j, none⟩ = false := fun j => by simp [World.frozen?, hA2]
  have z00 := z0 0
  have z01 := z0 1
  have z02 := z0 2
  have z12 := z1 2
  have HA := Lib.hid hA
  clear z0 z1 hA hA2 hrd2
  go_wp2_with fail
  have h0 : (w3.setCell ⟨w.heap.size + 1, 2, none⟩ (.slice ao3 ps.length cp3)).heap[w.heap.size]? = _ := (heap_setCell_other w3 _ _ _ (by simp)).trans HA.out
  have h1 := heap_setCell_same _ w.heap.size 0 _ 47 (.int .i64 k) h0
  have h2 := heap_setCell_same _ w.heap.size 1 _ 47 (.string s) h1
  have h3 := heap_setCell_same _ w.heap.size 2 _ 47 (.slice ao3 ps.length cp3) h2
  refine bodyPost_ret (v := .tuple #[.agg #[.int .i64 k, .string s, .slice ao3 ps.length cp3], .bool true]) (results11 rfl h3 rfl) rfl ⟨_, rfl, ?_, ?_⟩
  · have hg3 : ∀ g, (Value.slice ao3 ps.length cp3).ownBlock = some g → w.heap.size + 2 ≤ g := fun g hg => by
      have := (hown3.lt g hg).1
      simp at this
      omega
    refine own_keep (own_mono hown3 (by simp; omega)) fun g hg => ?_
    have := hg3 g hg
    rw [heap_setCell_other _ _ _ _ (by simp; omega), heap_setCell_other _ _ _ _ (by simp; omega), heap_setCell_other _ _ _ _ (by simp; omega), heap_setCell_other _ _ _ _ (by simp; omega)]
  · exact (((b3.setCell (by simp) _).setCell (by simp) _).setCell (by simp) _).setCell (by simp) _
#print axioms look_any
end Go.Proofs.Ytmplcibaoanlnaa
