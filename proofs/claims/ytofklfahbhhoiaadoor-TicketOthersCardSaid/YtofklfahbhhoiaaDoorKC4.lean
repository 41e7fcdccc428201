/- A struct of four (three) cells in a box: its cells, what a store of all leaves; what the functions that hand one back tell. -/
import Derived.Test.YtofklfahbhhoiaaDoorKCut
namespace Go.Proofs.YtofklfahbhhoiaaDoor
open Go Go.RowKit

theorem blkLt {w : World} {b : Nat} {o : Obj} (h : w.heap[b]? = some o) : b < w.heap.size := (Array.getElem?_eq_some_iff.1 h).1
theorem cells4 {w : World} {M : Nat} {T : TypeId} {c0 c1 c2 c3 : Value} (h : w.heap[M]? = some (.cells #[c0, c1, c2, c3] T (0, 0))) :
    w.cell? ⟨M, 0, none⟩ = some c0 ∧ w.cell? ⟨M, 1, none⟩ = some c1 ∧ w.cell? ⟨M, 2, none⟩ = some c2 ∧ w.cell? ⟨M, 3, none⟩ = some c3 ∧ ∀ j, w.frozen? ⟨M, j, none⟩ = false :=
  ⟨(cell_of_row w M 0 _ _ (0, 0) h).trans rfl, (cell_of_row w M 1 _ _ (0, 0) h).trans rfl, (cell_of_row w M 2 _ _ (0, 0) h).trans rfl, (cell_of_row w M 3 _ _ (0, 0) h).trans rfl, fun j => by simp [World.frozen?, h]⟩
theorem cells3 {w : World} {M : Nat} {T : TypeId} {c0 c1 c2 : Value} (h : w.heap[M]? = some (.cells #[c0, c1, c2] T (0, 0))) :
    w.cell? ⟨M, 0, none⟩ = some c0 ∧ w.cell? ⟨M, 1, none⟩ = some c1 ∧ w.cell? ⟨M, 2, none⟩ = some c2 ∧ ∀ j, w.frozen? ⟨M, j, none⟩ = false :=
  ⟨(cell_of_row w M 0 _ _ (0, 0) h).trans rfl, (cell_of_row w M 1 _ _ (0, 0) h).trans rfl, (cell_of_row w M 2 _ _ (0, 0) h).trans rfl, fun j => by simp [World.frozen?, h]⟩
theorem chain4_row {w : World} {M : Nat} {T : TypeId} {d0 d1 d2 d3 : Value} (h : w.heap[M]? = some (.cells #[d0, d1, d2, d3] T (0, 0))) (c0 c1 c2 c3 : Value) :
    ((((w.setCell ⟨M, 0, none⟩ c0).setCell ⟨M, 1, none⟩ c1).setCell ⟨M, 2, none⟩ c2).setCell ⟨M, 3, none⟩ c3).heap[M]? = some (.cells #[c0, c1, c2, c3] T (0, 0)) := by
  have e0 := heap_setCell_same _ M 0 _ T c0 h
  simp only [List.setIfInBounds_toArray, List.set_cons_zero] at e0
  have e1 := heap_setCell_same _ M 1 _ T c1 e0
  simp only [List.setIfInBounds_toArray, List.set_cons_zero, List.set_cons_succ] at e1
  have e2 := heap_setCell_same _ M 2 _ T c2 e1
  simp only [List.setIfInBounds_toArray, List.set_cons_zero, List.set_cons_succ] at e2
  have e3 := heap_setCell_same _ M 3 _ T c3 e2
  simp only [List.setIfInBounds_toArray, List.set_cons_zero, List.set_cons_succ] at e3
  exact e3
theorem chain3_row {w : World} {M : Nat} {T : TypeId} {d0 d1 d2 : Value} (h : w.heap[M]? = some (.cells #[d0, d1, d2] T (0, 0))) (c0 c1 c2 : Value) :
    (((w.setCell ⟨M, 0, none⟩ c0).setCell ⟨M, 1, none⟩ c1).setCell ⟨M, 2, none⟩ c2).heap[M]? = some (.cells #[c0, c1, c2] T (0, 0)) := by
  have e0 := heap_setCell_same _ M 0 _ T c0 h
  simp only [List.setIfInBounds_toArray, List.set_cons_zero] at e0
  have e1 := heap_setCell_same _ M 1 _ T c1 e0
  simp only [List.setIfInBounds_toArray, List.set_cons_zero, List.set_cons_succ] at e1
  have e2 := heap_setCell_same _ M 2 _ T c2 e1
  simp only [List.setIfInBounds_toArray, List.set_cons_zero, List.set_cons_succ] at e2
  exact e2
theorem chain4_but (w : World) (M : Nat) (c0 c1 c2 c3 : Value) : But M w ((((w.setCell ⟨M, 0, none⟩ c0).setCell ⟨M, 1, none⟩ c1).setCell ⟨M, 2, none⟩ c2).setCell ⟨M, 3, none⟩ c3) :=
  (((But.set _ M 0 c0).trans (But.set _ M 1 c1)).trans (But.set _ M 2 c2)).trans (But.set _ M 3 c3)
theorem chain3_but (w : World) (M : Nat) (c0 c1 c2 : Value) : But M w (((w.setCell ⟨M, 0, none⟩ c0).setCell ⟨M, 1, none⟩ c1).setCell ⟨M, 2, none⟩ c2) :=
  ((But.set _ M 0 c0).trans (But.set _ M 1 c1)).trans (But.set _ M 2 c2)
/-- What reads elsewhere reads so still. -/
theorem Rd.but {w w' : World} {M : Nat} {o : Obj} {v : Value} {zs : List Int} (h : Rd w v zs) (hb : But M w w') (hm : w.heap[M]? = some o) (ho : ∀ c e f, o = .cells c e f → ∀ x ∈ c.toList, ∀ z, x ≠ .int .u8 z) : Rd w' v zs := by
  obtain ⟨ao, cap, hv, h1, h2, h3, h4, hc⟩ := h
  refine ⟨ao, cap, hv, h1, h2, h3, h4, fun a ha j hj => ?_⟩
  have hj' := hc a ha j hj
  have hlt := cell_lt hj'
  by_cases e : (a.add j).block = M
  · exfalso
    unfold World.cell? at hj'
    rw [e, hm] at hj'
    cases o with
    | cells c t f =>
      simp only at hj'
      split at hj' <;> first | contradiction | skip
      all_goals
        first
          | (have := List.mem_of_getElem? (l := c.toList) (by simpa using hj'); exact ho c t f rfl _ this _ rfl)
          | skip
    | _ => simp at hj'
  · rw [← hj']
    unfold World.cell?
    rw [hb.block _ hlt e]
theorem res_token_read (tmps : Array Value) (w : World) (M : Nat) (c0 c1 c2 c3 x : Value) (h2 : tmps[2]?.getD undef = .pointer (some ⟨M, 0, none⟩)) (h3 : tmps[3]?.getD undef = x)
    (hL : w.heap[M]? = some (.cells #[c0, c1, c2, c3] 32 (0, 0))) :
    (results Tryd.f40 tmps).run Tryd.prog w = .ok (.tuple #[.agg #[c0, c1, c2, c3], x]) w := by
  have hcc := fun i => cell_of_row w M i _ 32 (0, 0) hL
  have a0 := hcc 0
  have a1 := hcc 1
  have a2 := hcc 2
  have a3 := hcc 3
  clear hcc
  simp [results, Tryd.results40, h2, h3, asAddr, a0, a1, a2, a3, go_sem]
theorem res_token_Look (tmps : Array Value) (w : World) (M : Nat) (c0 c1 c2 c3 x : Value) (h2 : tmps[6]?.getD undef = .pointer (some ⟨M, 0, none⟩)) (h3 : tmps[7]?.getD undef = x)
    (hL : w.heap[M]? = some (.cells #[c0, c1, c2, c3] 32 (0, 0))) :
    (results Tryd.f19 tmps).run Tryd.prog w = .ok (.tuple #[.agg #[c0, c1, c2, c3], x]) w := by
  have hcc := fun i => cell_of_row w M i _ 32 (0, 0) hL
  have a0 := hcc 0
  have a1 := hcc 1
  have a2 := hcc 2
  have a3 := hcc 3
  clear hcc
  simp [results, Tryd.results19, h2, h3, asAddr, a0, a1, a2, a3, go_sem]
theorem res_token_Check (tmps : Array Value) (w : World) (M : Nat) (c0 c1 c2 c3 x : Value) (h2 : tmps[12]?.getD undef = .pointer (some ⟨M, 0, none⟩)) (h3 : tmps[13]?.getD undef = x)
    (hL : w.heap[M]? = some (.cells #[c0, c1, c2, c3] 32 (0, 0))) :
    (results Tryd.f20 tmps).run Tryd.prog w = .ok (.tuple #[.agg #[c0, c1, c2, c3], x]) w := by
  have hcc := fun i => cell_of_row w M i _ 32 (0, 0) hL
  have a0 := hcc 0
  have a1 := hcc 1
  have a2 := hcc 2
  have a3 := hcc 3
  clear hcc
  simp [results, Tryd.results20, h2, h3, asAddr, a0, a1, a2, a3, go_sem]
theorem res_ref16_Read (tmps : Array Value) (w : World) (M : Nat) (c0 c1 c2 c3 x : Value) (h2 : tmps[2]?.getD undef = .pointer (some ⟨M, 0, none⟩)) (h3 : tmps[3]?.getD undef = x)
    (hL : w.heap[M]? = some (.cells #[c0, c1, c2, c3] 24 (0, 0))) :
    (results Tryd.f25 tmps).run Tryd.prog w = .ok (.tuple #[.agg #[c0, c1, c2, c3], x]) w := by
  have hcc := fun i => cell_of_row w M i _ 24 (0, 0) hL
  have a0 := hcc 0
  have a1 := hcc 1
  have a2 := hcc 2
  have a3 := hcc 3
  clear hcc
  simp [results, Tryd.results25, h2, h3, asAddr, a0, a1, a2, a3, go_sem]
theorem res_of (tmps : Array Value) (w : World) (M : Nat) (c0 c1 c2 c3 : Value) (h2 : tmps[2]?.getD undef = .pointer (some ⟨M, 0, none⟩))
    (hL : w.heap[M]? = some (.cells #[c0, c1, c2, c3] 32 (0, 0))) :
    (results Tryd.f14 tmps).run Tryd.prog w = .ok (.agg #[c0, c1, c2, c3]) w := by
  have hcc := fun i => cell_of_row w M i _ 32 (0, 0) hL
  have a0 := hcc 0
  have a1 := hcc 1
  have a2 := hcc 2
  have a3 := hcc 3
  clear hcc
  simp [results, Tryd.results14, h2, asAddr, a0, a1, a2, a3, go_sem]
theorem res_Redeem (tmps : Array Value) (w : World) (M : Nat) (c0 c1 c2 c3 x : Value) (h2 : tmps[8]?.getD undef = .pointer (some ⟨M, 0, none⟩)) (h3 : tmps[9]?.getD undef = x)
    (hL : w.heap[M]? = some (.cells #[c0, c1, c2, c3] 60 (0, 0))) :
    (results Tryd.f29 tmps).run Tryd.prog w = .ok (.tuple #[.agg #[c0, c1, c2, c3], x]) w := by
  have hcc := fun i => cell_of_row w M i _ 60 (0, 0) hL
  have a0 := hcc 0
  have a1 := hcc 1
  have a2 := hcc 2
  have a3 := hcc 3
  clear hcc
  simp [results, Tryd.results29, h2, h3, asAddr, a0, a1, a2, a3, go_sem]
theorem res_look (tmps : Array Value) (w : World) (M : Nat) (c0 c1 c2 c3 x : Value) (h2 : tmps[6]?.getD undef = .pointer (some ⟨M, 0, none⟩)) (h3 : tmps[7]?.getD undef = x)
    (hL : w.heap[M]? = some (.cells #[c0, c1, c2, c3] 60 (0, 0))) :
    (results Tryd.f45 tmps).run Tryd.prog w = .ok (.tuple #[.agg #[c0, c1, c2, c3], x]) w := by
  have hcc := fun i => cell_of_row w M i _ 60 (0, 0) hL
  have a0 := hcc 0
  have a1 := hcc 1
  have a2 := hcc 2
  have a3 := hcc 3
  clear hcc
  simp [results, Tryd.results45, h2, h3, asAddr, a0, a1, a2, a3, go_sem]
theorem res_ref17_Read (tmps : Array Value) (w : World) (M : Nat) (c0 c1 c2 x : Value) (h2 : tmps[2]?.getD undef = .pointer (some ⟨M, 0, none⟩)) (h3 : tmps[3]?.getD undef = x)
    (hL : w.heap[M]? = some (.cells #[c0, c1, c2] 58 (0, 0))) :
    (results Tryd.f31 tmps).run Tryd.prog w = .ok (.tuple #[.agg #[c0, c1, c2], x]) w := by
  have hcc := fun i => cell_of_row w M i _ 58 (0, 0) hL
  have a0 := hcc 0
  have a1 := hcc 1
  have a2 := hcc 2
  clear hcc
  simp [results, Tryd.results31, h2, h3, asAddr, a0, a1, a2, go_sem]
theorem res_tread (tmps : Array Value) (w : World) (M : Nat) (c0 c1 c2 x : Value) (h2 : tmps[2]?.getD undef = .pointer (some ⟨M, 0, none⟩)) (h3 : tmps[3]?.getD undef = x)
    (hL : w.heap[M]? = some (.cells #[c0, c1, c2] 3 (0, 0))) :
    (results Tryd.f54 tmps).run Tryd.prog w = .ok (.tuple #[.agg #[c0, c1, c2], x]) w := by
  have hcc := fun i => cell_of_row w M i _ 3 (0, 0) hL
  have a0 := hcc 0
  have a1 := hcc 1
  have a2 := hcc 2
  clear hcc
  simp [results, Tryd.results54, h2, h3, asAddr, a0, a1, a2, go_sem]
#print axioms res_token_read
end Go.Proofs.YtofklfahbhhoiaaDoor
