/- params.Read: what its reader holds; what stays apart from its boxes; the four small methods. -/
import Derived.Test.YtmglhlfjddgllaaDoorRPure
namespace Go.Proofs.YtmglhlfjddgllaaDoor
open Go Go.RowKit

/-- A block in which no row of bytes can lie: no cell of it is a byte. -/
def NoB (w : World) (K : Nat) : Prop := ∀ a x, a.block = K → w.cell? a ≠ some (.int .u8 x)
theorem noB_cells {w : World} {K : Nat} {cs : Array Value} {T : TypeId} {m : Nat × Nat} (h : w.heap[K]? = some (.cells cs T m)) (hc : ∀ v ∈ cs.toList, ∀ x, v ≠ .int .u8 x) : NoB w K := by
  intro a x ha he
  unfold World.cell? at he
  rw [ha, h] at he
  simp only at he
  split at he
  · cases he
  · have hm : (Value.int .u8 x) ∈ cs.toList := by
      have := Array.mem_of_getElem? he
      simpa using this
    exact hc _ hm x rfl
theorem Rd.apart {w w' : World} {v : Value} {zs : List Int} (h : Rd w v zs) (hk : ∀ k, k < w.heap.size → (NoB w k) ∨ w'.heap[k]? = w.heap[k]?) : Rd w' v zs := by
  obtain ⟨ao, cap, hv, h1, h2, h3, h4, hc⟩ := h
  refine ⟨ao, cap, hv, h1, h2, h3, h4, fun a ha j hj => ?_⟩
  have hcell := hc a ha j hj
  rcases hk (a.add j).block (cell_lt hcell) with hn | he
  · exact absurd hcell (hn _ _ rfl)
  · rw [← hcell]; exact World.cell?_of_block (w := w) he
theorem Rd.but {w w' : World} {v : Value} {zs : List Int} {K : Nat} (h : Rd w v zs) (hb : But K w w') (hn : NoB w K) : Rd w' v zs :=
  h.apart fun k hk => by
    by_cases e : k = K
    · exact .inl (e ▸ hn)
    · exact .inr (hb.block k hk e)
/-- Nothing but two blocks has changed of what was there. -/
structure Kq (R D : Nat) (w w' : World) : Prop where
  os : w'.os = w.os
  tape : w'.tape = w.tape
  output : w'.output = w.output
  size : w.heap.size ≤ w'.heap.size
  block : ∀ k, k < w.heap.size → k ≠ R → k ≠ D → w'.heap[k]? = w.heap[k]?
theorem Kq.refl (R D : Nat) (w : World) : Kq R D w w := ⟨rfl, rfl, rfl, Nat.le_refl _, fun _ _ _ _ => rfl⟩
theorem Kq.trans {R D : Nat} {a b c : World} (h : Kq R D a b) (k : Kq R D b c) : Kq R D a c :=
  ⟨k.os.trans h.os, k.tape.trans h.tape, k.output.trans h.output, Nat.le_trans h.size k.size, fun i hi hn hm => (k.block i (Nat.lt_of_lt_of_le hi h.size) hn hm).trans (h.block i hi hn hm)⟩
theorem Kq.l {R D : Nat} {w w' : World} (h : But R w w') : Kq R D w w' := ⟨h.os, h.tape, h.output, h.size, fun k hk hn _ => h.block k hk hn⟩
theorem Kq.r {R D : Nat} {w w' : World} (h : But D w w') : Kq R D w w' := ⟨h.os, h.tape, h.output, h.size, fun k hk _ hn => h.block k hk hn⟩
theorem Kq.of_below {R D : Nat} {w w' : World} (h : Below w.heap.size w w') : Kq R D w w' := ⟨h.os, h.tape, h.output, h.size, fun k hk _ _ => h.block k hk⟩
theorem Kq.below {R D : Nat} {w0 w w' : World} (h : Kq R D w w') (hb : Below w0.heap.size w0 w) (hR : w0.heap.size ≤ R) (hD : w0.heap.size ≤ D) : Below w0.heap.size w0 w' :=
  ⟨h.os.trans hb.os, h.tape.trans hb.tape, h.output.trans hb.output, Nat.le_trans hb.size h.size, fun k hk => (h.block k (Nat.lt_of_lt_of_le hk hb.size) (by omega) (by omega)).trans (hb.block k hk)⟩
theorem Rd.kq {R D : Nat} {w w' : World} {v : Value} {zs : List Int} (h : Rd w v zs) (hb : Kq R D w w') (hR : NoB w R) (hD : NoB w D) : Rd w' v zs :=
  h.apart fun k hk => by
    by_cases e : k = R
    · exact .inl (e ▸ hR)
    · by_cases e' : k = D
      · exact .inl (e' ▸ hD)
      · exact .inr (hb.block k hk e e')

/-- The reader's cells. -/
def rCells (B : Nat) (bd : Value) (p : Pv) (v5 v6 v7 v9 : Value) : Array Value := #[.pointer (some ⟨B, 0, none⟩), bd, .int .i64 p.i, .int .i64 p.d, .bool p.hg, .bool p.ho, .bool p.hr, v5, v6, v7, .int .i64 p.c, v9]
/-- The reader in the box R: the fields' reader in B, the body's bd, the params p as far as they are taken. -/
structure Rq (w : World) (R B : Nat) (bd : Value) (p : Pv) (v5 v6 v7 v9 : Value) : Prop where
  box : w.heap[R]? = some (.cells (rCells B bd p v5 v6 v7 v9) 56 (0, 0))
  g : Rd w v5 p.g
  o : Rd w v6 p.o
  r : Rd w v7 p.r
  s9 : ∃ a n c, v9 = .slice a n c
  sb : ∃ q, bd = .pointer q
theorem Rq.lt {w : World} {R B : Nat} {bd : Value} {p : Pv} {v5 v6 v7 v9 : Value} (h : Rq w R B bd p v5 v6 v7 v9) : R < w.heap.size := (Array.getElem?_eq_some_iff.1 h.box).1
theorem Rq.noB {w : World} {R B : Nat} {bd : Value} {p : Pv} {v5 v6 v7 v9 : Value} (h : Rq w R B bd p v5 v6 v7 v9) : NoB w R := by
  refine noB_cells h.box ?_
  obtain ⟨_, _, rfl⟩ := h.g.shape
  obtain ⟨_, _, rfl⟩ := h.o.shape
  obtain ⟨_, _, rfl⟩ := h.r.shape
  obtain ⟨_, _, _, rfl⟩ := h.s9
  obtain ⟨_, rfl⟩ := h.sb
  intro v hv x
  simp only [rCells, List.mem_cons, List.not_mem_nil, or_false] at hv
  rcases hv with rfl | rfl | rfl | rfl | rfl | rfl | rfl | rfl | rfl | rfl | rfl | rfl <;> simp
theorem Rq.cells {w : World} {R B : Nat} {bd : Value} {p : Pv} {v5 v6 v7 v9 : Value} (h : Rq w R B bd p v5 v6 v7 v9) :
    w.cell? ⟨R, 0, none⟩ = some (.pointer (some ⟨B, 0, none⟩)) ∧ w.cell? ⟨R, 1, none⟩ = some bd ∧ w.cell? ⟨R, 2, none⟩ = some (.int .i64 p.i) ∧ w.cell? ⟨R, 3, none⟩ = some (.int .i64 p.d) ∧
    w.cell? ⟨R, 4, none⟩ = some (.bool p.hg) ∧ w.cell? ⟨R, 5, none⟩ = some (.bool p.ho) ∧ w.cell? ⟨R, 6, none⟩ = some (.bool p.hr) ∧ w.cell? ⟨R, 7, none⟩ = some v5 ∧ w.cell? ⟨R, 8, none⟩ = some v6 ∧ w.cell? ⟨R, 9, none⟩ = some v7 ∧
    w.cell? ⟨R, 10, none⟩ = some (.int .i64 p.c) ∧ w.cell? ⟨R, 11, none⟩ = some v9 ∧ (∀ j, w.frozen? ⟨R, j, none⟩ = false) :=
  ⟨(cell_of_row _ R 0 _ _ (0, 0) h.box).trans rfl, (cell_of_row _ R 1 _ _ (0, 0) h.box).trans rfl, (cell_of_row _ R 2 _ _ (0, 0) h.box).trans rfl, (cell_of_row _ R 3 _ _ (0, 0) h.box).trans rfl, (cell_of_row _ R 4 _ _ (0, 0) h.box).trans rfl, (cell_of_row _ R 5 _ _ (0, 0) h.box).trans rfl, (cell_of_row _ R 6 _ _ (0, 0) h.box).trans rfl, (cell_of_row _ R 7 _ _ (0, 0) h.box).trans rfl, (cell_of_row _ R 8 _ _ (0, 0) h.box).trans rfl, (cell_of_row _ R 9 _ _ (0, 0) h.box).trans rfl, (cell_of_row _ R 10 _ _ (0, 0) h.box).trans rfl, (cell_of_row _ R 11 _ _ (0, 0) h.box).trans rfl, fun j => by simp [World.frozen?, h.box]⟩
/-- What changes nothing but blocks without bytes, and not the reader's box, keeps the reader. -/
theorem Rq.keep {w w' : World} {R B D : Nat} {bd : Value} {p : Pv} {v5 v6 v7 v9 : Value} (h : Rq w R B bd p v5 v6 v7 v9) (hb : But D w w') (hD : NoB w D) (hne : R ≠ D) : Rq w' R B bd p v5 v6 v7 v9 :=
  ⟨by rw [hb.block R h.lt hne]; exact h.box, h.g.but hb hD, h.o.but hb hD, h.r.but hb hD, h.s9, h.sb⟩
theorem Rq.below {w w' : World} {R B : Nat} {bd : Value} {p : Pv} {v5 v6 v7 v9 : Value} (h : Rq w R B bd p v5 v6 v7 v9) (hb : Below w.heap.size w w') : Rq w' R B bd p v5 v6 v7 v9 :=
  ⟨by rw [hb.block R h.lt]; exact h.box, h.g.below hb, h.o.below hb, h.r.below hb, h.s9, h.sb⟩
/-- The world behind a store into the reader's box, told by its cells. -/
theorem rset {w : World} {R B : Nat} {bd : Value} {p : Pv} {v5 v6 v7 v9 : Value} (h : Rq w R B bd p v5 v6 v7 v9) (i : Nat) (x : Value) :
    (w.setCell ⟨R, i, none⟩ x).heap[R]? = some (.cells ((rCells B bd p v5 v6 v7 v9).setIfInBounds i x) 56 (0, 0)) := heap_setCell_same w R i _ 56 x h.box

/-- A body's reader in the box D, all of it in memory ahead of D. -/
def Dq (w : World) (D : Nat) (rest : List Int) : Prop := ∃ w0 t, w0.heap.size = D ∧ Fq w0 w D rest t 3
theorem Dq.lt {w : World} {D : Nat} {rest : List Int} (h : Dq w D rest) : D < w.heap.size := by obtain ⟨_, _, _, h⟩ := h; exact h.lt
theorem Fq.noB {w0 w : World} {B : Nat} {rest : List Int} {t : Nat} {short : Int} (h : Fq w0 w B rest t short) : NoB w B := by
  obtain ⟨rv, hb, hr, _⟩ := h.box
  obtain ⟨_, _, rfl⟩ := hr.shape
  refine noB_cells hb ?_
  intro v hv x
  simp only [List.mem_cons, List.not_mem_nil, or_false] at hv
  rcases hv with rfl | rfl | rfl <;> simp
theorem Dq.noB {w : World} {D : Nat} {rest : List Int} (h : Dq w D rest) : NoB w D := by obtain ⟨_, _, _, h⟩ := h; exact h.noB
theorem Dq.byt {w : World} {D : Nat} {rest : List Int} (h : Dq w D rest) : Byt rest := by
  obtain ⟨_, _, _, h⟩ := h
  obtain ⟨_, _, hr, _⟩ := h.box
  exact hr.byt
theorem Dq.len {w : World} {D : Nat} {rest : List Int} (h : Dq w D rest) : rest.length ≤ 1000000 := by obtain ⟨_, _, _, h⟩ := h; have := h.sum; omega
theorem Dq.below {w w' : World} {D : Nat} {rest : List Int} (h : Dq w D rest) (hb : Below w.heap.size w w') : Dq w' D rest := by
  obtain ⟨w0, t, hs, h⟩ := h
  exact ⟨w0, t, hs, h.keep hb⟩
/-- A store into a box ahead of it that holds no bytes. -/
theorem Dq.set {w : World} {D K : Nat} {rest : List Int} (h : Dq w D rest) (hn : NoB w K) (hK : K < D) (i : Nat) (x : Value) : Dq (w.setCell ⟨K, i, none⟩ x) D rest := by
  obtain ⟨w0, t, hs, h⟩ := h
  obtain ⟨rv, h1, h2, h3⟩ := h.box
  have hbel := h.bel
  have hsz : (w0.setCell ⟨K, i, none⟩ x).heap.size = w0.heap.size := by simp [World.setCell]
  have hn0 : NoB w0 K := fun a y ha he => hn a y ha (by rw [hbel.cell (by omega)]; exact he)
  refine ⟨w0.setCell ⟨K, i, none⟩ x, t, by omega, ⟨?_, by rw [hsz]; exact h.lo, h.sum, rv, ?_, ?_, h3⟩⟩
  · rw [hsz]
    refine ⟨hbel.os, hbel.tape, hbel.output, by simpa [World.setCell] using hbel.size, fun k hk => ?_⟩
    by_cases e : k = K
    · subst e
      have hk2 := hbel.block k hk
      simp only [World.setCell, Array.getElem?_modify, if_true]
      rw [hk2]
    · rw [Below.heap_setCell w ⟨K, i, none⟩ x k e, Below.heap_setCell w0 ⟨K, i, none⟩ x k e]; exact hbel.block k hk
  · rw [Below.heap_setCell w ⟨K, i, none⟩ x D (show D ≠ K by omega)]; exact h1
  · exact h2.but (But.set w0 K i x) hn0
#print axioms Dq.set
end Go.Proofs.YtmglhlfjddgllaaDoor
