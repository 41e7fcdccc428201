/- The document's Next: one held byte more, as its region goes. -/
import Derived.Test.YtfgjlfcadpmkhaaRPutA
namespace Go.Proofs.Ytfgjlfcadpmkhaa
open Go Go.RowKit

/-- What holds in the midst of one byte's keeping: two rows in new memory, all that was there as it was. -/
structure Nj (w3 : World) (va : Value) (na : Nat) (xs : List Value) (vb : Value) (nb : Nat) (ys : List Value) (X : World) : Prop where
  ra : X.ownsRow w3.heap.size 3 1 va na xs
  rb : X.ownsRow w3.heap.size 5 1 vb nb ys
  bel : Below w3.heap.size w3 X
section
variable {w3 X X' : World} {na nb n' : Nat} {va vb v' : Value} {xs ys xs' : List Value}
theorem Nj.alloc (h : Nj w3 va na xs vb nb ys X) (o : Obj) : Nj w3 va na xs vb nb ys (X.alloc o) :=
  ⟨own_below h.ra (below_alloc X o), own_below h.rb (below_alloc X o), h.bel.alloc h.bel.size o⟩
theorem Nj.lit (h : Nj w3 va na xs vb nb ys X) (u : Value) (e : TypeId) : Lj va vb X.heap.size u (X.alloc (.cells #[u] e)) := by
  refine ⟨(cell_of_row _ X.heap.size 0 #[u] e (0, 0) (heap_alloc_new X _)).trans rfl, fun e => ?_, fun e => ?_⟩
  · have := (h.ra.lt _ e).2; omega
  · have := (h.rb.lt _ e).2; omega
theorem Nj.grown (h : Nj w3 va na xs vb nb ys X) {row : Option Nat} (hg : X.grownBy X' row) (hr : ∀ g, row = some g → w3.heap.size ≤ g) : Below w3.heap.size w3 X' :=
  ⟨hg.os.trans h.bel.os, hg.tape.trans h.bel.tape, hg.output.trans h.bel.output, Nat.le_trans h.bel.size hg.size, fun k hk => by
    rw [hg.block k (by have := h.bel.size; omega) fun e => by have := hr k e.symm; omega]
    exact h.bel.block k hk⟩
theorem Nj.appA (h : Nj w3 va na xs vb nb ys X) (ho : X'.ownsRow w3.heap.size 3 1 v' n' xs') (hg : X.grownBy X' va.ownBlock) : Nj w3 v' n' xs' vb nb ys X' := by
  refine ⟨ho, World.ownsRow.kept h.rb hg ?_, h.grown hg fun g hgg => (h.ra.lt g hgg).1⟩
  cases e : vb.ownBlock with
  | none => exact .inl rfl
  | some g => exact .inr fun e2 => own_apart h.ra h.rb e2.symm e
theorem Nj.appB (h : Nj w3 va na xs vb nb ys X) (ho : X'.ownsRow w3.heap.size 5 1 v' n' xs') (hg : X.grownBy X' vb.ownBlock) : Nj w3 va na xs v' n' xs' X' := by
  refine ⟨World.ownsRow.kept h.ra hg ?_, ho, h.grown hg fun g hgg => (h.rb.lt g hgg).1⟩
  cases e : va.ownBlock with
  | none => exact .inl rfl
  | some g => exact .inr fun e2 => own_apart h.ra h.rb e e2.symm
end
/-- The bytes that are kept behind a message. -/
def keepP (hl : List (Int × Int)) (t : Nat) : List (Int × Int) := hl.filter fun x => decide ((t : Int) ≤ x.1)
theorem keepP_take {hl : List (Int × Int)} {k : Nat} {x : Int × Int} (h : hl[k]? = some x) (t : Nat) : keepP (hl.take (k + 1)) t = if (t : Int) ≤ x.1 then keepP (hl.take k) t ++ [x] else keepP (hl.take k) t := by
  have e : hl.take (k + 1) = hl.take k ++ [x] := by rw [List.take_add_one, h]; rfl
  rw [e]
  unfold keepP
  rw [List.filter_append]
  by_cases hx : (t : Int) ≤ x.1 <;> simp [hx]
theorem keepP_len (hl : List (Int × Int)) (t k : Nat) : (keepP (hl.take k) t).length ≤ hl.length := by
  unfold keepP
  refine Nat.le_trans (List.length_filter_le _ _) ?_
  simp
  omega
theorem heldL_keepP (hl : List (Int × Int)) (t : Nat) {p : Int} (hp : (t : Int) ≤ p) : heldL (keepP hl t) p = heldL hl p := by
  induction hl with
  | nil => rfl
  | cons y hl ih =>
    unfold keepP at ih ⊢
    rw [List.filter_cons, heldL_cons]
    by_cases hy : (t : Int) ≤ y.1
    · rw [if_pos (by simpa using hy), heldL_cons, ih]
    · rw [if_neg (by simpa using hy), ih, if_neg (by omega)]
theorem heldL_gone (hl : List (Int × Int)) (t : Nat) {p : Int} (hp : p < (t : Int)) : heldL (keepP hl t) p = -1 := by
  induction hl with
  | nil => rfl
  | cons y hl ih =>
    unfold keepP at ih ⊢
    rw [List.filter_cons]
    by_cases hy : (t : Int) ≤ y.1
    · rw [if_pos (by simpa using hy), heldL_cons, ih, if_neg (by omega)]
    · rw [if_neg (by simpa using hy), ih]
theorem Nj.same {w3 X : World} {na nb : Nat} {va vb : Value} {xs ys : List Value} (h : Nj w3 va na xs vb nb ys X) {Y : World} (hb : Below X.heap.size X Y) : Nj w3 va na xs vb nb ys Y := ⟨own_below h.ra hb, own_below h.rb hb, h.bel.trans (hb.mono h.bel.size)⟩
theorem below_drewR (X : World) : Below X.heap.size X X.drew := ⟨rfl, rfl, rfl, Nat.le_refl _, fun _ _ => rfl⟩
theorem Nj.fin {w w3 X : World} {R base T n : Nat} {va vb tv0 av0 bv0 v : Value} {hl : List (Int × Int)} {ys : List Value} (h : Nj w3 va hl.length (hl.map fun x => .int .i64 x.1) vb hl.length (by8 (hl.map (·.2))) X)
    (hx : w3.heap[R]? = some (.cells #[tv0, av0, bv0] 31 (0, 0))) (e0 : tv0 = .int .i64 (T : Int)) (hlow : R < base) (hb : base ≤ w.heap.size) (hc : Chg [R] w w3) (hby : Byt (hl.map (·.2))) (ho : w3.ownsRow w.heap.size 5 1 v n ys) :
    Rs ((X.setCell ⟨R, 1, none⟩ va).setCell ⟨R, 2, none⟩ vb) R base T va vb hl ∧ Chg [R] w ((X.setCell ⟨R, 1, none⟩ va).setCell ⟨R, 2, none⟩ vb) ∧ ((X.setCell ⟨R, 1, none⟩ va).setCell ⟨R, 2, none⟩ vb).ownsRow w.heap.size 5 1 v n ys ∧
      (∀ g, va.ownBlock = some g → w.heap.size ≤ g) ∧ (∀ g, vb.ownBlock = some g → w.heap.size ≤ g) := by
  subst e0
  have hsz := hc.size
  have hbx := (h.bel.block R (blkLtR hx)).trans hx
  have e1 := heap_setCell_same X R 1 _ 31 va hbx
  simp only [List.setIfInBounds_toArray, List.set_cons_zero, List.set_cons_succ] at e1
  have e2 := heap_setCell_same _ R 2 _ 31 vb e1
  simp only [List.setIfInBounds_toArray, List.set_cons_zero, List.set_cons_succ] at e2
  have g1 := grown_set X R 1 va
  have g2 := grown_set (X.setCell ⟨R, 1, none⟩ va) R 2 vb
  have na : ∀ {w' : World} {b : Nat} {e : TypeId} {n : Nat} {v : Value} {xs : List Value}, w'.ownsRow b e 1 v n xs → w.heap.size ≤ b → v.ownBlock = none ∨ v.ownBlock ≠ some R := fun ho hbb => .inr fun e => by have := (ho.lt R e).1; omega
  have ra := World.ownsRow.kept (World.ownsRow.kept h.ra g1 (na h.ra hsz)) g2 (na h.ra hsz)
  have rb := World.ownsRow.kept (World.ownsRow.kept h.rb g1 (na h.rb hsz)) g2 (na h.rb hsz)
  have ho' : X.ownsRow w.heap.size 5 1 v n ys := own_below ho h.bel
  have r3 := World.ownsRow.kept (World.ownsRow.kept ho' g1 (na ho' (Nat.le_refl _))) g2 (na ho' (Nat.le_refl _))
  refine ⟨⟨e2, own_mono ra (by omega), own_mono rb (by omega), hby, hlow⟩, ?_, r3, fun g hg => by have := (h.ra.lt g hg).1; omega, fun g hg => by have := (h.rb.lt g hg).1; omega⟩
  exact ((hc.trans (Chg.of_below h.bel)).trans (Chg.set X 1 va (List.mem_singleton.2 rfl))).trans (Chg.set _ 2 vb (List.mem_singleton.2 rfl))
theorem box_sets {X : World} {R : Nat} {x y z v : Value} (h : X.heap[R]? = some (.cells #[x, y, z] 31 (0, 0))) : X.frozen? ⟨R, 1, none⟩ = false ∧ (X.setCell ⟨R, 1, none⟩ v).cell? ⟨R, 2, none⟩ = some z ∧ (X.setCell ⟨R, 1, none⟩ v).frozen? ⟨R, 2, none⟩ = false := by
  have e1 := heap_setCell_same X R 1 _ 31 v h
  simp only [List.setIfInBounds_toArray, List.set_cons_zero, List.set_cons_succ] at e1
  exact ⟨frozen_of_row X R 1 _ _ h, (cell_of_row _ R 2 _ _ _ e1).trans rfl, frozen_of_row _ R 2 _ _ e1⟩
theorem keepP_byt {hl : List (Int × Int)} (h : Byt (hl.map (·.2))) (t : Nat) : Byt ((keepP hl t).map (·.2)) := by
  intro y hy
  obtain ⟨x, hx, rfl⟩ := List.mem_map.1 hy
  exact h x.2 (List.mem_map.2 ⟨x, (List.mem_filter.1 hx).1, rfl⟩)
end Go.Proofs.Ytfgjlfcadpmkhaa
