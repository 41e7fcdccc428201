/- The document's Put: one byte more, as its region goes. -/
import Derived.Test.YtfgjlfcadpmkhaaRPut0
import Derived.Maps.AppendAt
namespace Go.Proofs.Ytfgjlfcadpmkhaa
open Go Go.RowKit

theorem info3R : (Try.prog.info? 3).map (fun i => (i.zero, i.size, i.bytes)) = some (some (.int .i64 0), 1, 8) := by kernel_rfl
theorem infoR3 : ∃ i, Try.prog.info? 3 = some i ∧ i.zero = some (.int .i64 0) ∧ i.size = 1 ∧ i.bytes = 8 := info_parts info3R
theorem infoR5 : ∃ i, Try.prog.info? 5 = some i ∧ i.zero = some (.int .u8 0) ∧ i.size = 1 ∧ i.bytes = 1 := info_parts info5
/-- append of one cell onto a row of the call's own, as one operation of a region; where the row lies behind it. -/
theorem step_app_at {w : World} {ops : Array Oper} {o : Oper} {a : Act} {K : Act → World → Prop} {Q : Exit → Act → World → Prop} {E : Prop} (hgd : o.guard = none) (s x : Operand) (t e : TypeId) (bytes : Nat) (z : Value)
    (ho : o.op = .call { callee := .builtin .append, args := #[s, x], argTypes := #[t, t] }) (ht : Try.prog.underlying t = some (.slice e)) (hi : ∃ i, Try.prog.info? e = some i ∧ i.zero = some z ∧ i.size = 1 ∧ i.bytes = bytes) (hz1 : z.cells.size = 1)
    (base : Nat) (v : Value) (n : Nat) (xs : List Value) (hs : a.eval s = v) (hown : w.ownsRow base e 1 v n xs) (g : Nat) (u : Value) (hx : a.eval x = .slice (some ⟨g, 0, none⟩) 1 1) (hc : w.cell? ⟨g, 0, none⟩ = some u) (hu : u.oneCell' = true) (hn : n ≤ 2000000) (hb8 : bytes ≤ 8) (hbase : base ≤ w.heap.size)
    (h : ∀ v' w', w'.ownsRow base e 1 v' (n + 1) (xs ++ [u]) → w.grownBy w' v.ownBlock → (v'.ownBlock = v.ownBlock ∨ v'.ownBlock = some w.heap.size) → K (a.put o.dst v') w') :
    if Region.wanted o (yielded ops a.tmps) = true then Oper.wp Try.prog o a w K Q else E := by
  have hw : Region.wanted o (yielded ops a.tmps) = true := by simp [Region.wanted, hgd]
  rw [if_pos hw]
  obtain ⟨i, hi, hz0, hzz, hz2⟩ := hi
  have hbytes : (n + 1) * bytes ≤ 140737488355328 := Nat.le_trans (Nat.mul_le_mul (show n + 1 ≤ 2000001 by omega) hb8) (by decide)
  obtain ⟨v', w', hr, h2, h3, _, h5⟩ := run_append_own_at (P := Try.prog) (w := w) base t o.type e i z 1 bytes ht hi hz0 hzz hz2 hz1 (by decide) v n xs hown ⟨g, 0, none⟩ 1 1 [u] rfl
    (fun j y hy => by
      have hj : j = 0 := by
        have := (List.getElem?_eq_some_iff.1 hy).1
        simp at this
        omega
      subst hj
      simp at hy
      subst hy
      exact hc) (fun y hy => by rw [List.mem_singleton.1 hy]; exact hu) (by unfold maxLen; omega) hbytes hbase
  unfold Oper.wp execOp
  simp only [ho, resolve, invoke, builtin, Sem.run_bind, Sem.run_pure, Result.andThen_ok, List.map_toArray, List.map_cons, List.map_nil, hs, hx, hr]
  exact h v' w' h2 h3 h5

theorem blkLtR {w : World} {k : Nat} {o : Obj} (h : w.heap[k]? = some o) : k < w.heap.size := (Array.getElem?_eq_some_iff.1 h).1
/-- What holds in the midst of one byte's adding. -/
structure Pj (wr : World) (R base : Nat) (tv av0 bv0 : Value) (pz : Addr) (zv : Value) (va : Value) (na : Nat) (xs : List Value) (vb : Value) (nb : Nat) (ys : List Value) (X : World) : Prop where
  box : X.heap[R]? = some (.cells #[tv, av0, bv0] 31 (0, 0))
  low : R < base
  pl : pz.block < base
  pr : pz.block ≠ R
  bs : base ≤ wr.heap.size
  ra : X.ownsRow base 3 1 va na xs
  rb : X.ownsRow base 5 1 vb nb ys
  zc : X.cell? pz = some zv
  chg : Chg (blksR R av0 bv0) wr X
  nA : NewOr wr av0 va
  nB : NewOr wr bv0 vb
/-- A fresh literal of one cell. -/
structure Lj (va vb : Value) (g : Nat) (u : Value) (X : World) : Prop where
  cell : X.cell? ⟨g, 0, none⟩ = some u
  a : va.ownBlock ≠ some g
  b : vb.ownBlock ≠ some g
section
variable {wr X X' : World} {R base na nb n' : Nat} {tv av0 bv0 va vb zv v' : Value} {pz : Addr} {xs ys xs' : List Value}
theorem own_apart (h3 : X.ownsRow base 3 1 va na xs) (h5 : X.ownsRow base 5 1 vb nb ys) {g : Nat} (ha : va.ownBlock = some g) (hb : vb.ownBlock = some g) : False := by
  rcases h3.2 with ⟨e, _⟩ | ⟨g1, c1, cur1, e, _, k1, _⟩
  · rw [e] at ha; cases ha
  · rcases h5.2 with ⟨e2, _⟩ | ⟨g2, c2, cur2, e2, _, k2, _⟩
    · rw [e2] at hb; cases hb
    · rw [e] at ha
      rw [e2] at hb
      cases ha
      cases hb
      rw [k1] at k2
      simp at k2
theorem Pj.alloc (h : Pj wr R base tv av0 bv0 pz zv va na xs vb nb ys X) (o : Obj) : Pj wr R base tv av0 bv0 pz zv va na xs vb nb ys (X.alloc o) :=
  have hb := below_alloc X o
  ⟨by rw [hb.block _ (blkLtR h.box)]; exact h.box, h.low, h.pl, h.pr, h.bs, own_below h.ra hb, own_below h.rb hb, keepS hb h.zc, h.chg.trans (Chg.alloc X o), h.nA, h.nB⟩
theorem Pj.lit (h : Pj wr R base tv av0 bv0 pz zv va na xs vb nb ys X) (u : Value) (e : TypeId) : Lj va vb X.heap.size u (X.alloc (.cells #[u] e)) := by
  refine ⟨(cell_of_row _ X.heap.size 0 #[u] e (0, 0) (heap_alloc_new X _)).trans rfl, fun e => ?_, fun e => ?_⟩
  · have := (h.ra.lt _ e).2; omega
  · have := (h.rb.lt _ e).2; omega
theorem Lj.alloc {g : Nat} {u : Value} (h : Lj va vb g u X) (o : Obj) : Lj va vb g u (X.alloc o) := ⟨keepS (below_alloc X o) h.cell, h.a, h.b⟩
theorem Pj.appA (h : Pj wr R base tv av0 bv0 pz zv va na xs vb nb ys X) (ho : X'.ownsRow base 3 1 v' n' xs') (hg : X.grownBy X' va.ownBlock) (hn : v'.ownBlock = va.ownBlock ∨ v'.ownBlock = some X.heap.size) : Pj wr R base tv av0 bv0 pz zv v' n' xs' vb nb ys X' := by
  have hlow := h.low
  have hpl := h.pl
  have hsz := h.chg.size
  refine ⟨?_, h.low, h.pl, h.pr, h.bs, ho, ?_, ?_, ?_, ?_, h.nB⟩
  · rw [hg.block R (blkLtR h.box) (fun e => by have := (h.ra.lt R e.symm).1; omega)]; exact h.box
  · refine World.ownsRow.kept h.rb hg ?_
    cases e : vb.ownBlock with
    | none => exact .inl rfl
    | some g => exact .inr fun e2 => own_apart h.ra h.rb e2.symm e
  · exact hg.cell h.zc fun e => by have := (h.ra.lt _ e.symm).1; omega
  · refine ⟨hg.os.trans h.chg.os, hg.tape.trans h.chg.tape, hg.output.trans h.chg.output, Nat.le_trans hsz hg.size, fun k hk hnk => ?_⟩
    rw [hg.block k (by omega) fun e => ?_]
    · exact h.chg.block k hk hnk
    · rcases h.nA k e.symm with h1 | h1
      · exact hnk (by simp [blksR, h1])
      · omega
  · intro g hgg
    rcases hn with hn | hn
    · exact h.nA g (hn ▸ hgg)
    · rw [hn] at hgg; cases hgg; exact .inr hsz
theorem Pj.appB (h : Pj wr R base tv av0 bv0 pz zv va na xs vb nb ys X) (ho : X'.ownsRow base 5 1 v' n' xs') (hg : X.grownBy X' vb.ownBlock) (hn : v'.ownBlock = vb.ownBlock ∨ v'.ownBlock = some X.heap.size) : Pj wr R base tv av0 bv0 pz zv va na xs v' n' xs' X' := by
  have hlow := h.low
  have hpl := h.pl
  have hsz := h.chg.size
  refine ⟨?_, h.low, h.pl, h.pr, h.bs, ?_, ho, ?_, ?_, h.nA, ?_⟩
  · rw [hg.block R (blkLtR h.box) (fun e => by have := (h.rb.lt R e.symm).1; omega)]; exact h.box
  · refine World.ownsRow.kept h.ra hg ?_
    cases e : va.ownBlock with
    | none => exact .inl rfl
    | some g => exact .inr fun e2 => own_apart h.ra h.rb e e2.symm
  · exact hg.cell h.zc fun e => by have := (h.rb.lt _ e.symm).1; omega
  · refine ⟨hg.os.trans h.chg.os, hg.tape.trans h.chg.tape, hg.output.trans h.chg.output, Nat.le_trans hsz hg.size, fun k hk hnk => ?_⟩
    rw [hg.block k (by omega) fun e => ?_]
    · exact h.chg.block k hk hnk
    · rcases h.nB k e.symm with h1 | h1
      · exact hnk (by simp [blksR, h1])
      · omega
  · intro g hgg
    rcases hn with hn | hn
    · exact h.nB g (hn ▸ hgg)
    · rw [hn] at hgg; cases hgg; exact .inr hsz
theorem Lj.appA {g : Nat} {u : Value} (h : Lj va vb g u X) (hg : X.grownBy X' va.ownBlock) (hn : v'.ownBlock = va.ownBlock ∨ v'.ownBlock = some X.heap.size) : Lj v' vb g u X' := by
  have hlt := World.block_lt_of_cell? X _ h.cell
  simp only at hlt
  refine ⟨hg.cell h.cell (fun e => h.a e.symm), fun e => ?_, h.b⟩
  rcases hn with hn | hn
  · exact h.a (hn ▸ e)
  · rw [hn] at e; cases e; omega
end
theorem grown_set (X : World) (R i : Nat) (v : Value) : X.grownBy (X.setCell ⟨R, i, none⟩ v) (some R) := by
  refine ⟨rfl, rfl, rfl, ?_, fun k _ hk => Below.heap_setCell _ _ _ _ fun e => hk (by rw [e])⟩
  simp
theorem Pj.set {wr X : World} {R base na nb t : Nat} {av0 bv0 va vb zv : Value} {pz : Addr} {hl : List (Int × Int)} {p x : Int} (h : Pj wr R base (.int .i64 (t : Int)) av0 bv0 pz zv va na (hl.map (fun x => .int .i64 x.1) ++ [.int .i64 p]) vb nb (by8 (hl.map (·.2)) ++ [.int .u8 x]) X) (hna : na = hl.length + 1) (hnb : nb = hl.length + 1) (hb : Byt (hl.map (·.2))) (hx : 0 ≤ x ∧ x ≤ 255) :
    Rs ((X.setCell ⟨R, 1, none⟩ va).setCell ⟨R, 2, none⟩ vb) R base t va vb (hl ++ [(p, x)]) ∧ Chg (blksR R av0 bv0) wr ((X.setCell ⟨R, 1, none⟩ va).setCell ⟨R, 2, none⟩ vb) := by
  subst hna
  subst hnb
  have hlow := h.low
  have hR : R ∈ blksR R av0 bv0 := by simp [blksR]
  have e1 := heap_setCell_same X R 1 _ 31 va h.box
  simp only [List.setIfInBounds_toArray, List.set_cons_zero, List.set_cons_succ] at e1
  have e2 := heap_setCell_same _ R 2 _ 31 vb e1
  simp only [List.setIfInBounds_toArray, List.set_cons_zero, List.set_cons_succ] at e2
  have g1 := grown_set X R 1 va
  have g2 := grown_set (X.setCell ⟨R, 1, none⟩ va) R 2 vb
  have na : ∀ {w : World} {e : TypeId} {n : Nat} {v : Value} {xs : List Value}, w.ownsRow base e 1 v n xs → v.ownBlock = none ∨ v.ownBlock ≠ some R := fun ho => .inr fun e => by have := (ho.lt R e).1; omega
  have ra := World.ownsRow.kept (World.ownsRow.kept h.ra g1 (na h.ra)) g2 (na h.ra)
  have rb := World.ownsRow.kept (World.ownsRow.kept h.rb g1 (na h.rb)) g2 (na h.rb)
  refine ⟨⟨e2, ?_, ?_, ?_, hlow⟩, (h.chg.trans (Chg.set X 1 va hR)).trans (Chg.set _ 2 vb hR)⟩
  · simpa using ra
  · simpa [by8] using rb
  · intro y hy
    simp only [List.map_append, List.map_cons, List.map_nil, List.mem_append, List.mem_singleton] at hy
    rcases hy with hy | rfl
    · exact hb y hy
    · exact hx
/-- What one byte changes on top of what those before it changed. -/
theorem chg_more {w wr X : World} {R : Nat} {av bv av' bv' : Value} (h : Chg (blksR R av bv) w wr) (hA : NewOr w av av') (hB : NewOr w bv bv') (h2 : Chg (blksR R av' bv') wr X) : Chg (blksR R av bv) w X := by
  refine ⟨h2.os.trans h.os, h2.tape.trans h.tape, h2.output.trans h.output, Nat.le_trans h.size h2.size, fun k hk hn => ?_⟩
  have hsz := h.size
  rw [h2.block k (by omega) fun hm => ?_]
  · exact h.block k hk hn
  · rcases List.mem_cons.1 hm with rfl | hm
    · exact hn (by simp [blksR])
    · rcases List.mem_append.1 hm with hm | hm
      · rcases hA k (by simpa using hm) with h1 | h1
        · exact hn (by simp [blksR, h1])
        · omega
      · rcases hB k (by simpa using hm) with h1 | h1
        · exact hn (by simp [blksR, h1])
        · omega
theorem new_more {w wr : World} {v v' v2 : Value} (h : NewOr w v v') (h2 : NewOr wr v' v2) (hs : w.heap.size ≤ wr.heap.size) : NewOr w v v2 := fun g hg => by
  rcases h2 g hg with h1 | h1
  · exact h g h1
  · exact .inr (by omega)
theorem Rs.pj {wr : World} {R base t : Nat} {av bv zv : Value} {hl : List (Int × Int)} {pz : Addr} (h : Rs wr R base t av bv hl) (hp : pz.block < base) (hr : pz.block ≠ R) (hb : base ≤ wr.heap.size) (hz : wr.cell? pz = some zv) : Pj wr R base (.int .i64 (t : Int)) av bv pz zv av hl.length (hl.map (fun x => .int .i64 x.1)) bv hl.length (by8 (hl.map (·.2))) wr.drew :=
  ⟨h.box, h.low, hp, hr, hb, h.at', h.byte, hz, ⟨rfl, rfl, rfl, Nat.le_refl _, fun _ _ _ => rfl⟩, fun _ hg => .inl hg, fun _ hg => .inl hg⟩
section
variable {wr X : World} {R base na nb : Nat} {tv av0 bv0 va vb zv : Value} {pz : Addr} {xs ys : List Value}
theorem Pj.f1 (h : Pj wr R base tv av0 bv0 pz zv va na xs vb nb ys X) : X.cell? ⟨R, 1, none⟩ = some av0 := (cell_of_row X R 1 _ _ _ h.box).trans rfl
theorem Pj.f2 (h : Pj wr R base tv av0 bv0 pz zv va na xs vb nb ys X) : X.cell? ⟨R, 2, none⟩ = some bv0 := (cell_of_row X R 2 _ _ _ h.box).trans rfl
theorem Pj.fz (h : Pj wr R base tv av0 bv0 pz zv va na xs vb nb ys X) (j : Nat) : X.frozen? ⟨R, j, none⟩ = false := frozen_of_row X R j _ _ h.box
theorem Pj.hb (h : Pj wr R base tv av0 bv0 pz zv va na xs vb nb ys X) : base ≤ X.heap.size := Nat.le_trans h.bs h.chg.size
theorem Pj.z1 (h : Pj wr R base tv av0 bv0 pz zv va na xs vb nb ys X) (v : Value) : (X.setCell ⟨R, 1, none⟩ v).cell? pz = some zv := (grown_set X R 1 v).cell h.zc fun e => h.pr (Option.some.inj e)
theorem Pj.z2 (h : Pj wr R base tv av0 bv0 pz zv va na xs vb nb ys X) (v v2 : Value) : ((X.setCell ⟨R, 1, none⟩ v).setCell ⟨R, 2, none⟩ v2).cell? pz = some zv := (grown_set _ R 2 v2).cell (h.z1 v) fun e => h.pr (Option.some.inj e)
theorem Pj.s2 (h : Pj wr R base tv av0 bv0 pz zv va na xs vb nb ys X) (v : Value) : (X.setCell ⟨R, 1, none⟩ v).cell? ⟨R, 2, none⟩ = some bv0 ∧ (X.setCell ⟨R, 1, none⟩ v).frozen? ⟨R, 2, none⟩ = false := by
  have e1 := heap_setCell_same X R 1 _ 31 v h.box
  simp only [List.setIfInBounds_toArray, List.set_cons_zero, List.set_cons_succ] at e1
  exact ⟨(cell_of_row _ R 2 _ _ _ e1).trans rfl, frozen_of_row _ R 2 _ _ e1⟩
end
end Go.Proofs.Ytfgjlfcadpmkhaa
