/- params.Read: idle, data. -/
import Derived.Test.YtefcjggmlhoebaaDoorRPure
namespace Go.Proofs.YtefcjggmlhoebaaDoor
open Go Go.RowKit

/-- A block in which no row of bytes can lie: no cell of it is a byte. -/
def NoB (w : World) (K : Nat) : Prop := ∀ a x, a.block = K → w.cell? a ≠ some (.int .u8 x)
theorem noB_cells {w : World} {K : Nat} {cs : Array Value} {T : TypeId} {m : Nat × Nat} (h : w.heap[K]? = some (.cells cs T m)) (hc : ∀ v ∈ cs.toList, ∀ x, v ≠ .int .u8 x) : NoB w K := by
  intro a x ha he
  unfold World.cell? at he
  rw [ha, h] at he
  simp only at he
  split at he
  · cases he
  · have hm : (Value.int .u8 x) ∈ cs.toList := by
      have := Array.mem_of_getElem? he
      simpa using this
    exact hc _ hm x rfl
theorem Rd.apart {w w' : World} {v : Value} {zs : List Int} (h : Rd w v zs) (hk : ∀ k, k < w.heap.size → (NoB w k) ∨ w'.heap[k]? = w.heap[k]?) : Rd w' v zs := by
  obtain ⟨ao, cap, hv, h1, h2, h3, h4, hc⟩ := h
  refine ⟨ao, cap, hv, h1, h2, h3, h4, fun a ha j hj => ?_⟩
  have hcell := hc a ha j hj
  rcases hk (a.add j).block (cell_lt hcell) with hn | he
  · exact absurd hcell (hn _ _ rfl)
  · rw [← hcell]; exact World.cell?_of_block (w := w) he
theorem Rd.but {w w' : World} {v : Value} {zs : List Int} {K : Nat} (h : Rd w v zs) (hb : But K w w') (hn : NoB w K) : Rd w' v zs :=
  h.apart fun k hk => by
    by_cases e : k = K
    · exact .inl (e ▸ hn)
    · exact .inr (hb.block k hk e)
/-- Nothing but two blocks has changed of what was there. -/
structure KqP (R D : Nat) (w w' : World) : Prop where
  os : w'.os = w.os
  tape : w'.tape = w.tape
  output : w'.output = w.output
  size : w.heap.size ≤ w'.heap.size
  block : ∀ k, k < w.heap.size → k ≠ R → k ≠ D → w'.heap[k]? = w.heap[k]?
theorem KqP.refl (R D : Nat) (w : World) : KqP R D w w := ⟨rfl, rfl, rfl, Nat.le_refl _, fun _ _ _ _ => rfl⟩
theorem KqP.trans {R D : Nat} {a b c : World} (h : KqP R D a b) (k : KqP R D b c) : KqP R D a c :=
  ⟨k.os.trans h.os, k.tape.trans h.tape, k.output.trans h.output, Nat.le_trans h.size k.size, fun i hi hn hm => (k.block i (Nat.lt_of_lt_of_le hi h.size) hn hm).trans (h.block i hi hn hm)⟩
theorem KqP.l {R D : Nat} {w w' : World} (h : But R w w') : KqP R D w w' := ⟨h.os, h.tape, h.output, h.size, fun k hk hn _ => h.block k hk hn⟩
theorem KqP.r {R D : Nat} {w w' : World} (h : But D w w') : KqP R D w w' := ⟨h.os, h.tape, h.output, h.size, fun k hk _ hn => h.block k hk hn⟩
theorem KqP.of_below {R D : Nat} {w w' : World} (h : Below w.heap.size w w') : KqP R D w w' := ⟨h.os, h.tape, h.output, h.size, fun k hk _ _ => h.block k hk⟩
theorem KqP.below {R D : Nat} {w0 w w' : World} (h : KqP R D w w') (hb : Below w0.heap.size w0 w) (hR : w0.heap.size ≤ R) (hD : w0.heap.size ≤ D) : Below w0.heap.size w0 w' :=
  ⟨h.os.trans hb.os, h.tape.trans hb.tape, h.output.trans hb.output, Nat.le_trans hb.size h.size, fun k hk => (h.block k (Nat.lt_of_lt_of_le hk hb.size) (by omega) (by omega)).trans (hb.block k hk)⟩
theorem Rd.kqP {R D : Nat} {w w' : World} {v : Value} {zs : List Int} (h : Rd w v zs) (hb : KqP R D w w') (hR : NoB w R) (hD : NoB w D) : Rd w' v zs :=
  h.apart fun k hk => by
    by_cases e : k = R
    · exact .inl (e ▸ hR)
    · by_cases e' : k = D
      · exact .inl (e' ▸ hD)
      · exact .inr (hb.block k hk e e')

/-- The reader's cells. -/
def rCells (B : Nat) (bd : Value) (p : Pv) (v5 v6 v7 v9 : Value) : Array Value := #[.pointer (some ⟨B, 0, none⟩), bd, .int .i64 p.i, .int .i64 p.d, .bool p.hg, .bool p.ho, .bool p.hr, v5, v6, v7, .int .i64 p.c, v9]
/-- The reader in the box R: the fields' reader in B, the body's bd, the params p as far as they are taken. -/
structure Rq (w : World) (R B : Nat) (bd : Value) (p : Pv) (v5 v6 v7 v9 : Value) : Prop where
  box : w.heap[R]? = some (.cells (rCells B bd p v5 v6 v7 v9) 102 (0, 0))
  g : Rd w v5 p.g
  o : Rd w v6 p.o
  r : Rd w v7 p.r
  s9 : ∃ a n c, v9 = .slice a n c
  sb : ∃ q, bd = .pointer q
theorem Rq.lt {w : World} {R B : Nat} {bd : Value} {p : Pv} {v5 v6 v7 v9 : Value} (h : Rq w R B bd p v5 v6 v7 v9) : R < w.heap.size := (Array.getElem?_eq_some_iff.1 h.box).1
theorem Rq.noB {w : World} {R B : Nat} {bd : Value} {p : Pv} {v5 v6 v7 v9 : Value} (h : Rq w R B bd p v5 v6 v7 v9) : NoB w R := by
  refine noB_cells h.box ?_
  obtain ⟨_, _, rfl⟩ := h.g.shape
  obtain ⟨_, _, rfl⟩ := h.o.shape
  obtain ⟨_, _, rfl⟩ := h.r.shape
  obtain ⟨_, _, _, rfl⟩ := h.s9
  obtain ⟨_, rfl⟩ := h.sb
  intro v hv x
  simp only [rCells, List.mem_cons, List.not_mem_nil, or_false] at hv
  rcases hv with rfl | rfl | rfl | rfl | rfl | rfl | rfl | rfl | rfl | rfl | rfl | rfl <;> simp
theorem Rq.cells {w : World} {R B : Nat} {bd : Value} {p : Pv} {v5 v6 v7 v9 : Value} (h : Rq w R B bd p v5 v6 v7 v9) :
    w.cell? ⟨R, 0, none⟩ = some (.pointer (some ⟨B, 0, none⟩)) ∧ w.cell? ⟨R, 1, none⟩ = some bd ∧ w.cell? ⟨R, 2, none⟩ = some (.int .i64 p.i) ∧ w.cell? ⟨R, 3, none⟩ = some (.int .i64 p.d) ∧
    w.cell? ⟨R, 4, none⟩ = some (.bool p.hg) ∧ w.cell? ⟨R, 5, none⟩ = some (.bool p.ho) ∧ w.cell? ⟨R, 6, none⟩ = some (.bool p.hr) ∧ w.cell? ⟨R, 7, none⟩ = some v5 ∧ w.cell? ⟨R, 8, none⟩ = some v6 ∧ w.cell? ⟨R, 9, none⟩ = some v7 ∧
    w.cell? ⟨R, 10, none⟩ = some (.int .i64 p.c) ∧ w.cell? ⟨R, 11, none⟩ = some v9 ∧ (∀ j, w.frozen? ⟨R, j, none⟩ = false) :=
  ⟨(cell_of_row _ R 0 _ _ (0, 0) h.box).trans rfl, (cell_of_row _ R 1 _ _ (0, 0) h.box).trans rfl, (cell_of_row _ R 2 _ _ (0, 0) h.box).trans rfl, (cell_of_row _ R 3 _ _ (0, 0) h.box).trans rfl, (cell_of_row _ R 4 _ _ (0, 0) h.box).trans rfl, (cell_of_row _ R 5 _ _ (0, 0) h.box).trans rfl, (cell_of_row _ R 6 _ _ (0, 0) h.box).trans rfl, (cell_of_row _ R 7 _ _ (0, 0) h.box).trans rfl, (cell_of_row _ R 8 _ _ (0, 0) h.box).trans rfl, (cell_of_row _ R 9 _ _ (0, 0) h.box).trans rfl, (cell_of_row _ R 10 _ _ (0, 0) h.box).trans rfl, (cell_of_row _ R 11 _ _ (0, 0) h.box).trans rfl, fun j => by simp [World.frozen?, h.box]⟩
/-- What changes nothing but blocks without bytes, and not the reader's box, keeps the reader. -/
theorem Rq.keep {w w' : World} {R B D : Nat} {bd : Value} {p : Pv} {v5 v6 v7 v9 : Value} (h : Rq w R B bd p v5 v6 v7 v9) (hb : But D w w') (hD : NoB w D) (hne : R ≠ D) : Rq w' R B bd p v5 v6 v7 v9 :=
  ⟨by rw [hb.block R h.lt hne]; exact h.box, h.g.but hb hD, h.o.but hb hD, h.r.but hb hD, h.s9, h.sb⟩
theorem Rq.below {w w' : World} {R B : Nat} {bd : Value} {p : Pv} {v5 v6 v7 v9 : Value} (h : Rq w R B bd p v5 v6 v7 v9) (hb : Below w.heap.size w w') : Rq w' R B bd p v5 v6 v7 v9 :=
  ⟨by rw [hb.block R h.lt]; exact h.box, h.g.below hb, h.o.below hb, h.r.below hb, h.s9, h.sb⟩
/-- The world behind a store into the reader's box, told by its cells. -/
theorem rset {w : World} {R B : Nat} {bd : Value} {p : Pv} {v5 v6 v7 v9 : Value} (h : Rq w R B bd p v5 v6 v7 v9) (i : Nat) (x : Value) :
    (w.setCell ⟨R, i, none⟩ x).heap[R]? = some (.cells ((rCells B bd p v5 v6 v7 v9).setIfInBounds i x) 102 (0, 0)) := heap_setCell_same w R i _ 102 x h.box

/-- A body's reader in the box D, all of it in memory ahead of D. -/
def Dq (w : World) (D : Nat) (rest : List Int) : Prop := ∃ w0 t, w0.heap.size = D ∧ Fq w0 w D rest t 3
theorem Dq.lt {w : World} {D : Nat} {rest : List Int} (h : Dq w D rest) : D < w.heap.size := by obtain ⟨_, _, _, h⟩ := h; exact h.lt
theorem Fq.noB {w0 w : World} {B : Nat} {rest : List Int} {t : Nat} {short : Int} (h : Fq w0 w B rest t short) : NoB w B := by
  obtain ⟨rv, hb, hr, _⟩ := h.box
  obtain ⟨_, _, rfl⟩ := hr.shape
  refine noB_cells hb ?_
  intro v hv x
  simp only [List.mem_cons, List.not_mem_nil, or_false] at hv
  rcases hv with rfl | rfl | rfl <;> simp
theorem Dq.noB {w : World} {D : Nat} {rest : List Int} (h : Dq w D rest) : NoB w D := by obtain ⟨_, _, _, h⟩ := h; exact h.noB
theorem Dq.byt {w : World} {D : Nat} {rest : List Int} (h : Dq w D rest) : Byt rest := by
  obtain ⟨_, _, _, h⟩ := h
  obtain ⟨_, _, hr, _⟩ := h.box
  exact hr.byt
theorem Dq.len {w : World} {D : Nat} {rest : List Int} (h : Dq w D rest) : rest.length ≤ 1000000 := by obtain ⟨_, _, _, h⟩ := h; have := h.sum; omega
theorem Dq.below {w w' : World} {D : Nat} {rest : List Int} (h : Dq w D rest) (hb : Below w.heap.size w w') : Dq w' D rest := by
  obtain ⟨w0, t, hs, h⟩ := h
  exact ⟨w0, t, hs, h.keep hb⟩
/-- A store into a box ahead of it that holds no bytes. -/
theorem Dq.set {w : World} {D K : Nat} {rest : List Int} (h : Dq w D rest) (hn : NoB w K) (hK : K < D) (i : Nat) (x : Value) : Dq (w.setCell ⟨K, i, none⟩ x) D rest := by
  obtain ⟨w0, t, hs, h⟩ := h
  obtain ⟨rv, h1, h2, h3⟩ := h.box
  have hbel := h.bel
  have hsz : (w0.setCell ⟨K, i, none⟩ x).heap.size = w0.heap.size := by simp [World.setCell]
  have hn0 : NoB w0 K := fun a y ha he => hn a y ha (by rw [hbel.cell (by omega)]; exact he)
  refine ⟨w0.setCell ⟨K, i, none⟩ x, t, by omega, ⟨?_, by rw [hsz]; exact h.lo, h.sum, rv, ?_, ?_, h3⟩⟩
  · rw [hsz]
    refine ⟨hbel.os, hbel.tape, hbel.output, by simpa [World.setCell] using hbel.size, fun k hk => ?_⟩
    by_cases e : k = K
    · subst e
      have hk2 := hbel.block k hk
      simp only [World.setCell, Array.getElem?_modify, if_true]
      rw [hk2]
    · rw [Below.heap_setCell w ⟨K, i, none⟩ x k e, Below.heap_setCell w0 ⟨K, i, none⟩ x k e]; exact hbel.block k hk
  · rw [Below.heap_setCell w ⟨K, i, none⟩ x D (show D ≠ K by omega)]; exact h1
  · exact h2.but (But.set w0 K i x) hn0
#print axioms Dq.set
end Go.Proofs.YtefcjggmlhoebaaDoor
namespace Go.Proofs.YtefcjggmlhoebaaDoor
open Go Go.RowKit

theorem Fq.drew {w0 w : World} {B : Nat} {rest : List Int} {t : Nat} {short : Int} (h : Fq w0 w B rest t short) : Fq w0 w.drew B rest t short := ⟨h.bel.drew, h.lo, h.sum, h.box⟩
set_option maxRecDepth 20000 in
set_option maxHeartbeats 2000000 in
theorem pwhole_any {w : World} {R B D : Nat} {p : Pv} {v5 v6 v7 v9 : Value} {v : List Int} (h : Rq w R B (.pointer (some ⟨D, 0, none⟩)) p v5 v6 v7 v9) (hd : Dq w D v) :
    Calls Tryd.prog 104 #[.pointer (some ⟨R, 0, none⟩)] w fun e w' => ∃ x, e = .returned x ∧ (Rd w' x v ∧ Plain x) ∧ Dq w' D [] ∧ But D w w' := by
  obtain ⟨_, c1, _⟩ := h.cells
  obtain ⟨w0, t, hs, hF⟩ := hd
  have hl := left_q hF.drew
  have hb := bytes_q hF.drew v.length (Nat.le_refl _)
  rw [List.take_of_length_le (Nat.le_refl _), List.drop_length] at hb
  clear h hF
  go_enter Tryd.func104, Tryd.ntmps104
  go_wp2_with fail
  go_region_with (first
    | (go_at_call 62; refine hl.mono ?_; rintro e w1 ⟨rfl, rfl⟩)
    | (go_at_call 84; refine hb.mono ?_; rintro e w1 ⟨x, rfl, ⟨hx, hp⟩, hF, hbt⟩))
  all_goals try go_wp2
  all_goals go_ret
  all_goals exact ⟨_, rfl, ⟨hx.rd, hp⟩, ⟨w0, _, hs, hF⟩, ((But.refl D w).drew).trans hbt⟩

/-- Numbers that read, in memory at or behind lo. -/
structure RiA (lo : Nat) (w : World) (v : Value) (zs : List Int) : Prop where
  rd : Ri w v zs
  far : ∀ a n c, v = .slice (some a) n c → zs ≠ [] → lo ≤ a.block
theorem RiA.nil (lo : Nat) (w : World) : RiA lo w (.slice none 0 0) [] := ⟨Ri.nil w, fun _ _ _ h => by cases h⟩
theorem RiA.mono {lo lo' : Nat} {w : World} {v : Value} {zs : List Int} (h : RiA lo w v zs) (hl : lo' ≤ lo) : RiA lo' w v zs := ⟨h.rd, fun a n c e hz => Nat.le_trans hl (h.far a n c e hz)⟩
/-- What taking a field's body does: the params have it, or it panics with 3; what is left of the body tells whether it was right. -/
def Tkd (n : Int) (v : List Int) (w : World) (R B D : Nat) (p : Pv) (e : Ending) (w' : World) : Prop :=
  (e = errPanic 3 ∧ KqP R D w w' ∧ putP p n v = none) ∨
  ∃ p' v5 v6 v7 v9 rest, e = .returned (.tuple #[]) ∧ Rq w' R B (.pointer (some ⟨D, 0, none⟩)) p' v5 v6 v7 v9 ∧ Dq w' D rest ∧ KqP R D w w' ∧ RiA w.heap.size w' v9 p'.l ∧ (n < 17 → v9 = .slice none 0 0 ∧ p'.l = []) ∧
    (rest = [] → putP p n v = some p') ∧ (rest ≠ [] → putP p n v = none)
/-- A method that can be called, and takes the field n. -/
structure Tk (F : Nat) (n : Int) : Prop where
  ent : ∀ (args : Array Value) (w : World), (callFunc F args).run Tryd.prog w = .ok (.enter F args) w
  does : ∀ (w : World) (R B D : Nat) (p : Pv) (v5 v6 v7 : Value) (v : List Int), Rq w R B (.pointer (some ⟨D, 0, none⟩)) p v5 v6 v7 (.slice none 0 0) → R < D → p.l = [] → Dq w D v →
    Calls Tryd.prog F #[.pointer (some ⟨R, 0, none⟩)] w (Tkd n v w R B D p)
theorem enterpP {F : Nat} {fn : Func} (hf : Tryd.prog.funcs[F]? = some fn) (hn : (fn.name == "runtime.NumGoroutine") = false) (hb : fn.body.isNone = false) (args : Array Value) (w : World) : (callFunc F args).run Tryd.prog w = .ok (.enter F args) w := by
  have hn' : ¬ fn.name = "runtime.NumGoroutine" := by simpa using hn
  have hb' : ¬ fn.body = none := by intro e; rw [e] at hb; cases hb
  simp [callFunc, hf, hn', hb']
theorem Plain.slice {v : Value} (h : Plain v) : ∃ a n c, v = .slice a n c := by
  rcases h with rfl | ⟨b, off, n, cap, rfl⟩
  · exact ⟨_, _, _, rfl⟩
  · exact ⟨_, _, _, rfl⟩

set_option maxRecDepth 20000 in
set_option maxHeartbeats 2000000 in
theorem does_goal (w : World) (R B D : Nat) (p : Pv) (v5 v6 v7 : Value) (v : List Int) (h : Rq w R B (.pointer (some ⟨D, 0, none⟩)) p v5 v6 v7 (.slice none 0 0)) (hR : R < D) (hl : p.l = []) (hd : Dq w D v) :
    Calls Tryd.prog 93 #[.pointer (some ⟨R, 0, none⟩)] w (Tkd 0 v w R B D p) := by
  have hw := pwhole_any h hd
  have HD := Lib.hid hd.noB
  have HH := Lib.hid h
  clear hd h
  go_enter Tryd.func93, Tryd.ntmps93
  go_wp2_with (go_at_call 104; refine hw.mono ?_; rintro e w1 ⟨x, rfl, ⟨hx, hp⟩, hd1, hb1⟩; obtain ⟨xa, xn, xc, rfl⟩ := hp.slice; have h1 := HH.out.keep hb1 HD.out (by omega); obtain ⟨c0, c1, c2, c3, c4, c5, c6, c7, c8, c9, c10, c11, cf⟩ := h1.cells)
  go_end0
  have hn := h1.noB
  have e1 := rset h1 4 (.bool true)
  have e2 := heap_setCell_same _ R 7 _ 102 (.slice xa xn xc) e1
  have hbt : But R w1 ((w1.setCell ⟨R, 4, none⟩ (.bool true)).setCell ⟨R, 7, none⟩ (.slice xa xn xc)) := (But.set w1 R 4 _).trans (But.set _ R 7 _)
  have hk : ∀ {u : Value} {zs : List Int}, Rd w1 u zs → Rd ((w1.setCell ⟨R, 4, none⟩ (.bool true)).setCell ⟨R, 7, none⟩ (.slice xa xn xc)) u zs := fun h => h.but hbt hn
  have q1 : Rq (w1.setCell ⟨R, 4, none⟩ (.bool true)) R B (.pointer (some ⟨D, 0, none⟩)) { p with hg := true } v5 v6 v7 (.slice none 0 0) :=
    ⟨e1, h1.g.but (But.set w1 R 4 _) hn, h1.o.but (But.set w1 R 4 _) hn, h1.r.but (But.set w1 R 4 _) hn, h1.s9, h1.sb⟩
  refine .inr ⟨{ p with hg := true, g := v }, .slice xa xn xc, v6, v7, .slice none 0 0, [], rfl, ⟨e2, hk hx, hk h1.o, hk h1.r, h1.s9, h1.sb⟩, (hd1.set hn hR 4 _).set q1.noB hR 7 _, (KqP.r hb1).trans (KqP.l hbt), ?_, fun _ => ⟨rfl, hl⟩, fun _ => rfl, fun h => absurd rfl h⟩
  rw [show ({ p with hg := true, g := v } : Pv).l = [] from hl]; exact RiA.nil _ _
end Go.Proofs.YtefcjggmlhoebaaDoor
namespace Go.Proofs.YtefcjggmlhoebaaDoor
open Go Go.RowKit

set_option maxRecDepth 20000 in
set_option maxHeartbeats 2000000 in
theorem does_own (w : World) (R B D : Nat) (p : Pv) (v5 v6 v7 : Value) (v : List Int) (h : Rq w R B (.pointer (some ⟨D, 0, none⟩)) p v5 v6 v7 (.slice none 0 0)) (hR : R < D) (hl : p.l = []) (hd : Dq w D v) :
    Calls Tryd.prog 96 #[.pointer (some ⟨R, 0, none⟩)] w (Tkd 15 v w R B D p) := by
  have hw := pwhole_any h hd
  have HD := Lib.hid hd.noB
  have HH := Lib.hid h
  clear hd h
  go_enter Tryd.func96, Tryd.ntmps96
  go_wp2_with (go_at_call 104; refine hw.mono ?_; rintro e w1 ⟨x, rfl, ⟨hx, hp⟩, hd1, hb1⟩; obtain ⟨xa, xn, xc, rfl⟩ := hp.slice; have h1 := HH.out.keep hb1 HD.out (by omega); obtain ⟨c0, c1, c2, c3, c4, c5, c6, c7, c8, c9, c10, c11, cf⟩ := h1.cells)
  go_end0
  have hn := h1.noB
  have e1 := rset h1 5 (.bool true)
  have e2 := heap_setCell_same _ R 8 _ 102 (.slice xa xn xc) e1
  have hbt : But R w1 ((w1.setCell ⟨R, 5, none⟩ (.bool true)).setCell ⟨R, 8, none⟩ (.slice xa xn xc)) := (But.set w1 R 5 _).trans (But.set _ R 8 _)
  have hk : ∀ {u : Value} {zs : List Int}, Rd w1 u zs → Rd ((w1.setCell ⟨R, 5, none⟩ (.bool true)).setCell ⟨R, 8, none⟩ (.slice xa xn xc)) u zs := fun h => h.but hbt hn
  have q1 : Rq (w1.setCell ⟨R, 5, none⟩ (.bool true)) R B (.pointer (some ⟨D, 0, none⟩)) { p with ho := true } v5 v6 v7 (.slice none 0 0) :=
    ⟨e1, h1.g.but (But.set w1 R 5 _) hn, h1.o.but (But.set w1 R 5 _) hn, h1.r.but (But.set w1 R 5 _) hn, h1.s9, h1.sb⟩
  refine .inr ⟨{ p with ho := true, o := v }, v5, .slice xa xn xc, v7, .slice none 0 0, [], rfl, ⟨e2, hk h1.g, hk hx, hk h1.r, h1.s9, h1.sb⟩, (hd1.set hn hR 5 _).set q1.noB hR 8 _, (KqP.r hb1).trans (KqP.l hbt), ?_, fun _ => ⟨rfl, hl⟩, fun _ => by simp [putP], fun h => absurd rfl h⟩
  rw [show ({ p with ho := true, o := v } : Pv).l = [] from hl]; exact RiA.nil _ _
set_option maxRecDepth 20000 in
set_option maxHeartbeats 2000000 in
theorem does_retry (w : World) (R B D : Nat) (p : Pv) (v5 v6 v7 : Value) (v : List Int) (h : Rq w R B (.pointer (some ⟨D, 0, none⟩)) p v5 v6 v7 (.slice none 0 0)) (hR : R < D) (hl : p.l = []) (hd : Dq w D v) :
    Calls Tryd.prog 97 #[.pointer (some ⟨R, 0, none⟩)] w (Tkd 16 v w R B D p) := by
  have hw := pwhole_any h hd
  have HD := Lib.hid hd.noB
  have HH := Lib.hid h
  clear hd h
  go_enter Tryd.func97, Tryd.ntmps97
  go_wp2_with (go_at_call 104; refine hw.mono ?_; rintro e w1 ⟨x, rfl, ⟨hx, hp⟩, hd1, hb1⟩; obtain ⟨xa, xn, xc, rfl⟩ := hp.slice; have h1 := HH.out.keep hb1 HD.out (by omega); obtain ⟨c0, c1, c2, c3, c4, c5, c6, c7, c8, c9, c10, c11, cf⟩ := h1.cells)
  go_end0
  have hn := h1.noB
  have e1 := rset h1 6 (.bool true)
  have e2 := heap_setCell_same _ R 9 _ 102 (.slice xa xn xc) e1
  have hbt : But R w1 ((w1.setCell ⟨R, 6, none⟩ (.bool true)).setCell ⟨R, 9, none⟩ (.slice xa xn xc)) := (But.set w1 R 6 _).trans (But.set _ R 9 _)
  have hk : ∀ {u : Value} {zs : List Int}, Rd w1 u zs → Rd ((w1.setCell ⟨R, 6, none⟩ (.bool true)).setCell ⟨R, 9, none⟩ (.slice xa xn xc)) u zs := fun h => h.but hbt hn
  have q1 : Rq (w1.setCell ⟨R, 6, none⟩ (.bool true)) R B (.pointer (some ⟨D, 0, none⟩)) { p with hr := true } v5 v6 v7 (.slice none 0 0) :=
    ⟨e1, h1.g.but (But.set w1 R 6 _) hn, h1.o.but (But.set w1 R 6 _) hn, h1.r.but (But.set w1 R 6 _) hn, h1.s9, h1.sb⟩
  refine .inr ⟨{ p with hr := true, r := v }, v5, v6, .slice xa xn xc, .slice none 0 0, [], rfl, ⟨e2, hk h1.g, hk h1.o, hk hx, h1.s9, h1.sb⟩, (hd1.set hn hR 6 _).set q1.noB hR 9 _, (KqP.r hb1).trans (KqP.l hbt), ?_, fun _ => ⟨rfl, hl⟩, fun _ => by simp [putP], fun h => absurd rfl h⟩
  rw [show ({ p with hr := true, r := v } : Pv).l = [] from hl]; exact RiA.nil _ _
end Go.Proofs.YtefcjggmlhoebaaDoor
namespace Go.Proofs.YtefcjggmlhoebaaDoor
open Go Go.RowKit

set_option maxRecDepth 20000 in
set_option maxHeartbeats 2000000 in
theorem does_idle (w : World) (R B D : Nat) (p : Pv) (v5 v6 v7 : Value) (v : List Int) (h : Rq w R B (.pointer (some ⟨D, 0, none⟩)) p v5 v6 v7 (.slice none 0 0)) (hR : R < D) (hl : p.l = []) (hd : Dq w D v) :
    Calls Tryd.prog 94 #[.pointer (some ⟨R, 0, none⟩)] w (Tkd 1 v w R B D p) := by
  have HD := Lib.hid hd.noB
  have HH := Lib.hid h
  have hbyt := hd.byt
  obtain ⟨c0, c1, c2, c3, c4, c5, c6, c7, c8, c9, c10, c11, cf⟩ := h.cells
  obtain ⟨w0, t, hs, hF⟩ := hd
  rcases rd_size hbyt with ⟨e0, ⟨_, _⟩, k, ek, _, _, hk⟩ | ⟨e1, e2, e3⟩
  · have hrd : rd v = ((rd v).1, (k : Int), 0) := by rw [← ek, ← e0]
    have hn := number_q hF _ k hrd hk
    have HP : Hid (∀ rest, rest = v.drop k → (rest = [] → putP p 1 v = some { p with i := (rd v).1 }) ∧ (rest ≠ [] → putP p 1 v = none)) := Lib.hid (by
      rintro rest rfl
      have hdl : v.drop k = [] ↔ k = v.length := by rw [List.drop_eq_nil_iff]; omega
      have hw : wholeN v = if k = v.length then some (rd v).1 else none := by
        unfold wholeN
        rw [ek]
        simp [e0]
      constructor
      · intro hr; simp [putP, hw, hdl.1 hr]
      · intro hr
        have : ¬ k = v.length := fun e => hr (hdl.2 e)
        simp [putP, hw, this])
    generalize (rd v).1 = N at *
    clear hF h hrd ek e0 c0 c3 c4 c5 c6 c7 c8 c9 c10 c11
    go_enter Tryd.func94, Tryd.ntmps94
    go_wp2_with (go_at_call 83; refine hn.mono ?_; rintro e w1 ⟨rfl, hd1, hb1⟩; have h1 := HH.out.keep hb1 HD.out (by omega); obtain ⟨c0, c1, c2, c3, c4, c5, c6, c7, c8, c9, c10, c11, cf⟩ := h1.cells)
    go_end0
    have hn := h1.noB
    have e1 := rset h1 2 (.int .i64 N)
    have hbt : But R w1 (w1.setCell ⟨R, 2, none⟩ (.int .i64 N)) := But.set w1 R 2 _
    have q1 : Rq (w1.setCell ⟨R, 2, none⟩ (.int .i64 N)) R B (.pointer (some ⟨D, 0, none⟩)) { p with i := N } v5 v6 v7 (.slice none 0 0) :=
      ⟨e1, h1.g.but hbt hn, h1.o.but hbt hn, h1.r.but hbt hn, h1.s9, h1.sb⟩
    have hp := HP.out _ rfl
    refine .inr ⟨{ p with i := N }, v5, v6, v7, .slice none 0 0, v.drop k, rfl, q1, Dq.set ⟨w0, _, hs, hd1⟩ hn hR 2 _, (KqP.r hb1).trans (KqP.l hbt), ?_, fun _ => ⟨rfl, hl⟩, hp.1, hp.2⟩
    rw [show ({ p with i := N } : Pv).l = [] from hl]; exact RiA.nil _ _
  · have hrd : rd v = (0, 0, (rd v).2.2) := Prod.ext e1 (Prod.ext e2 rfl)
    have hn := number_e hF _ hrd e3
    have HP : Hid (putP p 1 v = none) := Lib.hid (by
      have : ¬ ((rd v).2.2 = 0) := by omega
      simp [putP, wholeN, this])
    have e4 : (if (rd v).2.2 = 2 then (3 : Int) else (rd v).2.2) = 3 := by split <;> omega
    rw [e4] at hn
    clear hF h hrd e1 e2 e3 e4 c0 c3 c4 c5 c6 c7 c8 c9 c10 c11
    go_enter Tryd.func94, Tryd.ntmps94
    go_wp2_with (go_at_call 83; refine hn.mono ?_; rintro e w1 ⟨he, hb1⟩; rw [errPanic] at he; subst he)
    exact ⟨rfl, .inl ⟨rfl, KqP.r hb1, HP.out⟩⟩
set_option maxRecDepth 20000 in
set_option maxHeartbeats 2000000 in
theorem does_data (w : World) (R B D : Nat) (p : Pv) (v5 v6 v7 : Value) (v : List Int) (h : Rq w R B (.pointer (some ⟨D, 0, none⟩)) p v5 v6 v7 (.slice none 0 0)) (hR : R < D) (hl : p.l = []) (hd : Dq w D v) :
    Calls Tryd.prog 95 #[.pointer (some ⟨R, 0, none⟩)] w (Tkd 4 v w R B D p) := by
  have HD := Lib.hid hd.noB
  have HH := Lib.hid h
  have hbyt := hd.byt
  obtain ⟨c0, c1, c2, c3, c4, c5, c6, c7, c8, c9, c10, c11, cf⟩ := h.cells
  obtain ⟨w0, t, hs, hF⟩ := hd
  rcases rd_size hbyt with ⟨e0, ⟨_, _⟩, k, ek, _, _, hk⟩ | ⟨e1, e2, e3⟩
  · have hrd : rd v = ((rd v).1, (k : Int), 0) := by rw [← ek, ← e0]
    have hn := number_q hF _ k hrd hk
    have HP : Hid (∀ rest, rest = v.drop k → (rest = [] → putP p 4 v = some { p with d := (rd v).1 }) ∧ (rest ≠ [] → putP p 4 v = none)) := Lib.hid (by
      rintro rest rfl
      have hdl : v.drop k = [] ↔ k = v.length := by rw [List.drop_eq_nil_iff]; omega
      have hw : wholeN v = if k = v.length then some (rd v).1 else none := by
        unfold wholeN
        rw [ek]
        simp [e0]
      constructor
      · intro hr; simp [putP, hw, hdl.1 hr]
      · intro hr
        have : ¬ k = v.length := fun e => hr (hdl.2 e)
        simp [putP, hw, this])
    generalize (rd v).1 = N at *
    clear hF h hrd ek e0 c0 c2 c4 c5 c6 c7 c8 c9 c10 c11
    go_enter Tryd.func95, Tryd.ntmps95
    go_wp2_with (go_at_call 83; refine hn.mono ?_; rintro e w1 ⟨rfl, hd1, hb1⟩; have h1 := HH.out.keep hb1 HD.out (by omega); obtain ⟨c0, c1, c2, c3, c4, c5, c6, c7, c8, c9, c10, c11, cf⟩ := h1.cells)
    go_end0
    have hn := h1.noB
    have e1 := rset h1 3 (.int .i64 N)
    have hbt : But R w1 (w1.setCell ⟨R, 3, none⟩ (.int .i64 N)) := But.set w1 R 3 _
    have q1 : Rq (w1.setCell ⟨R, 3, none⟩ (.int .i64 N)) R B (.pointer (some ⟨D, 0, none⟩)) { p with d := N } v5 v6 v7 (.slice none 0 0) :=
      ⟨e1, h1.g.but hbt hn, h1.o.but hbt hn, h1.r.but hbt hn, h1.s9, h1.sb⟩
    have hp := HP.out _ rfl
    refine .inr ⟨{ p with d := N }, v5, v6, v7, .slice none 0 0, v.drop k, rfl, q1, Dq.set ⟨w0, _, hs, hd1⟩ hn hR 3 _, (KqP.r hb1).trans (KqP.l hbt), ?_, fun _ => ⟨rfl, hl⟩, hp.1, hp.2⟩
    rw [show ({ p with d := N } : Pv).l = [] from hl]; exact RiA.nil _ _
  · have hrd : rd v = (0, 0, (rd v).2.2) := Prod.ext e1 (Prod.ext e2 rfl)
    have hn := number_e hF _ hrd e3
    have HP : Hid (putP p 4 v = none) := Lib.hid (by
      have : ¬ ((rd v).2.2 = 0) := by omega
      simp [putP, wholeN, this])
    have e4 : (if (rd v).2.2 = 2 then (3 : Int) else (rd v).2.2) = 3 := by split <;> omega
    rw [e4] at hn
    clear hF h hrd e1 e2 e3 e4 c0 c2 c4 c5 c6 c7 c8 c9 c10 c11
    go_enter Tryd.func95, Tryd.ntmps95
    go_wp2_with (go_at_call 83; refine hn.mono ?_; rintro e w1 ⟨he, hb1⟩; rw [errPanic] at he; subst he)
    exact ⟨rfl, .inl ⟨rfl, KqP.r hb1, HP.out⟩⟩
end Go.Proofs.YtefcjggmlhoebaaDoor
