/- params.Read: what holds in its loop over the fields. -/
import Derived.Test.YtmglhlfjddgllaaDoorRPure
import Derived.Maps.Own
import Derived.Maps.OwnSet
import Derived.Maps.RangeWalk
namespace Go.Proofs.YtmglhlfjddgllaaDoor
open Go Go.RowKit

/-- A block in which no row of bytes can lie: no cell of it is a byte. -/
def NoB (w : World) (K : Nat) : Prop := ∀ a x, a.block = K → w.cell? a ≠ some (.int .u8 x)
theorem noB_cells {w : World} {K : Nat} {cs : Array Value} {T : TypeId} {m : Nat × Nat} (h : w.heap[K]? = some (.cells cs T m)) (hc : ∀ v ∈ cs.toList, ∀ x, v ≠ .int .u8 x) : NoB w K := by
  intro a x ha he
  unfold World.cell? at he
  rw [ha, h] at he
  simp only at he
  split at he
  · cases he
  · have hm : (Value.int .u8 x) ∈ cs.toList := by
      have := Array.mem_of_getElem? he
      simpa using this
    exact hc _ hm x rfl
theorem Rd.apart {w w' : World} {v : Value} {zs : List Int} (h : Rd w v zs) (hk : ∀ k, k < w.heap.size → (NoB w k) ∨ w'.heap[k]? = w.heap[k]?) : Rd w' v zs := by
  obtain ⟨ao, cap, hv, h1, h2, h3, h4, hc⟩ := h
  refine ⟨ao, cap, hv, h1, h2, h3, h4, fun a ha j hj => ?_⟩
  have hcell := hc a ha j hj
  rcases hk (a.add j).block (cell_lt hcell) with hn | he
  · exact absurd hcell (hn _ _ rfl)
  · rw [← hcell]; exact World.cell?_of_block (w := w) he
theorem Rd.but {w w' : World} {v : Value} {zs : List Int} {K : Nat} (h : Rd w v zs) (hb : But K w w') (hn : NoB w K) : Rd w' v zs :=
  h.apart fun k hk => by
    by_cases e : k = K
    · exact .inl (e ▸ hn)
    · exact .inr (hb.block k hk e)
/-- Nothing but two blocks has changed of what was there. -/
structure Kq (R D : Nat) (w w' : World) : Prop where
  os : w'.os = w.os
  tape : w'.tape = w.tape
  output : w'.output = w.output
  size : w.heap.size ≤ w'.heap.size
  block : ∀ k, k < w.heap.size → k ≠ R → k ≠ D → w'.heap[k]? = w.heap[k]?
theorem Kq.refl (R D : Nat) (w : World) : Kq R D w w := ⟨rfl, rfl, rfl, Nat.le_refl _, fun _ _ _ _ => rfl⟩
theorem Kq.trans {R D : Nat} {a b c : World} (h : Kq R D a b) (k : Kq R D b c) : Kq R D a c :=
  ⟨k.os.trans h.os, k.tape.trans h.tape, k.output.trans h.output, Nat.le_trans h.size k.size, fun i hi hn hm => (k.block i (Nat.lt_of_lt_of_le hi h.size) hn hm).trans (h.block i hi hn hm)⟩
theorem Kq.l {R D : Nat} {w w' : World} (h : But R w w') : Kq R D w w' := ⟨h.os, h.tape, h.output, h.size, fun k hk hn _ => h.block k hk hn⟩
theorem Kq.r {R D : Nat} {w w' : World} (h : But D w w') : Kq R D w w' := ⟨h.os, h.tape, h.output, h.size, fun k hk _ hn => h.block k hk hn⟩
theorem Kq.of_below {R D : Nat} {w w' : World} (h : Below w.heap.size w w') : Kq R D w w' := ⟨h.os, h.tape, h.output, h.size, fun k hk _ _ => h.block k hk⟩
theorem Kq.below {R D : Nat} {w0 w w' : World} (h : Kq R D w w') (hb : Below w0.heap.size w0 w) (hR : w0.heap.size ≤ R) (hD : w0.heap.size ≤ D) : Below w0.heap.size w0 w' :=
  ⟨h.os.trans hb.os, h.tape.trans hb.tape, h.output.trans hb.output, Nat.le_trans hb.size h.size, fun k hk => (h.block k (Nat.lt_of_lt_of_le hk hb.size) (by omega) (by omega)).trans (hb.block k hk)⟩
theorem Rd.kq {R D : Nat} {w w' : World} {v : Value} {zs : List Int} (h : Rd w v zs) (hb : Kq R D w w') (hR : NoB w R) (hD : NoB w D) : Rd w' v zs :=
  h.apart fun k hk => by
    by_cases e : k = R
    · exact .inl (e ▸ hR)
    · by_cases e' : k = D
      · exact .inl (e' ▸ hD)
      · exact .inr (hb.block k hk e e')

/-- The reader's cells. -/
def rCells (B : Nat) (bd : Value) (p : Pv) (v5 v6 v7 v9 : Value) : Array Value := #[.pointer (some ⟨B, 0, none⟩), bd, .int .i64 p.i, .int .i64 p.d, .bool p.hg, .bool p.ho, .bool p.hr, v5, v6, v7, .int .i64 p.c, v9]
/-- The reader in the box R: the fields' reader in B, the body's bd, the params p as far as they are taken. -/
structure Rq (w : World) (R B : Nat) (bd : Value) (p : Pv) (v5 v6 v7 v9 : Value) : Prop where
  box : w.heap[R]? = some (.cells (rCells B bd p v5 v6 v7 v9) 56 (0, 0))
  g : Rd w v5 p.g
  o : Rd w v6 p.o
  r : Rd w v7 p.r
  s9 : ∃ a n c, v9 = .slice a n c
  sb : ∃ q, bd = .pointer q
theorem Rq.lt {w : World} {R B : Nat} {bd : Value} {p : Pv} {v5 v6 v7 v9 : Value} (h : Rq w R B bd p v5 v6 v7 v9) : R < w.heap.size := (Array.getElem?_eq_some_iff.1 h.box).1
theorem Rq.noB {w : World} {R B : Nat} {bd : Value} {p : Pv} {v5 v6 v7 v9 : Value} (h : Rq w R B bd p v5 v6 v7 v9) : NoB w R := by
  refine noB_cells h.box ?_
  obtain ⟨_, _, rfl⟩ := h.g.shape
  obtain ⟨_, _, rfl⟩ := h.o.shape
  obtain ⟨_, _, rfl⟩ := h.r.shape
  obtain ⟨_, _, _, rfl⟩ := h.s9
  obtain ⟨_, rfl⟩ := h.sb
  intro v hv x
  simp only [rCells, List.mem_cons, List.not_mem_nil, or_false] at hv
  rcases hv with rfl | rfl | rfl | rfl | rfl | rfl | rfl | rfl | rfl | rfl | rfl | rfl <;> simp
theorem Rq.cells {w : World} {R B : Nat} {bd : Value} {p : Pv} {v5 v6 v7 v9 : Value} (h : Rq w R B bd p v5 v6 v7 v9) :
    w.cell? ⟨R, 0, none⟩ = some (.pointer (some ⟨B, 0, none⟩)) ∧ w.cell? ⟨R, 1, none⟩ = some bd ∧ w.cell? ⟨R, 2, none⟩ = some (.int .i64 p.i) ∧ w.cell? ⟨R, 3, none⟩ = some (.int .i64 p.d) ∧
    w.cell? ⟨R, 4, none⟩ = some (.bool p.hg) ∧ w.cell? ⟨R, 5, none⟩ = some (.bool p.ho) ∧ w.cell? ⟨R, 6, none⟩ = some (.bool p.hr) ∧ w.cell? ⟨R, 7, none⟩ = some v5 ∧ w.cell? ⟨R, 8, none⟩ = some v6 ∧ w.cell? ⟨R, 9, none⟩ = some v7 ∧
    w.cell? ⟨R, 10, none⟩ = some (.int .i64 p.c) ∧ w.cell? ⟨R, 11, none⟩ = some v9 ∧ (∀ j, w.frozen? ⟨R, j, none⟩ = false) :=
  ⟨(cell_of_row _ R 0 _ _ (0, 0) h.box).trans rfl, (cell_of_row _ R 1 _ _ (0, 0) h.box).trans rfl, (cell_of_row _ R 2 _ _ (0, 0) h.box).trans rfl, (cell_of_row _ R 3 _ _ (0, 0) h.box).trans rfl, (cell_of_row _ R 4 _ _ (0, 0) h.box).trans rfl, (cell_of_row _ R 5 _ _ (0, 0) h.box).trans rfl, (cell_of_row _ R 6 _ _ (0, 0) h.box).trans rfl, (cell_of_row _ R 7 _ _ (0, 0) h.box).trans rfl, (cell_of_row _ R 8 _ _ (0, 0) h.box).trans rfl, (cell_of_row _ R 9 _ _ (0, 0) h.box).trans rfl, (cell_of_row _ R 10 _ _ (0, 0) h.box).trans rfl, (cell_of_row _ R 11 _ _ (0, 0) h.box).trans rfl, fun j => by simp [World.frozen?, h.box]⟩
/-- What changes nothing but blocks without bytes, and not the reader's box, keeps the reader. -/
theorem Rq.keep {w w' : World} {R B D : Nat} {bd : Value} {p : Pv} {v5 v6 v7 v9 : Value} (h : Rq w R B bd p v5 v6 v7 v9) (hb : But D w w') (hD : NoB w D) (hne : R ≠ D) : Rq w' R B bd p v5 v6 v7 v9 :=
  ⟨by rw [hb.block R h.lt hne]; exact h.box, h.g.but hb hD, h.o.but hb hD, h.r.but hb hD, h.s9, h.sb⟩
theorem Rq.below {w w' : World} {R B : Nat} {bd : Value} {p : Pv} {v5 v6 v7 v9 : Value} (h : Rq w R B bd p v5 v6 v7 v9) (hb : Below w.heap.size w w') : Rq w' R B bd p v5 v6 v7 v9 :=
  ⟨by rw [hb.block R h.lt]; exact h.box, h.g.below hb, h.o.below hb, h.r.below hb, h.s9, h.sb⟩
/-- The world behind a store into the reader's box, told by its cells. -/
theorem rset {w : World} {R B : Nat} {bd : Value} {p : Pv} {v5 v6 v7 v9 : Value} (h : Rq w R B bd p v5 v6 v7 v9) (i : Nat) (x : Value) :
    (w.setCell ⟨R, i, none⟩ x).heap[R]? = some (.cells ((rCells B bd p v5 v6 v7 v9).setIfInBounds i x) 56 (0, 0)) := heap_setCell_same w R i _ 56 x h.box

/-- A body's reader in the box D, all of it in memory ahead of D. -/
def Dq (w : World) (D : Nat) (rest : List Int) : Prop := ∃ w0 t, w0.heap.size = D ∧ Fq w0 w D rest t 3
theorem Dq.lt {w : World} {D : Nat} {rest : List Int} (h : Dq w D rest) : D < w.heap.size := by obtain ⟨_, _, _, h⟩ := h; exact h.lt
theorem Fq.noB {w0 w : World} {B : Nat} {rest : List Int} {t : Nat} {short : Int} (h : Fq w0 w B rest t short) : NoB w B := by
  obtain ⟨rv, hb, hr, _⟩ := h.box
  obtain ⟨_, _, rfl⟩ := hr.shape
  refine noB_cells hb ?_
  intro v hv x
  simp only [List.mem_cons, List.not_mem_nil, or_false] at hv
  rcases hv with rfl | rfl | rfl <;> simp
theorem Dq.noB {w : World} {D : Nat} {rest : List Int} (h : Dq w D rest) : NoB w D := by obtain ⟨_, _, _, h⟩ := h; exact h.noB
theorem Dq.byt {w : World} {D : Nat} {rest : List Int} (h : Dq w D rest) : Byt rest := by
  obtain ⟨_, _, _, h⟩ := h
  obtain ⟨_, _, hr, _⟩ := h.box
  exact hr.byt
theorem Dq.len {w : World} {D : Nat} {rest : List Int} (h : Dq w D rest) : rest.length ≤ 1000000 := by obtain ⟨_, _, _, h⟩ := h; have := h.sum; omega
theorem Dq.below {w w' : World} {D : Nat} {rest : List Int} (h : Dq w D rest) (hb : Below w.heap.size w w') : Dq w' D rest := by
  obtain ⟨w0, t, hs, h⟩ := h
  exact ⟨w0, t, hs, h.keep hb⟩
/-- A store into a box ahead of it that holds no bytes. -/
theorem Dq.set {w : World} {D K : Nat} {rest : List Int} (h : Dq w D rest) (hn : NoB w K) (hK : K < D) (i : Nat) (x : Value) : Dq (w.setCell ⟨K, i, none⟩ x) D rest := by
  obtain ⟨w0, t, hs, h⟩ := h
  obtain ⟨rv, h1, h2, h3⟩ := h.box
  have hbel := h.bel
  have hsz : (w0.setCell ⟨K, i, none⟩ x).heap.size = w0.heap.size := by simp [World.setCell]
  have hn0 : NoB w0 K := fun a y ha he => hn a y ha (by rw [hbel.cell (by omega)]; exact he)
  refine ⟨w0.setCell ⟨K, i, none⟩ x, t, by omega, ⟨?_, by rw [hsz]; exact h.lo, h.sum, rv, ?_, ?_, h3⟩⟩
  · rw [hsz]
    refine ⟨hbel.os, hbel.tape, hbel.output, by simpa [World.setCell] using hbel.size, fun k hk => ?_⟩
    by_cases e : k = K
    · subst e
      have hk2 := hbel.block k hk
      simp only [World.setCell, Array.getElem?_modify, if_true]
      rw [hk2]
    · rw [Below.heap_setCell w ⟨K, i, none⟩ x k e, Below.heap_setCell w0 ⟨K, i, none⟩ x k e]; exact hbel.block k hk
  · rw [Below.heap_setCell w ⟨K, i, none⟩ x D (show D ≠ K by omega)]; exact h1
  · exact h2.but (But.set w0 K i x) hn0
#print axioms Dq.set
end Go.Proofs.YtmglhlfjddgllaaDoor
namespace Go.Proofs.YtmglhlfjddgllaaDoor
open Go Go.RowKit

theorem Fq.drew {w0 w : World} {B : Nat} {rest : List Int} {t : Nat} {short : Int} (h : Fq w0 w B rest t short) : Fq w0 w.drew B rest t short := ⟨h.bel.drew, h.lo, h.sum, h.box⟩
set_option maxRecDepth 20000 in
set_option maxHeartbeats 2000000 in
theorem pwhole_any {w : World} {R B D : Nat} {p : Pv} {v5 v6 v7 v9 : Value} {v : List Int} (h : Rq w R B (.pointer (some ⟨D, 0, none⟩)) p v5 v6 v7 v9) (hd : Dq w D v) :
    Calls Tryd.prog 66 #[.pointer (some ⟨R, 0, none⟩)] w fun e w' => ∃ x, e = .returned x ∧ (Rd w' x v ∧ Plain x) ∧ Dq w' D [] ∧ But D w w' := by
  obtain ⟨_, c1, _⟩ := h.cells
  obtain ⟨w0, t, hs, hF⟩ := hd
  have hl := left_q hF.drew
  have hb := bytes_q hF.drew v.length (Nat.le_refl _)
  rw [List.take_of_length_le (Nat.le_refl _), List.drop_length] at hb
  clear h hF
  go_enter Tryd.func66, Tryd.ntmps66
  go_wp2_with fail
  go_region_with (first
    | (go_at_call 49; refine hl.mono ?_; rintro e w1 ⟨rfl, rfl⟩)
    | (go_at_call 52; refine hb.mono ?_; rintro e w1 ⟨x, rfl, ⟨hx, hp⟩, hF, hbt⟩))
  all_goals try go_wp2
  all_goals go_ret
  all_goals exact ⟨_, rfl, ⟨hx.rd, hp⟩, ⟨w0, _, hs, hF⟩, ((But.refl D w).drew).trans hbt⟩

/-- Numbers that read, in memory at or behind lo. -/
structure RiA (lo : Nat) (w : World) (v : Value) (zs : List Int) : Prop where
  rd : Ri w v zs
  far : ∀ a n c, v = .slice (some a) n c → zs ≠ [] → lo ≤ a.block
theorem RiA.nil (lo : Nat) (w : World) : RiA lo w (.slice none 0 0) [] := ⟨Ri.nil w, fun _ _ _ h => by cases h⟩
theorem RiA.mono {lo lo' : Nat} {w : World} {v : Value} {zs : List Int} (h : RiA lo w v zs) (hl : lo' ≤ lo) : RiA lo' w v zs := ⟨h.rd, fun a n c e hz => Nat.le_trans hl (h.far a n c e hz)⟩
/-- What taking a field's body does: the params have it, or it panics with 3; what is left of the body tells whether it was right. -/
def Tkd (n : Int) (v : List Int) (w : World) (R B D : Nat) (p : Pv) (e : Ending) (w' : World) : Prop :=
  (e = errPanic 3 ∧ Kq R D w w' ∧ putP p n v = none) ∨
  ∃ p' v5 v6 v7 v9 rest, e = .returned (.tuple #[]) ∧ Rq w' R B (.pointer (some ⟨D, 0, none⟩)) p' v5 v6 v7 v9 ∧ Dq w' D rest ∧ Kq R D w w' ∧ RiA w.heap.size w' v9 p'.l ∧ (n < 17 → v9 = .slice none 0 0 ∧ p'.l = []) ∧
    (rest = [] → putP p n v = some p') ∧ (rest ≠ [] → putP p n v = none)
/-- A method that can be called, and takes the field n. -/
structure Tk (F : Nat) (n : Int) : Prop where
  ent : ∀ (args : Array Value) (w : World), (callFunc F args).run Tryd.prog w = .ok (.enter F args) w
  does : ∀ (w : World) (R B D : Nat) (p : Pv) (v5 v6 v7 : Value) (v : List Int), Rq w R B (.pointer (some ⟨D, 0, none⟩)) p v5 v6 v7 (.slice none 0 0) → R < D → p.l = [] → Dq w D v →
    Calls Tryd.prog F #[.pointer (some ⟨R, 0, none⟩)] w (Tkd n v w R B D p)
theorem enterp {F : Nat} {fn : Func} (hf : Tryd.prog.funcs[F]? = some fn) (hn : (fn.name == "runtime.NumGoroutine") = false) (hb : fn.body.isNone = false) (args : Array Value) (w : World) : (callFunc F args).run Tryd.prog w = .ok (.enter F args) w := by
  have hn' : ¬ fn.name = "runtime.NumGoroutine" := by simpa using hn
  have hb' : ¬ fn.body = none := by intro e; rw [e] at hb; cases hb
  simp [callFunc, hf, hn', hb']
theorem Plain.slice {v : Value} (h : Plain v) : ∃ a n c, v = .slice a n c := by
  rcases h with rfl | ⟨b, off, n, cap, rfl⟩
  · exact ⟨_, _, _, rfl⟩
  · exact ⟨_, _, _, rfl⟩

set_option maxRecDepth 20000 in
set_option maxHeartbeats 2000000 in
theorem does_goal (w : World) (R B D : Nat) (p : Pv) (v5 v6 v7 : Value) (v : List Int) (h : Rq w R B (.pointer (some ⟨D, 0, none⟩)) p v5 v6 v7 (.slice none 0 0)) (hR : R < D) (hl : p.l = []) (hd : Dq w D v) :
    Calls Tryd.prog 55 #[.pointer (some ⟨R, 0, none⟩)] w (Tkd 0 v w R B D p) := by
  have hw := pwhole_any h hd
  have HD := Lib.hid hd.noB
  have HH := Lib.hid h
  clear hd h
  go_enter Tryd.func55, Tryd.ntmps55
  go_wp2_with (go_at_call 66; refine hw.mono ?_; rintro e w1 ⟨x, rfl, ⟨hx, hp⟩, hd1, hb1⟩; obtain ⟨xa, xn, xc, rfl⟩ := hp.slice; have h1 := HH.out.keep hb1 HD.out (by omega); obtain ⟨c0, c1, c2, c3, c4, c5, c6, c7, c8, c9, c10, c11, cf⟩ := h1.cells)
  go_end0
  have hn := h1.noB
  have e1 := rset h1 4 (.bool true)
  have e2 := heap_setCell_same _ R 7 _ 56 (.slice xa xn xc) e1
  have hbt : But R w1 ((w1.setCell ⟨R, 4, none⟩ (.bool true)).setCell ⟨R, 7, none⟩ (.slice xa xn xc)) := (But.set w1 R 4 _).trans (But.set _ R 7 _)
  have hk : ∀ {u : Value} {zs : List Int}, Rd w1 u zs → Rd ((w1.setCell ⟨R, 4, none⟩ (.bool true)).setCell ⟨R, 7, none⟩ (.slice xa xn xc)) u zs := fun h => h.but hbt hn
  have q1 : Rq (w1.setCell ⟨R, 4, none⟩ (.bool true)) R B (.pointer (some ⟨D, 0, none⟩)) { p with hg := true } v5 v6 v7 (.slice none 0 0) :=
    ⟨e1, h1.g.but (But.set w1 R 4 _) hn, h1.o.but (But.set w1 R 4 _) hn, h1.r.but (But.set w1 R 4 _) hn, h1.s9, h1.sb⟩
  refine .inr ⟨{ p with hg := true, g := v }, .slice xa xn xc, v6, v7, .slice none 0 0, [], rfl, ⟨e2, hk hx, hk h1.o, hk h1.r, h1.s9, h1.sb⟩, (hd1.set hn hR 4 _).set q1.noB hR 7 _, (Kq.r hb1).trans (Kq.l hbt), ?_, fun _ => ⟨rfl, hl⟩, fun _ => rfl, fun h => absurd rfl h⟩
  rw [show ({ p with hg := true, g := v } : Pv).l = [] from hl]; exact RiA.nil _ _
end Go.Proofs.YtmglhlfjddgllaaDoor
namespace Go.Proofs.YtmglhlfjddgllaaDoor
open Go Go.RowKit

set_option maxRecDepth 20000 in
set_option maxHeartbeats 2000000 in
theorem does_own (w : World) (R B D : Nat) (p : Pv) (v5 v6 v7 : Value) (v : List Int) (h : Rq w R B (.pointer (some ⟨D, 0, none⟩)) p v5 v6 v7 (.slice none 0 0)) (hR : R < D) (hl : p.l = []) (hd : Dq w D v) :
    Calls Tryd.prog 58 #[.pointer (some ⟨R, 0, none⟩)] w (Tkd 15 v w R B D p) := by
  have hw := pwhole_any h hd
  have HD := Lib.hid hd.noB
  have HH := Lib.hid h
  clear hd h
  go_enter Tryd.func58, Tryd.ntmps58
  go_wp2_with (go_at_call 66; refine hw.mono ?_; rintro e w1 ⟨x, rfl, ⟨hx, hp⟩, hd1, hb1⟩; obtain ⟨xa, xn, xc, rfl⟩ := hp.slice; have h1 := HH.out.keep hb1 HD.out (by omega); obtain ⟨c0, c1, c2, c3, c4, c5, c6, c7, c8, c9, c10, c11, cf⟩ := h1.cells)
  go_end0
  have hn := h1.noB
  have e1 := rset h1 5 (.bool true)
  have e2 := heap_setCell_same _ R 8 _ 56 (.slice xa xn xc) e1
  have hbt : But R w1 ((w1.setCell ⟨R, 5, none⟩ (.bool true)).setCell ⟨R, 8, none⟩ (.slice xa xn xc)) := (But.set w1 R 5 _).trans (But.set _ R 8 _)
  have hk : ∀ {u : Value} {zs : List Int}, Rd w1 u zs → Rd ((w1.setCell ⟨R, 5, none⟩ (.bool true)).setCell ⟨R, 8, none⟩ (.slice xa xn xc)) u zs := fun h => h.but hbt hn
  have q1 : Rq (w1.setCell ⟨R, 5, none⟩ (.bool true)) R B (.pointer (some ⟨D, 0, none⟩)) { p with ho := true } v5 v6 v7 (.slice none 0 0) :=
    ⟨e1, h1.g.but (But.set w1 R 5 _) hn, h1.o.but (But.set w1 R 5 _) hn, h1.r.but (But.set w1 R 5 _) hn, h1.s9, h1.sb⟩
  refine .inr ⟨{ p with ho := true, o := v }, v5, .slice xa xn xc, v7, .slice none 0 0, [], rfl, ⟨e2, hk h1.g, hk hx, hk h1.r, h1.s9, h1.sb⟩, (hd1.set hn hR 5 _).set q1.noB hR 8 _, (Kq.r hb1).trans (Kq.l hbt), ?_, fun _ => ⟨rfl, hl⟩, fun _ => by simp [putP], fun h => absurd rfl h⟩
  rw [show ({ p with ho := true, o := v } : Pv).l = [] from hl]; exact RiA.nil _ _
set_option maxRecDepth 20000 in
set_option maxHeartbeats 2000000 in
theorem does_retry (w : World) (R B D : Nat) (p : Pv) (v5 v6 v7 : Value) (v : List Int) (h : Rq w R B (.pointer (some ⟨D, 0, none⟩)) p v5 v6 v7 (.slice none 0 0)) (hR : R < D) (hl : p.l = []) (hd : Dq w D v) :
    Calls Tryd.prog 59 #[.pointer (some ⟨R, 0, none⟩)] w (Tkd 16 v w R B D p) := by
  have hw := pwhole_any h hd
  have HD := Lib.hid hd.noB
  have HH := Lib.hid h
  clear hd h
  go_enter Tryd.func59, Tryd.ntmps59
  go_wp2_with (go_at_call 66; refine hw.mono ?_; rintro e w1 ⟨x, rfl, ⟨hx, hp⟩, hd1, hb1⟩; obtain ⟨xa, xn, xc, rfl⟩ := hp.slice; have h1 := HH.out.keep hb1 HD.out (by omega); obtain ⟨c0, c1, c2, c3, c4, c5, c6, c7, c8, c9, c10, c11, cf⟩ := h1.cells)
  go_end0
  have hn := h1.noB
  have e1 := rset h1 6 (.bool true)
  have e2 := heap_setCell_same _ R 9 _ 56 (.slice xa xn xc) e1
  have hbt : But R w1 ((w1.setCell ⟨R, 6, none⟩ (.bool true)).setCell ⟨R, 9, none⟩ (.slice xa xn xc)) := (But.set w1 R 6 _).trans (But.set _ R 9 _)
  have hk : ∀ {u : Value} {zs : List Int}, Rd w1 u zs → Rd ((w1.setCell ⟨R, 6, none⟩ (.bool true)).setCell ⟨R, 9, none⟩ (.slice xa xn xc)) u zs := fun h => h.but hbt hn
  have q1 : Rq (w1.setCell ⟨R, 6, none⟩ (.bool true)) R B (.pointer (some ⟨D, 0, none⟩)) { p with hr := true } v5 v6 v7 (.slice none 0 0) :=
    ⟨e1, h1.g.but (But.set w1 R 6 _) hn, h1.o.but (But.set w1 R 6 _) hn, h1.r.but (But.set w1 R 6 _) hn, h1.s9, h1.sb⟩
  refine .inr ⟨{ p with hr := true, r := v }, v5, v6, .slice xa xn xc, .slice none 0 0, [], rfl, ⟨e2, hk h1.g, hk h1.o, hk hx, h1.s9, h1.sb⟩, (hd1.set hn hR 6 _).set q1.noB hR 9 _, (Kq.r hb1).trans (Kq.l hbt), ?_, fun _ => ⟨rfl, hl⟩, fun _ => by simp [putP], fun h => absurd rfl h⟩
  rw [show ({ p with hr := true, r := v } : Pv).l = [] from hl]; exact RiA.nil _ _
end Go.Proofs.YtmglhlfjddgllaaDoor
namespace Go.Proofs.YtmglhlfjddgllaaDoor
open Go Go.RowKit

set_option maxRecDepth 20000 in
set_option maxHeartbeats 2000000 in
theorem does_idle (w : World) (R B D : Nat) (p : Pv) (v5 v6 v7 : Value) (v : List Int) (h : Rq w R B (.pointer (some ⟨D, 0, none⟩)) p v5 v6 v7 (.slice none 0 0)) (hR : R < D) (hl : p.l = []) (hd : Dq w D v) :
    Calls Tryd.prog 56 #[.pointer (some ⟨R, 0, none⟩)] w (Tkd 1 v w R B D p) := by
  have HD := Lib.hid hd.noB
  have HH := Lib.hid h
  have hbyt := hd.byt
  obtain ⟨c0, c1, c2, c3, c4, c5, c6, c7, c8, c9, c10, c11, cf⟩ := h.cells
  obtain ⟨w0, t, hs, hF⟩ := hd
  rcases rd_size hbyt with ⟨e0, ⟨_, _⟩, k, ek, _, _, hk⟩ | ⟨e1, e2, e3⟩
  · have hrd : rd v = ((rd v).1, (k : Int), 0) := by rw [← ek, ← e0]
    have hn := number_q hF _ k hrd hk
    have HP : Hid (∀ rest, rest = v.drop k → (rest = [] → putP p 1 v = some { p with i := (rd v).1 }) ∧ (rest ≠ [] → putP p 1 v = none)) := Lib.hid (by
      rintro rest rfl
      have hdl : v.drop k = [] ↔ k = v.length := by rw [List.drop_eq_nil_iff]; omega
      have hw : wholeN v = if k = v.length then some (rd v).1 else none := by
        unfold wholeN
        rw [ek]
        simp [e0]
      constructor
      · intro hr; simp [putP, hw, hdl.1 hr]
      · intro hr
        have : ¬ k = v.length := fun e => hr (hdl.2 e)
        simp [putP, hw, this])
    generalize (rd v).1 = N at *
    clear hF h hrd ek e0 c0 c3 c4 c5 c6 c7 c8 c9 c10 c11
    go_enter Tryd.func56, Tryd.ntmps56
    go_wp2_with (go_at_call 50; refine hn.mono ?_; rintro e w1 ⟨rfl, hd1, hb1⟩; have h1 := HH.out.keep hb1 HD.out (by omega); obtain ⟨c0, c1, c2, c3, c4, c5, c6, c7, c8, c9, c10, c11, cf⟩ := h1.cells)
    go_end0
    have hn := h1.noB
    have e1 := rset h1 2 (.int .i64 N)
    have hbt : But R w1 (w1.setCell ⟨R, 2, none⟩ (.int .i64 N)) := But.set w1 R 2 _
    have q1 : Rq (w1.setCell ⟨R, 2, none⟩ (.int .i64 N)) R B (.pointer (some ⟨D, 0, none⟩)) { p with i := N } v5 v6 v7 (.slice none 0 0) :=
      ⟨e1, h1.g.but hbt hn, h1.o.but hbt hn, h1.r.but hbt hn, h1.s9, h1.sb⟩
    have hp := HP.out _ rfl
    refine .inr ⟨{ p with i := N }, v5, v6, v7, .slice none 0 0, v.drop k, rfl, q1, Dq.set ⟨w0, _, hs, hd1⟩ hn hR 2 _, (Kq.r hb1).trans (Kq.l hbt), ?_, fun _ => ⟨rfl, hl⟩, hp.1, hp.2⟩
    rw [show ({ p with i := N } : Pv).l = [] from hl]; exact RiA.nil _ _
  · have hrd : rd v = (0, 0, (rd v).2.2) := Prod.ext e1 (Prod.ext e2 rfl)
    have hn := number_e hF _ hrd e3
    have HP : Hid (putP p 1 v = none) := Lib.hid (by
      have : ¬ ((rd v).2.2 = 0) := by omega
      simp [putP, wholeN, this])
    have e4 : (if (rd v).2.2 = 2 then (3 : Int) else (rd v).2.2) = 3 := by split <;> omega
    rw [e4] at hn
    clear hF h hrd e1 e2 e3 e4 c0 c3 c4 c5 c6 c7 c8 c9 c10 c11
    go_enter Tryd.func56, Tryd.ntmps56
    go_wp2_with (go_at_call 50; refine hn.mono ?_; rintro e w1 ⟨he, hb1⟩; rw [errPanic] at he; subst he)
    exact ⟨rfl, .inl ⟨rfl, Kq.r hb1, HP.out⟩⟩
set_option maxRecDepth 20000 in
set_option maxHeartbeats 2000000 in
theorem does_data (w : World) (R B D : Nat) (p : Pv) (v5 v6 v7 : Value) (v : List Int) (h : Rq w R B (.pointer (some ⟨D, 0, none⟩)) p v5 v6 v7 (.slice none 0 0)) (hR : R < D) (hl : p.l = []) (hd : Dq w D v) :
    Calls Tryd.prog 57 #[.pointer (some ⟨R, 0, none⟩)] w (Tkd 4 v w R B D p) := by
  have HD := Lib.hid hd.noB
  have HH := Lib.hid h
  have hbyt := hd.byt
  obtain ⟨c0, c1, c2, c3, c4, c5, c6, c7, c8, c9, c10, c11, cf⟩ := h.cells
  obtain ⟨w0, t, hs, hF⟩ := hd
  rcases rd_size hbyt with ⟨e0, ⟨_, _⟩, k, ek, _, _, hk⟩ | ⟨e1, e2, e3⟩
  · have hrd : rd v = ((rd v).1, (k : Int), 0) := by rw [← ek, ← e0]
    have hn := number_q hF _ k hrd hk
    have HP : Hid (∀ rest, rest = v.drop k → (rest = [] → putP p 4 v = some { p with d := (rd v).1 }) ∧ (rest ≠ [] → putP p 4 v = none)) := Lib.hid (by
      rintro rest rfl
      have hdl : v.drop k = [] ↔ k = v.length := by rw [List.drop_eq_nil_iff]; omega
      have hw : wholeN v = if k = v.length then some (rd v).1 else none := by
        unfold wholeN
        rw [ek]
        simp [e0]
      constructor
      · intro hr; simp [putP, hw, hdl.1 hr]
      · intro hr
        have : ¬ k = v.length := fun e => hr (hdl.2 e)
        simp [putP, hw, this])
    generalize (rd v).1 = N at *
    clear hF h hrd ek e0 c0 c2 c4 c5 c6 c7 c8 c9 c10 c11
    go_enter Tryd.func57, Tryd.ntmps57
    go_wp2_with (go_at_call 50; refine hn.mono ?_; rintro e w1 ⟨rfl, hd1, hb1⟩; have h1 := HH.out.keep hb1 HD.out (by omega); obtain ⟨c0, c1, c2, c3, c4, c5, c6, c7, c8, c9, c10, c11, cf⟩ := h1.cells)
    go_end0
    have hn := h1.noB
    have e1 := rset h1 3 (.int .i64 N)
    have hbt : But R w1 (w1.setCell ⟨R, 3, none⟩ (.int .i64 N)) := But.set w1 R 3 _
    have q1 : Rq (w1.setCell ⟨R, 3, none⟩ (.int .i64 N)) R B (.pointer (some ⟨D, 0, none⟩)) { p with d := N } v5 v6 v7 (.slice none 0 0) :=
      ⟨e1, h1.g.but hbt hn, h1.o.but hbt hn, h1.r.but hbt hn, h1.s9, h1.sb⟩
    have hp := HP.out _ rfl
    refine .inr ⟨{ p with d := N }, v5, v6, v7, .slice none 0 0, v.drop k, rfl, q1, Dq.set ⟨w0, _, hs, hd1⟩ hn hR 3 _, (Kq.r hb1).trans (Kq.l hbt), ?_, fun _ => ⟨rfl, hl⟩, hp.1, hp.2⟩
    rw [show ({ p with d := N } : Pv).l = [] from hl]; exact RiA.nil _ _
  · have hrd : rd v = (0, 0, (rd v).2.2) := Prod.ext e1 (Prod.ext e2 rfl)
    have hn := number_e hF _ hrd e3
    have HP : Hid (putP p 4 v = none) := Lib.hid (by
      have : ¬ ((rd v).2.2 = 0) := by omega
      simp [putP, wholeN, this])
    have e4 : (if (rd v).2.2 = 2 then (3 : Int) else (rd v).2.2) = 3 := by split <;> omega
    rw [e4] at hn
    clear hF h hrd e1 e2 e3 e4 c0 c2 c4 c5 c6 c7 c8 c9 c10 c11
    go_enter Tryd.func57, Tryd.ntmps57
    go_wp2_with (go_at_call 50; refine hn.mono ?_; rintro e w1 ⟨he, hb1⟩; rw [errPanic] at he; subst he)
    exact ⟨rfl, .inl ⟨rfl, Kq.r hb1, HP.out⟩⟩
end Go.Proofs.YtmglhlfjddgllaaDoor
namespace Go.Proofs.YtmglhlfjddgllaaDoor
open Go Go.RowKit

theorem info3p : (Tryd.prog.info? 3).map (fun i => (i.zero, i.size, i.bytes)) = some (some (.int .i64 0), 1, 8) := by kernel_rfl
theorem info_row3p : ∃ i, Tryd.prog.info? 3 = some i ∧ i.zero = some (.int .i64 0) ∧ i.size = 1 ∧ i.bytes = 8 := info_parts info3p
theorem run_onep {w : World} {base : Nat} {v : Value} {n : Nat} {xs : List Int} (hown : w.ownsRow base 3 1 v n (xs.map (Value.int .i64))) (g : Nat) (y : Int) (hc : w.cell? ⟨g, 0, none⟩ = some (.int .i64 y)) (hn : n ≤ 1000000) (hbase : base ≤ w.heap.size) :
    ∃ v' w', (Builtin.append_ #[23, 23] 23 #[v, .slice (some ⟨g, 0, none⟩) 1 1]).run Tryd.prog w = .ok v' w' ∧ w'.ownsRow base 3 1 v' (n + 1) ((xs ++ [y]).map (Value.int .i64)) ∧ w.grownBy w' v.ownBlock := by
  obtain ⟨i, hi, hz0, hz1, hz2⟩ := info_row3p
  obtain ⟨v', w', h1, h2, h3, _⟩ := run_append_own (P := Tryd.prog) w base 23 23 3 i (.int .i64 0) 1 8 Tryd.underlying23 hi hz0 hz1 hz2 rfl (by decide) v n _ hown ⟨g, 0, none⟩ 1 1 [.int .i64 y] rfl (by
    intro j u hu
    have hj : j = 0 := by
      have := (List.getElem?_eq_some_iff.1 hu).1
      simp at this
      omega
    subst hj
    simp at hu
    subst hu
    exact hc) (by
    intro u hu
    simp at hu
    subst hu
    rfl) (by unfold maxLen; omega) (by omega) hbase
  exact ⟨v', w', h1, by rw [List.map_append]; exact h2, h3⟩

theorem step_run_ok {w w' : World} {ops : Array Oper} {o : Oper} {a : Act} {K : Act → World → Prop} {Q : Exit → Act → World → Prop} {E : Prop} (s x : Operand) (t : TypeId) {sv xv v' : Value} (hgd : o.guard = none)
    (ho : o.op = .call { callee := .builtin .append, args := #[s, x], argTypes := #[t, t] }) (hs : a.eval s = sv) (hx : a.eval x = xv) (hr : (Builtin.append_ #[t, t] o.type #[sv, xv]).run Tryd.prog w = .ok v' w') (h : K (a.put o.dst v') w') :
    if Region.wanted o (yielded ops a.tmps) = true then Oper.wp Tryd.prog o a w K Q else E := by
  have hw : Region.wanted o (yielded ops a.tmps) = true := by simp [Region.wanted, hgd]
  rw [if_pos hw]
  unfold Oper.wp execOp
  simp only [ho, resolve, invoke, builtin, Sem.run_bind, Sem.run_pure, Result.andThen_ok, List.map_toArray, List.map_cons, List.map_nil, hs, hx, hr]
  exact h
theorem by4_ge {v : List Int} (h : 4 ≤ v.length) : by4 v = (by4 (v.drop 4)).map (bigv (v.take 4) 0 :: ·) := by
  match v, h with
  | a :: b :: c :: d :: r, _ => simp [by4]
theorem by4_few {v : List Int} (h0 : 0 < v.length) (h : v.length < 4) : by4 v = none := by
  match v, h0, h with
  | [a], _, _ => rfl
  | [a, b], _, _ => rfl
  | [a, b, c], _, _ => rfl
  | a :: b :: c :: d :: r, _, h => simp at h; omega
theorem own_but {w w' : World} {D base : Nat} {e : TypeId} {size : Nat} {v : Value} {n : Nat} {xs : List Value} (h : w.ownsRow base e size v n xs) (hb : But D w w') (hD : D < base) : w'.ownsRow base e size v n xs := by
  obtain ⟨h1, h2⟩ := h
  refine ⟨h1, ?_⟩
  rcases h2 with h2 | ⟨g, cap, cur, hv, hg, hh, r⟩
  · exact .inl h2
  · exact .inr ⟨g, cap, cur, hv, hg, by rw [hb.block g (Array.getElem?_eq_some_iff.1 hh).1 (by omega)]; exact hh, r⟩
theorem ri_own {w : World} {base : Nat} {v : Value} {xs : List Int} (h : w.ownsRow base 3 1 v xs.length (xs.map (Value.int .i64))) : Ri w v xs := by
  have hcell := fun g (hg : v.ownBlock = some g) => World.ownsRow.cells h hg
  rcases h.2 with ⟨rfl, h0⟩ | ⟨g, cap, cur, rfl, _, hh, h1, h2, h3, h4⟩
  · have : xs = [] := List.eq_nil_of_length_eq_zero h0
    subst this; exact Ri.nil w
  · refine ⟨some ⟨g, 0, none⟩, cap, rfl, h1, h2, (fun h => by cases h), fun a ha j hj => ?_⟩
    cases ha
    exact hcell g rfl j _ (by simp [hj])

theorem Kq.bel {R D : Nat} {w w1 w3 : World} (h : Kq R D w w1) (hb : Below w.heap.size w1 w3) : Kq R D w w3 :=
  ⟨hb.os.trans h.os, hb.tape.trans h.tape, hb.output.trans h.output, Nat.le_trans h.size hb.size, fun k hk hn hm => (hb.block k hk).trans (h.block k hk hn hm)⟩
theorem ria_own {w : World} {base : Nat} {v : Value} {xs : List Int} (h : w.ownsRow base 3 1 v xs.length (xs.map (Value.int .i64))) : RiA base w v xs := by
  refine ⟨ri_own h, fun a n c e _ => ?_⟩
  rcases h.2 with ⟨rfl, _⟩ | ⟨g, cap, cur, rfl, hg, _⟩
  · cases e
  · cases e; exact hg
/-- Where versions stands: the first one c and what is done are taken, rest is left of the body. -/
structure Vs (w wr : World) (R B D : Nat) (p : Pv) (v5 v6 v7 : Value) (v : List Int) (c : Int) (done rest : List Int) (v9 : Value) : Prop where
  box : wr.heap[R]? = some (.cells (rCells B (.pointer (some ⟨D, 0, none⟩)) { p with c := c } v5 v6 v7 v9) 56 (0, 0))
  own : wr.ownsRow w.heap.size 3 1 v9 done.length (done.map (Value.int .i64))
  dq : Dq wr D rest
  kq : Kq R D w wr
  byf : by4 v = (by4 rest).map fun l => c :: (done ++ l)
  len : 4 * done.length + rest.length ≤ 1000000
theorem Vs.noB {w wr : World} {R B D : Nat} {p : Pv} {v5 v6 v7 v9 : Value} {v done rest : List Int} {c : Int} (h : Vs w wr R B D p v5 v6 v7 v c done rest v9) (h5 : Rd w v5 p.g) (h6 : Rd w v6 p.o) (h7 : Rd w v7 p.r) : NoB wr R := by
  refine noB_cells h.box ?_
  obtain ⟨_, _, rfl⟩ := h5.shape
  obtain ⟨_, _, rfl⟩ := h6.shape
  obtain ⟨_, _, rfl⟩ := h7.shape
  obtain ⟨_, _, rfl⟩ := own_shape h.own
  intro v hv x
  simp only [rCells, List.mem_cons, List.not_mem_nil, or_false] at hv
  rcases hv with rfl | rfl | rfl | rfl | rfl | rfl | rfl | rfl | rfl | rfl | rfl | rfl <;> simp
theorem Vs.cells {w wr : World} {R B D : Nat} {p : Pv} {v5 v6 v7 v9 : Value} {v done rest : List Int} {c : Int} (h : Vs w wr R B D p v5 v6 v7 v c done rest v9) :
    wr.cell? ⟨R, 1, none⟩ = some (.pointer (some ⟨D, 0, none⟩)) ∧ wr.cell? ⟨R, 11, none⟩ = some v9 ∧ (∀ j, wr.frozen? ⟨R, j, none⟩ = false) :=
  ⟨(cell_of_row _ R 1 _ _ (0, 0) h.box).trans rfl, (cell_of_row _ R 11 _ _ (0, 0) h.box).trans rfl, fun j => by simp [World.frozen?, h.box]⟩
/-- One more is cut off: what holds behind the call, ahead of the append. -/
theorem Vs.fixed {w wr w1 : World} {R B D : Nat} {p : Pv} {v5 v6 v7 v9 : Value} {v done rest : List Int} {c : Int} (h : Vs w wr R B D p v5 v6 v7 v c done rest v9) (hR : R < D) (hD : D < w.heap.size) (hb : But D wr w1) :
    w1.heap[R]? = some (.cells (rCells B (.pointer (some ⟨D, 0, none⟩)) { p with c := c } v5 v6 v7 v9) 56 (0, 0)) ∧ w1.ownsRow w.heap.size 3 1 v9 done.length (done.map (Value.int .i64)) ∧ Kq R D w w1 :=
  ⟨by rw [hb.block R (Array.getElem?_eq_some_iff.1 h.box).1 (by omega)]; exact h.box, own_but h.own hb hD, h.kq.trans (Kq.r hb)⟩
/-- And laid into the box. -/
theorem Vs.step {w wr w1 w3 : World} {R B D : Nat} {p : Pv} {v5 v6 v7 v9 u9 : Value} {v done rest : List Int} {c : Int} (h : Vs w wr R B D p v5 v6 v7 v c done rest v9) (h5 : Rd w v5 p.g) (h6 : Rd w v6 p.o) (h7 : Rd w v7 p.r) (hR : R < D) (hD : D < w.heap.size) (hl : 4 ≤ rest.length)
    (hb : But D wr w1) (hd : Dq w1 D (rest.drop 4)) (hb3 : Below w.heap.size w1 w3) (ho : w3.ownsRow w.heap.size 3 1 u9 (done.length + 1) ((done ++ [bigv (rest.take 4) 0]).map (Value.int .i64))) :
    Vs w (w3.setCell ⟨R, 11, none⟩ u9) R B D p v5 v6 v7 v c (done ++ [bigv (rest.take 4) 0]) (rest.drop 4) u9 := by
  obtain ⟨f1, f2, f3⟩ := h.fixed hR hD hb
  have hs1 : w.heap.size ≤ w1.heap.size := f3.size
  have f4 : w3.heap[R]? = some (.cells (rCells B (.pointer (some ⟨D, 0, none⟩)) { p with c := c } v5 v6 v7 v9) 56 (0, 0)) := by rw [hb3.block R (by omega)]; exact f1
  have hn3 : NoB w3 R := by
    refine noB_cells f4 ?_
    obtain ⟨_, _, rfl⟩ := h5.shape
    obtain ⟨_, _, rfl⟩ := h6.shape
    obtain ⟨_, _, rfl⟩ := h7.shape
    obtain ⟨_, _, rfl⟩ := own_shape h.own
    intro v hv x
    simp only [rCells, List.mem_cons, List.not_mem_nil, or_false] at hv
    rcases hv with rfl | rfl | rfl | rfl | rfl | rfl | rfl | rfl | rfl | rfl | rfl | rfl <;> simp
  have hd3 : Dq w3 D (rest.drop 4) := by
    obtain ⟨w0, t, hs, hF⟩ := hd
    obtain ⟨rv, hx, hr, hp⟩ := hF.box
    refine ⟨w0, t, hs, ⟨⟨hb3.os.trans hF.bel.os, hb3.tape.trans hF.bel.tape, hb3.output.trans hF.bel.output, Nat.le_trans hF.bel.size hb3.size, fun k hk => (hb3.block k (by omega)).trans (hF.bel.block k hk)⟩, hF.lo, hF.sum, rv, ?_, hr, hp⟩⟩
    rw [hb3.block D hD]; exact hx
  have hset := heap_setCell_same w3 R 11 _ 56 u9 f4
  refine ⟨hset, ?_, hd3.set hn3 hR 11 _, (f3.bel hb3).trans (Kq.l (But.set w3 R 11 _)), ?_, ?_⟩
  · rw [show (done ++ [bigv (rest.take 4) 0]).length = done.length + 1 from by simp]
    exact own_set ho (by omega) 11 u9
  · rw [h.byf, by4_ge hl]
    cases by4 (rest.drop 4) <;> simp
  · have := h.len; simp; omega
/-- How many elements the slice in the first cell of a block has. -/
def leftW (w : World) (D : Nat) : Nat := match w.cell? ⟨D, 0, none⟩ with | some (.slice _ n _) => n | _ => 0
theorem Fq.leftW {w0 w : World} {D : Nat} {rest : List Int} {t : Nat} {short : Int} (h : Fq w0 w D rest t short) : leftW w D = rest.length := by
  obtain ⟨ao, cap, _, c0, _, _⟩ := h.cells
  unfold Proofs.YtmglhlfjddgllaaDoor.leftW
  rw [c0]
theorem Dq.leftW {w : World} {D : Nat} {rest : List Int} (h : Dq w D rest) : leftW w D = rest.length := by obtain ⟨_, _, _, h⟩ := h; exact h.leftW

set_option maxRecDepth 20000 in
set_option maxHeartbeats 4000000 in
theorem does_versions (w : World) (R B D : Nat) (p : Pv) (v5 v6 v7 : Value) (v : List Int) (h : Rq w R B (.pointer (some ⟨D, 0, none⟩)) p v5 v6 v7 (.slice none 0 0)) (hR : R < D) (_ : p.l = []) (hd : Dq w D v) :
    Calls Tryd.prog 60 #[.pointer (some ⟨R, 0, none⟩)] w (Tkd 17 v w R B D p) := by
  have HD := Lib.hid hd.noB
  have HH := Lib.hid h
  have hlt := hd.lt
  have hlen := hd.len
  obtain ⟨c0, c1, c2, c3, c4, c5, c6, c7, c8, c9, c10, c11, cf⟩ := h.cells
  by_cases h4 : v.length < 4
  · obtain ⟨w0, t, hs, hF⟩ := hd
    have hn := fixed_e hF 4 (by omega)
    have HP : Hid (putP p 17 v = none) := Lib.hid (by
      cases v with
      | nil => simp [putP, by4]
      | cons a r => simp [putP, by4_few (v := a :: r) (by simp) h4])
    clear hF h c0 c2 c3 c4 c5 c6 c7 c8 c9 c11
    go_enter Tryd.func60, Tryd.ntmps60
    go_wp2_with (go_at_call 67; refine hn.mono ?_; rintro e w1 ⟨he, hb1⟩; rw [errPanic] at he; subst he)
    exact ⟨rfl, .inl ⟨rfl, Kq.r hb1, HP.out⟩⟩
  · have h5 := h.g
    have h6 := h.o
    have h7 := h.r
    have HV : Hid (∀ w1, But D w w1 → Dq w1 D (v.drop 4) → Vs w (w1.setCell ⟨R, 10, none⟩ (.int .i64 (bigv (v.take 4) 0))) R B D p v5 v6 v7 v (bigv (v.take 4) 0) [] (v.drop 4) (.slice none 0 0)) := Lib.hid (by
      intro w1 hb hd1
      have h1 := h.keep hb hd.noB (by omega)
      have e1 := rset h1 10 (.int .i64 (bigv (v.take 4) 0))
      refine ⟨e1, ⟨rfl, .inl ⟨rfl, rfl⟩⟩, hd1.set h1.noB hR 10 _, (Kq.r hb).trans (Kq.l (But.set w1 R 10 _)), ?_, by simp; omega⟩
      rw [by4_ge (by omega)]; simp)
    obtain ⟨w0, t, hs, hF⟩ := hd
    have hn := fixed_q hF 4 (by omega) (by omega) (by omega)
    have HS := Lib.hid hs
    have HR := Lib.hid hR
    have H5 := Lib.hid h5
    have H6 := Lib.hid h6
    have H7 := Lib.hid h7
    obtain ⟨a5, k5, rfl⟩ := h5.shape
    obtain ⟨a6, k6, rfl⟩ := h6.shape
    obtain ⟨a7, k7, rfl⟩ := h7.shape
    clear hF h h5 h6 h7 c0 c2 c3 c4 c5 c6 c7 c8 c9 c11 hs
    go_enter Tryd.func60, Tryd.ntmps60
    go_wp2_with (go_at_call 67; refine hn.mono ?_; rintro e w1 ⟨rfl, hd1, hb1⟩; have h1 := HH.out.keep hb1 HD.out (by omega); obtain ⟨_, c1, _, _, _, _, _, _, _, _, c10, _, cf⟩ := h1.cells)
    have hv := HV.out w1 hb1 ⟨w0, _, HS.out, hd1⟩
    clear hn hb1 hd1 h1 c1 c10 cf
    go_loopw [] (fun wr => ∃ done rest v9, Vs w wr R B D p (.slice a5 p.g.length k5) (.slice a6 p.o.length k6) (.slice a7 p.r.length k7) v (bigv (v.take 4) 0) done rest v9) (fun wr => leftW wr D)
    case atStart => exact ⟨_, _, _, hv⟩
    case round =>
      obtain ⟨done, rest, v9, hv⟩ := hrel
      clear c1 c10 cf
      obtain ⟨c1, c11, cf⟩ := hv.cells
      have HW := Lib.hid hv
      obtain ⟨w2, t2, hs2, hF⟩ := hv.dq
      have hleft := left_q hF
      have HS2 := Lib.hid hs2
      clear hv hs2
      by_cases hz : rest.length = 0
      · obtain rfl := List.eq_nil_of_length_eq_zero hz
        clear hF hz
        go_wp2_with (go_at_call 49; refine hleft.mono ?_; rintro e w3 ⟨rfl, rfl⟩)
        go_end0
        have hv := HW.out
        have hn := hv.noB H5.out H6.out H7.out
        have hk : ∀ {u : Value} {zs : List Int}, Rd w u zs → Rd wr u zs := fun h => h.kq hv.kq HH.out.noB HD.out
        refine .inr ⟨{ p with c := bigv (v.take 4) 0, l := done }, .slice a5 p.g.length k5, .slice a6 p.o.length k6, .slice a7 p.r.length k7, v9, [], rfl, ⟨hv.box, hk H5.out, hk H6.out, hk H7.out, ?_, ⟨_, rfl⟩⟩, hv.dq, hv.kq, ria_own hv.own, fun h => absurd h (by decide), fun _ => ?_, fun h => absurd rfl h⟩
        · obtain ⟨_, _, e⟩ := own_shape hv.own; exact ⟨_, _, _, e⟩
        · have hb := hv.byf
          simp only [by4, Option.map_some, List.append_nil] at hb
          simp [putP, hb]
      · have hpos : 0 < rest.length := by omega
        by_cases hf : rest.length < 4
        · have hn := fixed_e hF.drew 4 (by omega)
          clear hF hz
          go_wp2_with (go_at_call 49; refine hleft.mono ?_; rintro e w3 ⟨rfl, rfl⟩)
          go_region_dies
          all_goals go_wp2_with (go_at_call 67; refine hn.mono ?_; rintro e w4 ⟨he, hb1⟩; rw [errPanic] at he; subst he)
          all_goals
            have hv := HW.out
            have hb := hv.byf
            rw [by4_few hpos hf] at hb
            exact ⟨rfl, .inl ⟨rfl, hv.kq.trans (Kq.r (((But.refl D wr).drew).trans hb1)), by simp [putP, hb]⟩⟩
        · have hn := fixed_q hF.drew 4 (by omega) (by omega) (by omega)
          have hFb := hF.leftW
          clear hF hz
          go_wp2_with (go_at_call 49; refine hleft.mono ?_; rintro e w3 ⟨rfl, rfl⟩)
          have hO : ∀ w4, But D wr.drew w4 → w4.ownsRow w.heap.size 3 1 v9 done.length (done.map (Value.int .i64)) ∧ w.heap.size ≤ w4.heap.size ∧ w4.cell? ⟨R, 11, none⟩ = some v9 ∧ (∀ j, w4.frozen? ⟨R, j, none⟩ = false) ∧ w4.cell? ⟨R, 1, none⟩ = some (.pointer (some ⟨D, 0, none⟩)) ∧
              (w4.alloc (.cells #[.int .i64 (bigv (rest.take 4) 0)] 3)).cell? ⟨R, 1, none⟩ = some (.pointer (some ⟨D, 0, none⟩)) ∧ (w4.alloc (.cells #[.int .i64 (bigv (rest.take 4) 0)] 3)).cell? ⟨R, 11, none⟩ = some v9 := fun w4 hb4 => by
            obtain ⟨f1, f2, f3⟩ := HW.out.fixed hR hlt (((But.refl D wr).drew).trans hb4)
            have f1' := f1
            rw [← (below_alloc w4 (.cells #[.int .i64 (bigv (rest.take 4) 0)] 3)).block R (by have := f3.size; omega)] at f1'
            exact ⟨f2, f3.size, (cell_of_row _ R 11 _ _ (0, 0) f1).trans rfl, fun j => by simp [World.frozen?, f1], (cell_of_row _ R 1 _ _ (0, 0) f1).trans rfl, (cell_of_row _ R 1 _ _ (0, 0) f1').trans rfl, (cell_of_row _ R 11 _ _ (0, 0) f1').trans rfl⟩
          have hdl : done.length ≤ 1000000 := by have := HW.out.len; omega
          have HK : Hid (∀ w4 w5 u9, But D wr.drew w4 → Fq w2 w4 D (rest.drop 4) (t2 + 4) 3 → Below w.heap.size w4 w5 → w5.ownsRow w.heap.size 3 1 u9 (done.length + 1) ((done ++ [bigv (rest.take 4) 0]).map (Value.int .i64)) → Vs w (w5.setCell ⟨R, 11, none⟩ u9) R B D p (.slice a5 p.g.length k5) (.slice a6 p.o.length k6) (.slice a7 p.r.length k7) v (bigv (v.take 4) 0) (done ++ [bigv (rest.take 4) 0]) (rest.drop 4) u9) :=
            Lib.hid fun w4 w5 u9 hb4 hd4 hb5 ho5 => HW.out.step H5.out H6.out H7.out hR hlt (by omega) (((But.refl D wr).drew).trans hb4) ⟨w2, _, HS2.out, hd4⟩ hb5 ho5
          obtain ⟨a9, k9, rfl⟩ := own_shape HW.out.own
          generalize bigv (rest.take 4) 0 = X at hn hO HK
          have hY : ∀ w4, But D wr.drew w4 → ∃ a5 k5 w5, (Builtin.append_ #[23, 23] 23 #[.slice a9 done.length k9, .slice (some ⟨w4.heap.size, 0, none⟩) 1 1]).run Tryd.prog (w4.alloc (.cells #[.int .i64 X] 3)) = .ok (.slice a5 (done.length + 1) k5) w5 ∧ w5.ownsRow w.heap.size 3 1 (.slice a5 (done.length + 1) k5) (done.length + 1) ((done ++ [X]).map (Value.int .i64)) ∧ Below w.heap.size w4 w5 ∧ w5.cell? ⟨R, 11, none⟩ = some (.slice a9 done.length k9) ∧ (∀ j, w5.frozen? ⟨R, j, none⟩ = false) ∧ w5.cell? ⟨R, 1, none⟩ = some (.pointer (some ⟨D, 0, none⟩)) := fun w4 hb4 => by
            obtain ⟨f2, f3, f4, f5, _⟩ := hO w4 hb4
            obtain ⟨v5, w5, hr5, ho5, hg5⟩ := run_onep (World.ownsRow.alloc f2 (.cells #[.int .i64 X] 3)) w4.heap.size X (by simp [go_sem]) hdl (by simp; omega)
            obtain ⟨a5, k5, rfl⟩ := own_shape ho5
            have hb5 : Below w.heap.size w4 w5 := ((below_alloc w4 _).mono f3).trans (below_own (World.ownsRow.alloc f2 (.cells #[.int .i64 X] 3)) (by simp; omega) hg5)
            obtain ⟨f1, _, _⟩ := HW.out.fixed hR hlt (((But.refl D wr).drew).trans hb4)
            have f1' := f1
            rw [← hb5.block R (by omega)] at f1'
            exact ⟨a5, k5, w5, hr5, ho5, hb5, (cell_of_row _ R 11 _ _ (0, 0) f1').trans rfl, (fun j => by simp [World.frozen?, f1']), (cell_of_row _ R 1 _ _ (0, 0) f1').trans rfl⟩
          refine wp_region_held_drew (S := fun w' => w'.cell? ⟨R, 1, none⟩ = some (.pointer (some ⟨D, 0, none⟩))) (by kernel_rfl) c1 (fun _ => ?_)
          refine wpAnyH_take (i := 0) (oi := { dst := some 17, op := Op.move (Operand.tmp 0), type := 72, pos := "reader.go:61", after := #[], guard := none }) (v := ?_) rfl (by kernel_rfl) (by kernel_rfl) (by kernel_rfl) (fun _ _ _ h => h) (Or.inl ⟨by rfl, ?_⟩) (by exact c1) ?_
          rotate_left
          · intro w hSw; (try dsimp only at hSw); go_simp; try (with_reducible rfl)
          repeat (first | simp only [Act.put] | simp only [List.setIfInBounds_toArray] | simp only [List.set_cons_zero] | simp only [List.set_cons_succ])
          refine wpAnyH_take (i := 1) (oi := { dst := some 18, op := Op.move (Operand.tmp 0), type := 72, pos := "reader.go:61", after := #[], guard := none }) (v := ?_) rfl (by kernel_rfl) (by kernel_rfl) (by kernel_rfl) (fun _ _ _ h => h) (Or.inl ⟨by rfl, ?_⟩) (by exact c1) ?_
          rotate_left
          · intro w hSw; (try dsimp only at hSw); go_simp; try (with_reducible rfl)
          repeat (first | simp only [Act.put] | simp only [List.setIfInBounds_toArray] | simp only [List.set_cons_zero] | simp only [List.set_cons_succ])
          refine wpAnyH_take (i := 2) (oi := { dst := some 19, op := Op.nilCheck (Operand.tmp 18), type := 0, pos := "reader.go:61", after := #[{ on := 1, ground := Ground.data }], guard := none }) (v := ?_) rfl (by kernel_rfl) (by kernel_rfl) (by kernel_rfl) (fun _ _ _ h => h) (Or.inl ⟨by rfl, ?_⟩) (by exact c1) ?_
          rotate_left
          · intro w hSw; (try dsimp only at hSw); go_simp; try (with_reducible rfl)
          repeat (first | simp only [Act.put] | simp only [List.setIfInBounds_toArray] | simp only [List.set_cons_zero] | simp only [List.set_cons_succ])
          refine wpAnyH_take (i := 3) (oi := { dst := some 20, op := Op.fieldAddr 56 (Operand.tmp 19) 2, type := 0, pos := "reader.go:61", after := #[{ on := 2, ground := Ground.data }], guard := none }) (v := ?_) rfl (by kernel_rfl) (by kernel_rfl) (by kernel_rfl) (fun _ _ _ h => h) (Or.inl ⟨by rfl, ?_⟩) (by exact c1) ?_
          rotate_left
          · intro w hSw; (try dsimp only at hSw); go_simp; try (with_reducible rfl)
          repeat (first | simp only [Act.put] | simp only [List.setIfInBounds_toArray] | simp only [List.set_cons_zero] | simp only [List.set_cons_succ])
          refine wpAnyH_take (i := 4) (oi := { dst := some 21, op := Op.fieldAddr 27 (Operand.tmp 20) 9, type := 0, pos := "reader.go:61", after := #[{ on := 3, ground := Ground.data }], guard := none }) (v := ?_) rfl (by kernel_rfl) (by kernel_rfl) (by kernel_rfl) (fun _ _ _ h => h) (Or.inl ⟨by rfl, ?_⟩) (by exact c1) ?_
          rotate_left
          · intro w hSw; (try dsimp only at hSw); go_simp; try (with_reducible rfl)
          repeat (first | simp only [Act.put] | simp only [List.setIfInBounds_toArray] | simp only [List.set_cons_zero] | simp only [List.set_cons_succ])
          refine wpAnyH_take (i := 6) (oi := { dst := some 23, op := Op.move (Operand.tmp 0), type := 72, pos := "reader.go:61", after := #[], guard := none }) (v := ?_) rfl (by kernel_rfl) (by kernel_rfl) (by kernel_rfl) (fun _ _ _ h => h) (Or.inl ⟨by rfl, ?_⟩) (by exact c1) ?_
          rotate_left
          · intro w hSw; (try dsimp only at hSw); go_simp; try (with_reducible rfl)
          repeat (first | simp only [Act.put] | simp only [List.setIfInBounds_toArray] | simp only [List.set_cons_zero] | simp only [List.set_cons_succ])
          refine wpAnyH_take (i := 7) (oi := { dst := some 24, op := Op.nilCheck (Operand.tmp 23), type := 0, pos := "reader.go:61", after := #[{ on := 6, ground := Ground.data }], guard := none }) (v := ?_) rfl (by kernel_rfl) (by kernel_rfl) (by kernel_rfl) (fun _ _ _ h => h) (Or.inl ⟨by rfl, ?_⟩) (by exact c1) ?_
          rotate_left
          · intro w hSw; (try dsimp only at hSw); go_simp; try (with_reducible rfl)
          repeat (first | simp only [Act.put] | simp only [List.setIfInBounds_toArray] | simp only [List.set_cons_zero] | simp only [List.set_cons_succ])
          refine wpAnyH_take (i := 8) (oi := { dst := some 25, op := Op.fieldAddr 56 (Operand.tmp 24) 1, type := 0, pos := "reader.go:61", after := #[{ on := 7, ground := Ground.data }], guard := none }) (v := ?_) rfl (by kernel_rfl) (by kernel_rfl) (by kernel_rfl) (fun _ _ _ h => h) (Or.inl ⟨by rfl, ?_⟩) (by exact c1) ?_
          rotate_left
          · intro w hSw; (try dsimp only at hSw); go_simp; try (with_reducible rfl)
          repeat (first | simp only [Act.put] | simp only [List.setIfInBounds_toArray] | simp only [List.set_cons_zero] | simp only [List.set_cons_succ])
          refine wpAnyH_take (i := 9) (oi := { dst := some 26, op := Op.load 53 (Operand.tmp 25), type := 53, pos := "reader.go:61", after := #[{ on := 8, ground := Ground.data }], guard := none }) (v := ?_) rfl (by kernel_rfl) (by kernel_rfl) (by kernel_rfl) (fun _ _ _ h => h) (Or.inl ⟨by rfl, ?_⟩) (by exact c1) ?_
          rotate_left
          · intro w hSw; (try dsimp only at hSw); go_simp; try (with_reducible rfl)
          repeat (first | simp only [Act.put] | simp only [List.setIfInBounds_toArray] | simp only [List.set_cons_zero] | simp only [List.set_cons_succ])
          refine wpAnyH_ready (rs := [5, 10]) (by kernel_rfl) (by simp) ?_
          refine AllReadyH.cons (o := { dst := some 22, op := Op.load 23 (Operand.tmp 21), type := 23, pos := "reader.go:61", after := #[{ on := 4, ground := Ground.data }], guard := none }) rfl (fun K hK => ?_) (AllReadyH.cons (o := { dst := some 27, op := Op.call { callee := Callee.value (Operand.func 67), args := #[Operand.tmp 26, Operand.const (Value.int IntKind.i64 4)], argTypes := #[53, 3] }, type := 3, pos := "reader.go:61", after := #[{ on := 9, ground := Ground.data }], guard := none }) rfl (fun K hK => ?_) AllReadyH.nil)
          · go_simp
            refine hK.out _ _ c1 (fun _ => ?_)
            clear hK K
            repeat (first | simp only [Act.put] | simp only [List.setIfInBounds_toArray] | simp only [List.set_cons_zero] | simp only [List.set_cons_succ])
            refine wpAnyH_ready (rs := [10]) (by kernel_rfl) (by simp) ?_
            refine AllReadyH.cons (o := { dst := some 27, op := Op.call { callee := Callee.value (Operand.func 67), args := #[Operand.tmp 26, Operand.const (Value.int IntKind.i64 4)], argTypes := #[53, 3] }, type := 3, pos := "reader.go:61", after := #[{ on := 9, ground := Ground.data }], guard := none }) rfl (fun K hK => ?_) AllReadyH.nil
            go_simp
            refine hn.mono ?_
            rintro e w4 ⟨rfl, hd4, hb4⟩
            obtain ⟨f2, f3, f4, f5, f6, f7, f8⟩ := hO w4 hb4
            obtain ⟨b5, m5, w5, hr5, ho5, hb5, g5, g6, g7⟩ := hY w4 hb4
            have hk5 := HK.out w4 w5 _ hb4 hd4 hb5 ho5
            refine hK.out _ _ f6 (fun _ => ?_)
            clear hK K
            repeat (first | simp only [Act.put] | simp only [List.setIfInBounds_toArray] | simp only [List.set_cons_zero] | simp only [List.set_cons_succ])
            refine wpAnyH_ready (rs := [11]) (by kernel_rfl) (by simp) ?_
            refine AllReadyH.cons (o := { dst := some 28, op := Op.buildSlice 23 1 #[(0, Operand.tmp 27)], type := 23, pos := "reader.go:61", after := #[{ on := 10, ground := Ground.data }], guard := none }) rfl (fun K hK => ?_) AllReadyH.nil
            go_simp
            refine hK.out _ _ f7 (fun _ => ?_)
            clear hK K
            repeat (first | simp only [Act.put] | simp only [List.setIfInBounds_toArray] | simp only [List.set_cons_zero] | simp only [List.set_cons_succ])
            refine wpAnyH_ready (rs := [12]) (by kernel_rfl) (by simp) ?_
            refine AllReadyH.cons (o := { dst := some 29, op := Op.call { callee := Callee.builtin Builtin.append, args := #[Operand.tmp 22, Operand.tmp 28], argTypes := #[23, 23] }, type := 23, pos := "reader.go:61", after := #[{ on := 5, ground := Ground.data }, { on := 11, ground := Ground.data }, { on := 10, ground := Ground.chain }], guard := none }) rfl (fun K hK => ?_) AllReadyH.nil
            refine step_run_ok (.tmp 22) (.tmp 28) _ rfl rfl (by rfl) (by rfl) hr5 ?_
            refine hK.out _ _ g7 (fun _ => ?_)
            clear hK K
            repeat (first | simp only [Act.put] | simp only [List.setIfInBounds_toArray] | simp only [List.set_cons_zero] | simp only [List.set_cons_succ])
            refine wpAnyH_take (i := 13) (oi := { dst := some 30, op := Op.nilCheck (Operand.tmp 17), type := 0, pos := "reader.go:61", after := #[{ on := 0, ground := Ground.data }, { on := 0, ground := Ground.phase }, { on := 1, ground := Ground.phase }, { on := 2, ground := Ground.phase }, { on := 3, ground := Ground.phase }, { on := 4, ground := Ground.phase }, { on := 5, ground := Ground.phase }, { on := 6, ground := Ground.phase }, { on := 7, ground := Ground.phase }, { on := 8, ground := Ground.phase }, { on := 9, ground := Ground.phase }, { on := 10, ground := Ground.phase }, { on := 11, ground := Ground.phase }, { on := 12, ground := Ground.phase }], guard := none }) (v := ?_) rfl (by kernel_rfl) (by kernel_rfl) (by kernel_rfl) (fun _ _ _ h => h) (Or.inl ⟨by rfl, ?_⟩) g7 ?_
            rotate_left
            · intro w _; go_simp; try (with_reducible rfl)
            repeat (first | simp only [Act.put] | simp only [List.setIfInBounds_toArray] | simp only [List.set_cons_zero] | simp only [List.set_cons_succ])
            refine wpAnyH_take (i := 14) (oi := { dst := some 31, op := Op.fieldAddr 56 (Operand.tmp 30) 2, type := 0, pos := "reader.go:61", after := #[{ on := 13, ground := Ground.data }, { on := 0, ground := Ground.phase }, { on := 1, ground := Ground.phase }, { on := 2, ground := Ground.phase }, { on := 3, ground := Ground.phase }, { on := 4, ground := Ground.phase }, { on := 5, ground := Ground.phase }, { on := 6, ground := Ground.phase }, { on := 7, ground := Ground.phase }, { on := 8, ground := Ground.phase }, { on := 9, ground := Ground.phase }, { on := 10, ground := Ground.phase }, { on := 11, ground := Ground.phase }, { on := 12, ground := Ground.phase }], guard := none }) (v := ?_) rfl (by kernel_rfl) (by kernel_rfl) (by kernel_rfl) (fun _ _ _ h => h) (Or.inl ⟨by rfl, ?_⟩) g7 ?_
            rotate_left
            · intro w _; go_simp; try (with_reducible rfl)
            repeat (first | simp only [Act.put] | simp only [List.setIfInBounds_toArray] | simp only [List.set_cons_zero] | simp only [List.set_cons_succ])
            refine wpAnyH_take (i := 15) (oi := { dst := some 32, op := Op.fieldAddr 27 (Operand.tmp 31) 9, type := 0, pos := "reader.go:61", after := #[{ on := 14, ground := Ground.data }, { on := 0, ground := Ground.phase }, { on := 1, ground := Ground.phase }, { on := 2, ground := Ground.phase }, { on := 3, ground := Ground.phase }, { on := 4, ground := Ground.phase }, { on := 5, ground := Ground.phase }, { on := 6, ground := Ground.phase }, { on := 7, ground := Ground.phase }, { on := 8, ground := Ground.phase }, { on := 9, ground := Ground.phase }, { on := 10, ground := Ground.phase }, { on := 11, ground := Ground.phase }, { on := 12, ground := Ground.phase }], guard := none }) (v := ?_) rfl (by kernel_rfl) (by kernel_rfl) (by kernel_rfl) (fun _ _ _ h => h) (Or.inl ⟨by rfl, ?_⟩) g7 ?_
            rotate_left
            · intro w _; go_simp; try (with_reducible rfl)
            repeat (first | simp only [Act.put] | simp only [List.setIfInBounds_toArray] | simp only [List.set_cons_zero] | simp only [List.set_cons_succ])
            refine wpAnyH_ready (rs := [16]) (by kernel_rfl) (by simp) ?_
            refine AllReadyH.cons (o := { dst := none, op := Op.store 23 (Operand.tmp 32) (Operand.tmp 29), type := 0, pos := "reader.go:61", after := #[{ on := 15, ground := Ground.data }, { on := 12, ground := Ground.data }, { on := 12, ground := Ground.chain }, { on := 0, ground := Ground.phase }, { on := 1, ground := Ground.phase }, { on := 2, ground := Ground.phase }, { on := 3, ground := Ground.phase }, { on := 4, ground := Ground.phase }, { on := 5, ground := Ground.phase }, { on := 6, ground := Ground.phase }, { on := 7, ground := Ground.phase }, { on := 8, ground := Ground.phase }, { on := 9, ground := Ground.phase }, { on := 10, ground := Ground.phase }, { on := 11, ground := Ground.phase }, { on := 12, ground := Ground.phase }], guard := none }) rfl (fun K hK => ?_) AllReadyH.nil
            go_simp
            refine hK.out _ _ hk5.cells.1 (fun _ => ?_)
            clear hK K
            repeat (first | simp only [Act.put] | simp only [List.setIfInBounds_toArray] | simp only [List.set_cons_zero] | simp only [List.set_cons_succ])
            refine wpAnyH_done (by kernel_rfl) ?_ _
            go_wp2_with fail
            go_round
            case rel => exact ⟨_, _, _, hk5⟩
            case measure => rw [hk5.dq.leftW, hFb]; simp; omega
          · go_simp
            refine hn.mono ?_
            rintro e w4 ⟨rfl, hd4, hb4⟩
            obtain ⟨f2, f3, f4, f5, f6, f7, f8⟩ := hO w4 hb4
            obtain ⟨b5, m5, w5, hr5, ho5, hb5, g5, g6, g7⟩ := hY w4 hb4
            have hk5 := HK.out w4 w5 _ hb4 hd4 hb5 ho5
            refine hK.out _ _ f6 (fun _ => ?_)
            clear hK K
            repeat (first | simp only [Act.put] | simp only [List.setIfInBounds_toArray] | simp only [List.set_cons_zero] | simp only [List.set_cons_succ])
            refine wpAnyH_ready (rs := [5, 11]) (by kernel_rfl) (by simp) ?_
            refine AllReadyH.cons (o := { dst := some 22, op := Op.load 23 (Operand.tmp 21), type := 23, pos := "reader.go:61", after := #[{ on := 4, ground := Ground.data }], guard := none }) rfl (fun K hK => ?_) (AllReadyH.cons (o := { dst := some 28, op := Op.buildSlice 23 1 #[(0, Operand.tmp 27)], type := 23, pos := "reader.go:61", after := #[{ on := 10, ground := Ground.data }], guard := none }) rfl (fun K hK => ?_) AllReadyH.nil)
            · go_simp
              refine hK.out _ _ f6 (fun _ => ?_)
              clear hK K
              repeat (first | simp only [Act.put] | simp only [List.setIfInBounds_toArray] | simp only [List.set_cons_zero] | simp only [List.set_cons_succ])
              refine wpAnyH_ready (rs := [11]) (by kernel_rfl) (by simp) ?_
              refine AllReadyH.cons (o := { dst := some 28, op := Op.buildSlice 23 1 #[(0, Operand.tmp 27)], type := 23, pos := "reader.go:61", after := #[{ on := 10, ground := Ground.data }], guard := none }) rfl (fun K hK => ?_) AllReadyH.nil
              go_simp
              refine hK.out _ _ f7 (fun _ => ?_)
              clear hK K
              repeat (first | simp only [Act.put] | simp only [List.setIfInBounds_toArray] | simp only [List.set_cons_zero] | simp only [List.set_cons_succ])
              refine wpAnyH_ready (rs := [12]) (by kernel_rfl) (by simp) ?_
              refine AllReadyH.cons (o := { dst := some 29, op := Op.call { callee := Callee.builtin Builtin.append, args := #[Operand.tmp 22, Operand.tmp 28], argTypes := #[23, 23] }, type := 23, pos := "reader.go:61", after := #[{ on := 5, ground := Ground.data }, { on := 11, ground := Ground.data }, { on := 10, ground := Ground.chain }], guard := none }) rfl (fun K hK => ?_) AllReadyH.nil
              refine step_run_ok (.tmp 22) (.tmp 28) _ rfl rfl (by rfl) (by rfl) hr5 ?_
              refine hK.out _ _ g7 (fun _ => ?_)
              clear hK K
              repeat (first | simp only [Act.put] | simp only [List.setIfInBounds_toArray] | simp only [List.set_cons_zero] | simp only [List.set_cons_succ])
              refine wpAnyH_take (i := 13) (oi := { dst := some 30, op := Op.nilCheck (Operand.tmp 17), type := 0, pos := "reader.go:61", after := #[{ on := 0, ground := Ground.data }, { on := 0, ground := Ground.phase }, { on := 1, ground := Ground.phase }, { on := 2, ground := Ground.phase }, { on := 3, ground := Ground.phase }, { on := 4, ground := Ground.phase }, { on := 5, ground := Ground.phase }, { on := 6, ground := Ground.phase }, { on := 7, ground := Ground.phase }, { on := 8, ground := Ground.phase }, { on := 9, ground := Ground.phase }, { on := 10, ground := Ground.phase }, { on := 11, ground := Ground.phase }, { on := 12, ground := Ground.phase }], guard := none }) (v := ?_) rfl (by kernel_rfl) (by kernel_rfl) (by kernel_rfl) (fun _ _ _ h => h) (Or.inl ⟨by rfl, ?_⟩) g7 ?_
              rotate_left
              · intro w _; go_simp; try (with_reducible rfl)
              repeat (first | simp only [Act.put] | simp only [List.setIfInBounds_toArray] | simp only [List.set_cons_zero] | simp only [List.set_cons_succ])
              refine wpAnyH_take (i := 14) (oi := { dst := some 31, op := Op.fieldAddr 56 (Operand.tmp 30) 2, type := 0, pos := "reader.go:61", after := #[{ on := 13, ground := Ground.data }, { on := 0, ground := Ground.phase }, { on := 1, ground := Ground.phase }, { on := 2, ground := Ground.phase }, { on := 3, ground := Ground.phase }, { on := 4, ground := Ground.phase }, { on := 5, ground := Ground.phase }, { on := 6, ground := Ground.phase }, { on := 7, ground := Ground.phase }, { on := 8, ground := Ground.phase }, { on := 9, ground := Ground.phase }, { on := 10, ground := Ground.phase }, { on := 11, ground := Ground.phase }, { on := 12, ground := Ground.phase }], guard := none }) (v := ?_) rfl (by kernel_rfl) (by kernel_rfl) (by kernel_rfl) (fun _ _ _ h => h) (Or.inl ⟨by rfl, ?_⟩) g7 ?_
              rotate_left
              · intro w _; go_simp; try (with_reducible rfl)
              repeat (first | simp only [Act.put] | simp only [List.setIfInBounds_toArray] | simp only [List.set_cons_zero] | simp only [List.set_cons_succ])
              refine wpAnyH_take (i := 15) (oi := { dst := some 32, op := Op.fieldAddr 27 (Operand.tmp 31) 9, type := 0, pos := "reader.go:61", after := #[{ on := 14, ground := Ground.data }, { on := 0, ground := Ground.phase }, { on := 1, ground := Ground.phase }, { on := 2, ground := Ground.phase }, { on := 3, ground := Ground.phase }, { on := 4, ground := Ground.phase }, { on := 5, ground := Ground.phase }, { on := 6, ground := Ground.phase }, { on := 7, ground := Ground.phase }, { on := 8, ground := Ground.phase }, { on := 9, ground := Ground.phase }, { on := 10, ground := Ground.phase }, { on := 11, ground := Ground.phase }, { on := 12, ground := Ground.phase }], guard := none }) (v := ?_) rfl (by kernel_rfl) (by kernel_rfl) (by kernel_rfl) (fun _ _ _ h => h) (Or.inl ⟨by rfl, ?_⟩) g7 ?_
              rotate_left
              · intro w _; go_simp; try (with_reducible rfl)
              repeat (first | simp only [Act.put] | simp only [List.setIfInBounds_toArray] | simp only [List.set_cons_zero] | simp only [List.set_cons_succ])
              refine wpAnyH_ready (rs := [16]) (by kernel_rfl) (by simp) ?_
              refine AllReadyH.cons (o := { dst := none, op := Op.store 23 (Operand.tmp 32) (Operand.tmp 29), type := 0, pos := "reader.go:61", after := #[{ on := 15, ground := Ground.data }, { on := 12, ground := Ground.data }, { on := 12, ground := Ground.chain }, { on := 0, ground := Ground.phase }, { on := 1, ground := Ground.phase }, { on := 2, ground := Ground.phase }, { on := 3, ground := Ground.phase }, { on := 4, ground := Ground.phase }, { on := 5, ground := Ground.phase }, { on := 6, ground := Ground.phase }, { on := 7, ground := Ground.phase }, { on := 8, ground := Ground.phase }, { on := 9, ground := Ground.phase }, { on := 10, ground := Ground.phase }, { on := 11, ground := Ground.phase }, { on := 12, ground := Ground.phase }], guard := none }) rfl (fun K hK => ?_) AllReadyH.nil
              go_simp
              refine hK.out _ _ hk5.cells.1 (fun _ => ?_)
              clear hK K
              repeat (first | simp only [Act.put] | simp only [List.setIfInBounds_toArray] | simp only [List.set_cons_zero] | simp only [List.set_cons_succ])
              refine wpAnyH_done (by kernel_rfl) ?_ _
              go_wp2_with fail
              go_round
              case rel => exact ⟨_, _, _, hk5⟩
              case measure => rw [hk5.dq.leftW, hFb]; simp; omega
            · go_simp
              refine hK.out _ _ f7 (fun _ => ?_)
              clear hK K
              repeat (first | simp only [Act.put] | simp only [List.setIfInBounds_toArray] | simp only [List.set_cons_zero] | simp only [List.set_cons_succ])
              refine wpAnyH_ready (rs := [5]) (by kernel_rfl) (by simp) ?_
              refine AllReadyH.cons (o := { dst := some 22, op := Op.load 23 (Operand.tmp 21), type := 23, pos := "reader.go:61", after := #[{ on := 4, ground := Ground.data }], guard := none }) rfl (fun K hK => ?_) AllReadyH.nil
              go_simp
              refine hK.out _ _ f7 (fun _ => ?_)
              clear hK K
              repeat (first | simp only [Act.put] | simp only [List.setIfInBounds_toArray] | simp only [List.set_cons_zero] | simp only [List.set_cons_succ])
              refine wpAnyH_ready (rs := [12]) (by kernel_rfl) (by simp) ?_
              refine AllReadyH.cons (o := { dst := some 29, op := Op.call { callee := Callee.builtin Builtin.append, args := #[Operand.tmp 22, Operand.tmp 28], argTypes := #[23, 23] }, type := 23, pos := "reader.go:61", after := #[{ on := 5, ground := Ground.data }, { on := 11, ground := Ground.data }, { on := 10, ground := Ground.chain }], guard := none }) rfl (fun K hK => ?_) AllReadyH.nil
              refine step_run_ok (.tmp 22) (.tmp 28) _ rfl rfl (by rfl) (by rfl) hr5 ?_
              refine hK.out _ _ g7 (fun _ => ?_)
              clear hK K
              repeat (first | simp only [Act.put] | simp only [List.setIfInBounds_toArray] | simp only [List.set_cons_zero] | simp only [List.set_cons_succ])
              refine wpAnyH_take (i := 13) (oi := { dst := some 30, op := Op.nilCheck (Operand.tmp 17), type := 0, pos := "reader.go:61", after := #[{ on := 0, ground := Ground.data }, { on := 0, ground := Ground.phase }, { on := 1, ground := Ground.phase }, { on := 2, ground := Ground.phase }, { on := 3, ground := Ground.phase }, { on := 4, ground := Ground.phase }, { on := 5, ground := Ground.phase }, { on := 6, ground := Ground.phase }, { on := 7, ground := Ground.phase }, { on := 8, ground := Ground.phase }, { on := 9, ground := Ground.phase }, { on := 10, ground := Ground.phase }, { on := 11, ground := Ground.phase }, { on := 12, ground := Ground.phase }], guard := none }) (v := ?_) rfl (by kernel_rfl) (by kernel_rfl) (by kernel_rfl) (fun _ _ _ h => h) (Or.inl ⟨by rfl, ?_⟩) g7 ?_
              rotate_left
              · intro w _; go_simp; try (with_reducible rfl)
              repeat (first | simp only [Act.put] | simp only [List.setIfInBounds_toArray] | simp only [List.set_cons_zero] | simp only [List.set_cons_succ])
              refine wpAnyH_take (i := 14) (oi := { dst := some 31, op := Op.fieldAddr 56 (Operand.tmp 30) 2, type := 0, pos := "reader.go:61", after := #[{ on := 13, ground := Ground.data }, { on := 0, ground := Ground.phase }, { on := 1, ground := Ground.phase }, { on := 2, ground := Ground.phase }, { on := 3, ground := Ground.phase }, { on := 4, ground := Ground.phase }, { on := 5, ground := Ground.phase }, { on := 6, ground := Ground.phase }, { on := 7, ground := Ground.phase }, { on := 8, ground := Ground.phase }, { on := 9, ground := Ground.phase }, { on := 10, ground := Ground.phase }, { on := 11, ground := Ground.phase }, { on := 12, ground := Ground.phase }], guard := none }) (v := ?_) rfl (by kernel_rfl) (by kernel_rfl) (by kernel_rfl) (fun _ _ _ h => h) (Or.inl ⟨by rfl, ?_⟩) g7 ?_
              rotate_left
              · intro w _; go_simp; try (with_reducible rfl)
              repeat (first | simp only [Act.put] | simp only [List.setIfInBounds_toArray] | simp only [List.set_cons_zero] | simp only [List.set_cons_succ])
              refine wpAnyH_take (i := 15) (oi := { dst := some 32, op := Op.fieldAddr 27 (Operand.tmp 31) 9, type := 0, pos := "reader.go:61", after := #[{ on := 14, ground := Ground.data }, { on := 0, ground := Ground.phase }, { on := 1, ground := Ground.phase }, { on := 2, ground := Ground.phase }, { on := 3, ground := Ground.phase }, { on := 4, ground := Ground.phase }, { on := 5, ground := Ground.phase }, { on := 6, ground := Ground.phase }, { on := 7, ground := Ground.phase }, { on := 8, ground := Ground.phase }, { on := 9, ground := Ground.phase }, { on := 10, ground := Ground.phase }, { on := 11, ground := Ground.phase }, { on := 12, ground := Ground.phase }], guard := none }) (v := ?_) rfl (by kernel_rfl) (by kernel_rfl) (by kernel_rfl) (fun _ _ _ h => h) (Or.inl ⟨by rfl, ?_⟩) g7 ?_
              rotate_left
              · intro w _; go_simp; try (with_reducible rfl)
              repeat (first | simp only [Act.put] | simp only [List.setIfInBounds_toArray] | simp only [List.set_cons_zero] | simp only [List.set_cons_succ])
              refine wpAnyH_ready (rs := [16]) (by kernel_rfl) (by simp) ?_
              refine AllReadyH.cons (o := { dst := none, op := Op.store 23 (Operand.tmp 32) (Operand.tmp 29), type := 0, pos := "reader.go:61", after := #[{ on := 15, ground := Ground.data }, { on := 12, ground := Ground.data }, { on := 12, ground := Ground.chain }, { on := 0, ground := Ground.phase }, { on := 1, ground := Ground.phase }, { on := 2, ground := Ground.phase }, { on := 3, ground := Ground.phase }, { on := 4, ground := Ground.phase }, { on := 5, ground := Ground.phase }, { on := 6, ground := Ground.phase }, { on := 7, ground := Ground.phase }, { on := 8, ground := Ground.phase }, { on := 9, ground := Ground.phase }, { on := 10, ground := Ground.phase }, { on := 11, ground := Ground.phase }, { on := 12, ground := Ground.phase }], guard := none }) rfl (fun K hK => ?_) AllReadyH.nil
              go_simp
              refine hK.out _ _ hk5.cells.1 (fun _ => ?_)
              clear hK K
              repeat (first | simp only [Act.put] | simp only [List.setIfInBounds_toArray] | simp only [List.set_cons_zero] | simp only [List.set_cons_succ])
              refine wpAnyH_done (by kernel_rfl) ?_ _
              go_wp2_with fail
              go_round
              case rel => exact ⟨_, _, _, hk5⟩
              case measure => rw [hk5.dq.leftW, hFb]; simp; omega
end Go.Proofs.YtmglhlfjddgllaaDoor
namespace Go.Proofs.YtmglhlfjddgllaaDoor
open Go Go.RowKit
open Go.Maps (Keyed)

theorem keyM : Keyed Tryd.prog 3 := Go.Maps.int_keyed Tryd.underlying3
theorem keyOfM {k : Int} (h : (Lit.int .i64 k).wf = true) : keyOf Tryd.prog 3 (.int .i64 k) = some (.int .i64 k) := by
  simp [keyOf, Tryd.underlying3, mapKey, h]
theorem wfM {k : Int} (h0 : 0 ≤ k) (h1 : k ≤ 9223372036854775807) : (Lit.int .i64 k).wf = true := by
  simp [Lit.wf, IntKind.min, IntKind.max, IntKind.bits, IntKind.signed]; omega
/-- A function among the map's elements is told by itself. -/
def fR (v : Value) : Option (DataW Value × List MemPlace) :=
  match v with
  | .func _ _ _ => some (.held v, [])
  | .nilFunc => some (.held v, [])
  | _ => none
theorem fR_func (f : Fn) (a c : Array Value) : fR (.func f a c) = some (.held (.func f a c), []) := rfl
theorem fR_inv {v : Value} {y : DataW Value × List MemPlace} (h : fR v = some y) : y = (.held v, []) := by
  cases v <;> simp [fR] at h <;> exact h.symm
theorem zeroF (w : World) : (zeroValue 76).run Tryd.prog w = .ok .nilFunc w := by kernel_rfl
/-- What the map's datum says of f. -/
def SaysF (D : DataW Value) (f : Int → Option Value) : Prop := ∀ k, (Lit.int .i64 k).wf = true → (f k = none → Maps.has D (.int .i64 k) = false) ∧ ∀ v, f k = some v → Maps.has D (.int .i64 k) = true ∧ ∀ z, D.atKey (.int .i64 k) z = .held v
/-- Block mb is a map of at most n entries that holds f's values at their keys, and nothing else. -/
def MapF (w : World) (mb n : Nat) (f : Int → Option Value) : Prop := ∃ D : DataW Value, w.ownsMap Tryd.prog 3 fR mb n D ∧ SaysF D f
theorem MapF.made (w : World) : MapF (w.alloc (.map #[] 0)) w.heap.size 0 (fun _ => none) :=
  ⟨.map [], World.ownsMap_made _ _ _ _, fun k _ => ⟨fun _ => rfl, fun v h => by cases h⟩⟩
theorem MapF.lt {w : World} {mb n : Nat} {f : Int → Option Value} (h : MapF w mb n f) : mb < w.heap.size := by
  obtain ⟨D, h1, _⟩ := h; exact h1.lt
theorem MapF.keep {w w' : World} {mb n : Nat} {f : Int → Option Value} (h : MapF w mb n f) (e : w'.heap[mb]? = w.heap[mb]?) : MapF w' mb n f := by
  obtain ⟨D, ⟨es, clock, hb, r⟩, h2⟩ := h
  exact ⟨D, ⟨es, clock, by rw [e]; exact hb, r⟩, h2⟩
theorem MapF.below {w w' : World} {mb n : Nat} {f : Int → Option Value} (h : MapF w mb n f) (hb : Below w.heap.size w w') : MapF w' mb n f := h.keep (hb.block mb h.lt)
theorem MapF.mono {w : World} {mb n n' : Nat} {f : Int → Option Value} (h : MapF w mb n f) (hn : n ≤ n') : MapF w mb n' f := by
  obtain ⟨D, h1, h2⟩ := h
  exact ⟨D, h1.mono hn, h2⟩
/-- A look-up, and whether it is there. -/
theorem MapF.look {w : World} {mb n : Nat} {f : Int → Option Value} (h : MapF w mb n f) {k : Int} (hk : (Lit.int .i64 k).wf = true) :
    (Instr.lookup 73 (.map (some mb)) (.int .i64 k) true).run Tryd.prog w = .ok (.tuple #[(f k).getD .nilFunc, .bool (f k).isSome]) w := by
  obtain ⟨D, h1, h2⟩ := h
  obtain ⟨h3, h4⟩ := h2 k hk
  obtain ⟨v, q, hrun, hv⟩ := h1.look_ok keyM Tryd.underlying73 (zeroF w) (show fR .nilFunc = some (.held .nilFunc, []) from rfl) (keyOfM hk)
  have e := fR_inv hv
  simp only [Prod.mk.injEq] at e
  rw [hrun]
  cases hf : f k with
  | none =>
    rw [Maps.atKey_of_not_has (h3 hf)] at e
    simp only [DataW.held.injEq] at e
    rw [← e.1, h3 hf]; rfl
  | some u =>
    rw [(h4 u hf).2] at e
    simp only [DataW.held.injEq] at e
    rw [← e.1, (h4 u hf).1]; rfl
/-- A store. -/
theorem MapF.update {w : World} {mb n : Nat} {f : Int → Option Value} (h : MapF w mb n f) (hn : n < maxLen) {k : Int} (hk : (Lit.int .i64 k).wf = true) (g : Fn) (a c : Array Value) :
    ∃ w', (Instr.mapUpdate 73 (.map (some mb)) (.int .i64 k) (.func g a c)).run Tryd.prog w = .ok () w' ∧ MapF w' mb (n + 1) (fun j => if j = k then some (.func g a c) else f j) ∧ w.grownBy w' (some mb) := by
  obtain ⟨D, h1, h2⟩ := h
  obtain ⟨w', hrun, hw, hg⟩ := h1.update keyM Tryd.underlying73 hn (keyOfM hk) (fR_func g a c)
  refine ⟨w', hrun, ⟨_, hw, fun j hj => ?_⟩, hg⟩
  by_cases e : j = k
  · subst e
    dsimp only
    rw [if_pos rfl]
    refine ⟨(fun h => by cases h), fun v hv => ?_⟩
    cases hv
    exact ⟨Maps.has_put_same h1.isMap (keyM.key (keyOfM hj)) _, fun z => Maps.atKey_put_same h1.isMap (keyM.key (keyOfM hj)) _ _⟩
  · have hne : (Lit.int IntKind.i64 j) ≠ .int .i64 k := fun h => e (by cases h; rfl)
    dsimp only
    rw [if_neg e]
    obtain ⟨h3, h4⟩ := h2 j hj
    refine ⟨fun hf => ?_, fun v hv => ?_⟩
    · rw [Maps.has_put_other hne]; exact h3 hf
    · rw [Maps.has_put_other hne]; exact ⟨(h4 v hv).1, fun z => by rw [Maps.atKey_put_other hne]; exact (h4 v hv).2 z⟩
/-- A delete. -/
theorem MapF.drop {w : World} {mb n : Nat} {f : Int → Option Value} (h : MapF w mb n f) {k : Int} (hk : (Lit.int .i64 k).wf = true) (ty : TypeId) :
    ∃ w', (Builtin.delete_ #[73, 3] ty #[.map (some mb), .int .i64 k]).run Tryd.prog w = .ok (.tuple #[]) w' ∧ MapF w' mb n (fun j => if j = k then none else f j) ∧ w.grownBy w' (some mb) := by
  obtain ⟨D, h1, h2⟩ := h
  obtain ⟨w', hrun, hw, hg⟩ := h1.drop keyM Tryd.underlying73 (keyOfM hk) ty
  refine ⟨w', hrun, ⟨_, hw, fun j hj => ?_⟩, hg.grown⟩
  by_cases e : j = k
  · subst e
    dsimp only
    rw [if_pos rfl]
    exact ⟨fun _ => Maps.has_del_same, fun v hv => by cases hv⟩
  · have hne : (Lit.int IntKind.i64 j) ≠ .int .i64 k := fun h => e (by cases h; rfl)
    dsimp only
    rw [if_neg e]
    obtain ⟨h3, h4⟩ := h2 j hj
    refine ⟨fun hf => ?_, fun v hv => ?_⟩
    · rw [Maps.has_del_other hne]; exact h3 hf
    · rw [Maps.has_del_other hne]; exact ⟨(h4 v hv).1, fun z => by rw [Maps.atKey_del_other hne]; exact (h4 v hv).2 z⟩
theorem SaysF.del {D : DataW Value} {f : Int → Option Value} (h : SaysF D f) (k : Int) : SaysF (D.del (.int .i64 k)) (fun j => if j = k then none else f j) := fun j hj => by
  by_cases e : j = k
  · subst e
    dsimp only
    rw [if_pos rfl]
    exact ⟨fun _ => Maps.has_del_same, fun v hv => by cases hv⟩
  · have hne : (Lit.int IntKind.i64 j) ≠ .int .i64 k := fun h => e (by cases h; rfl)
    dsimp only
    rw [if_neg e]
    obtain ⟨h3, h4⟩ := h j hj
    refine ⟨fun hf => ?_, fun v hv => ?_⟩
    · rw [Maps.has_del_other hne]; exact h3 hf
    · rw [Maps.has_del_other hne]; exact ⟨(h4 v hv).1, fun z => by rw [Maps.atKey_del_other hne]; exact (h4 v hv).2 z⟩

/-- A field's method. -/
def fnOf (n : Int) : Option Value :=
  if n = 0 then some (.func (.func 55) #[] #[])
  else if n = 1 then some (.func (.func 56) #[] #[])
  else if n = 4 then some (.func (.func 57) #[] #[])
  else if n = 15 then some (.func (.func 58) #[] #[])
  else if n = 16 then some (.func (.func 59) #[] #[])
  else if n = 17 then some (.func (.func 60) #[] #[])
  else none
theorem fn_tk {n : Int} {v : Value} (h : fnOf n = some v) : ∃ F, v = .func (.func F) #[] #[] ∧ Tk F n ∧ n ≤ 17 := by
  unfold fnOf at h
  split at h
  · rename_i e; subst e; cases h
    exact ⟨_, rfl, ⟨enterp Tryd.func55 (by kernel_rfl) (by kernel_rfl), does_goal⟩, by omega⟩
  split at h
  · rename_i e; subst e; cases h
    exact ⟨_, rfl, ⟨enterp Tryd.func56 (by kernel_rfl) (by kernel_rfl), does_idle⟩, by omega⟩
  split at h
  · rename_i e; subst e; cases h
    exact ⟨_, rfl, ⟨enterp Tryd.func57 (by kernel_rfl) (by kernel_rfl), does_data⟩, by omega⟩
  split at h
  · rename_i e; subst e; cases h
    exact ⟨_, rfl, ⟨enterp Tryd.func58 (by kernel_rfl) (by kernel_rfl), does_own⟩, by omega⟩
  split at h
  · rename_i e; subst e; cases h
    exact ⟨_, rfl, ⟨enterp Tryd.func59 (by kernel_rfl) (by kernel_rfl), does_retry⟩, by omega⟩
  split at h
  · rename_i e; subst e; cases h
    exact ⟨_, rfl, ⟨enterp Tryd.func60 (by kernel_rfl) (by kernel_rfl), does_versions⟩, by omega⟩
  · cases h
theorem fn_none {n : Int} (h : fnOf n = none) (p : Pv) (v : List Int) : putP p n v = none := by
  unfold fnOf at h
  unfold putP
  split at h
  · cases h
  · split at h
    · cases h
    · split at h
      · cases h
      · split at h
        · cases h
        · split at h
          · cases h
          · split at h
            · cases h
            · simp_all
theorem MapF.ext {w : World} {mb n : Nat} {f g : Int → Option Value} (h : MapF w mb n f) (e : ∀ k, f k = g k) : MapF w mb n g := by
  have : f = g := funext e
  rw [← this]; exact h
theorem made_run (w : World) : (Instr.makeMap 73 none).run Tryd.prog w = .ok (.map (some w.heap.size)) (w.alloc (.map #[] 0)) := by kernel_rfl
set_option maxRecDepth 20000 in
set_option maxHeartbeats 2000000 in
theorem takers_any (w : World) : Calls Tryd.prog 48 #[] w fun e w' => e = .returned (.map (some w.heap.size)) ∧ MapF w' w.heap.size 6 fnOf ∧ Below w.heap.size w w' := by
  have hm := made_run w
  have m0 := MapF.made w
  have b0 := below_alloc w (.map #[] 0)
  obtain ⟨w1, r1, m1, g1⟩ := m0.update (by unfold maxLen; omega) (wfM (k := 0) (by omega) (by omega)) (.func 55) #[] #[]
  obtain ⟨w2, r2, m2, g2⟩ := m1.update (by unfold maxLen; omega) (wfM (k := 1) (by omega) (by omega)) (.func 56) #[] #[]
  obtain ⟨w3, r3, m3, g3⟩ := m2.update (by unfold maxLen; omega) (wfM (k := 4) (by omega) (by omega)) (.func 57) #[] #[]
  obtain ⟨w4, r4, m4, g4⟩ := m3.update (by unfold maxLen; omega) (wfM (k := 15) (by omega) (by omega)) (.func 58) #[] #[]
  obtain ⟨w5, r5, m5, g5⟩ := m4.update (by unfold maxLen; omega) (wfM (k := 16) (by omega) (by omega)) (.func 59) #[] #[]
  obtain ⟨w6, r6, m6, g6⟩ := m5.update (by unfold maxLen; omega) (wfM (k := 17) (by omega) (by omega)) (.func 60) #[] #[]
  have one : ∀ k, some w.heap.size = some k → w.heap.size ≤ k := fun k e => by cases e; exact Nat.le_refl _
  have b1 := b0.grown g1 b0.size one
  have b2 := b1.grown g2 b1.size one
  have b3 := b2.grown g3 b2.size one
  have b4 := b3.grown g4 b3.size one
  have b5 := b4.grown g5 b4.size one
  have b6 := b5.grown g6 b5.size one
  have HM := Lib.hid m6
  have HB := Lib.hid b6
  clear m0 m1 m2 m3 m4 m5 m6 b0 b1 b2 b3 b4 b5 b6 g1 g2 g3 g4 g5 g6 one
  go_enter Tryd.func48, Tryd.ntmps48
  go_wp2_with fail
  go_ret
  refine ⟨rfl, (HM.out).ext fun k => ?_, HB.out⟩
  unfold fnOf
  by_cases h0 : k = 0
  · subst h0; simp
  by_cases h1 : k = 1
  · subst h1; simp
  by_cases h4 : k = 4
  · subst h4; simp
  by_cases h15 : k = 15
  · subst h15; simp
  by_cases h16 : k = 16
  · subst h16; simp
  by_cases h17 : k = 17
  · subst h17; simp
  · simp [h0, h1, h4, h15, h16, h17]
#print axioms takers_any
end Go.Proofs.YtmglhlfjddgllaaDoor
namespace Go.Proofs.YtmglhlfjddgllaaDoor
open Go Go.RowKit

theorem rf_nil (k : Nat) (last : Int) (m : Nat) (p : Pv) : readF k last m p [] = some (p, m) := readF_nil k last m p
theorem rf_cut {k : Nat} {last : Int} {m : Nat} {p : Pv} {zs : List Int} (hz : 0 < zs.length) (h : cutP zs = none) : readF k last m p zs = none := by
  cases zs with
  | nil => simp at hz
  | cons z r =>
    cases k with
    | zero => rfl
    | succ k => simp only [readF, h]
theorem rf_low {k : Nat} {last : Int} {m : Nat} {p : Pv} {zs : List Int} {n : Int} {v s : List Int} (hz : 0 < zs.length) (h : cutP zs = some (n, v, s)) (hn : n ≤ last ∨ putP p n v = none) : readF k last m p zs = none := by
  cases zs with
  | nil => simp at hz
  | cons z r =>
    cases k with
    | zero => rfl
    | succ k =>
      simp only [readF, h]
      by_cases hl : n ≤ last
      · rw [if_pos hl]
      · rw [if_neg hl]
        rcases hn with hn | hn
        · exact absurd hn hl
        · rw [hn]
theorem rf_step {k : Nat} {last : Int} {m : Nat} {p p' : Pv} {zs : List Int} {n : Int} {v s : List Int} (hz : 0 < zs.length) (h : cutP zs = some (n, v, s)) (hn : last < n) (hp : putP p n v = some p') : readF (k + 1) last m p zs = readF k n (m + manyP n) p' s := by
  cases zs with
  | nil => simp at hz
  | cons z r =>
    simp only [readF, h, hp]
    rw [if_neg (by omega)]
theorem cut_n {zs : List Int} {n : Int} {v s : List Int} (h : cutP zs = some (n, v, s)) : n = (rd zs).1 := by
  unfold cutP at h
  split at h
  · split at h
    · split at h
      · cases h
      · cases h; rfl
    · cases h
  · cases h
theorem cut_no1 {zs : List Int} (h : (rd zs).2.2 ≠ 0) : cutP zs = none := by unfold cutP; rw [if_neg h]
theorem cut_no2 {zs : List Int} (h : (rd (zs.drop (rd zs).2.1.toNat)).2.2 ≠ 0) : cutP zs = none := by
  unfold cutP
  by_cases h1 : (rd zs).2.2 = 0
  · rw [if_pos h1, if_neg h]
  · rw [if_neg h1]
theorem cut_no3 {zs : List Int} (h : ((zs.drop (rd zs).2.1.toNat).drop (rd (zs.drop (rd zs).2.1.toNat)).2.1.toNat).length < (rd (zs.drop (rd zs).2.1.toNat)).1.toNat) : cutP zs = none := by
  unfold cutP
  by_cases h1 : (rd zs).2.2 = 0
  · by_cases h2 : (rd (zs.drop (rd zs).2.1.toNat)).2.2 = 0
    · rw [if_pos h1, if_pos h2, if_pos h]
    · rw [if_pos h1, if_neg h2]
  · rw [if_neg h1]
theorem cut_yes {zs : List Int} (h1 : (rd zs).2.2 = 0) (h2 : (rd (zs.drop (rd zs).2.1.toNat)).2.2 = 0) (h3 : ¬ ((zs.drop (rd zs).2.1.toNat).drop (rd (zs.drop (rd zs).2.1.toNat)).2.1.toNat).length < (rd (zs.drop (rd zs).2.1.toNat)).1.toNat) :
    cutP zs = some ((rd zs).1, ((zs.drop (rd zs).2.1.toNat).drop (rd (zs.drop (rd zs).2.1.toNat)).2.1.toNat).take (rd (zs.drop (rd zs).2.1.toNat)).1.toNat, ((zs.drop (rd zs).2.1.toNat).drop (rd (zs.drop (rd zs).2.1.toNat)).2.1.toNat).drop (rd (zs.drop (rd zs).2.1.toNat)).1.toNat) := by
  unfold cutP; rw [if_pos h1, if_pos h2, if_neg h3]

theorem Fq.kq {w0 w w' : World} {R D B : Nat} {rest : List Int} {t : Nat} {short : Int} (h : Fq w0 w B rest t short) (hb : Kq R D w w') (hR : w0.heap.size ≤ R) (hD : w0.heap.size ≤ D) (h1 : B ≠ R) (h2 : B ≠ D) : Fq w0 w' B rest t short := by
  obtain ⟨rv, h3, h4⟩ := h.box
  exact ⟨hb.below h.bel hR hD, h.lo, h.sum, rv, by rw [hb.block B h.lt h1 h2]; exact h3, h4⟩
/-- No params. -/
def nilS : Value := .slice none 0 0
/-- What stands in the loop: the reader, the fields' reader, the map of what is missing, the result's box. -/
structure Lc (w0 w : World) (B R G mb : Nat) (bd : Value) (p : Pv) (v5 v6 v7 v9 : Value) (f : Int → Option Value) (wr : World) : Prop where
  fq : ∃ rest t, Fq w0 wr B rest t 3
  rq : Rq wr R B bd p v5 v6 v7 v9
  mp : MapF wr mb 6 f
  gx : wr.heap[G]? = some (.cells (pCells p0 nilS nilS nilS nilS) 27 (0, 0))
  kq : Kq R B w wr
  ord : w0.heap.size ≤ B ∧ B < R ∧ R < w.heap.size ∧ G = w.heap.size ∧ mb = w.heap.size + 1
theorem Lc.c0 {w0 w wr : World} {B R G mb : Nat} {bd : Value} {p : Pv} {v5 v6 v7 v9 : Value} {f : Int → Option Value} (h : Lc w0 w B R G mb bd p v5 v6 v7 v9 f wr) : wr.cell? ⟨R, 0, none⟩ = some (.pointer (some ⟨B, 0, none⟩)) := h.rq.cells.1
theorem Lc.c1 {w0 w wr : World} {B R G mb : Nat} {bd : Value} {p : Pv} {v5 v6 v7 v9 : Value} {f : Int → Option Value} (h : Lc w0 w B R G mb bd p v5 v6 v7 v9 f wr) : wr.cell? ⟨R, 1, none⟩ = some bd := h.rq.cells.2.1
theorem Lc.fz {w0 w wr : World} {B R G mb : Nat} {bd : Value} {p : Pv} {v5 v6 v7 v9 : Value} {f : Int → Option Value} (h : Lc w0 w B R G mb bd p v5 v6 v7 v9 f wr) : ∀ j, wr.frozen? ⟨R, j, none⟩ = false := h.rq.cells.2.2.2.2.2.2.2.2.2.2.2.2
theorem Lc.but {w0 w wr w1 : World} {B R G mb : Nat} {bd : Value} {p : Pv} {v5 v6 v7 v9 : Value} {f : Int → Option Value} (h : Lc w0 w B R G mb bd p v5 v6 v7 v9 f wr) (hb : But B wr w1) {rest : List Int} {t : Nat} (hF : Fq w0 w1 B rest t 3) : Lc w0 w B R G mb bd p v5 v6 v7 v9 f w1 := by
  obtain ⟨o1, o2, o3, o4, o5⟩ := h.ord
  obtain ⟨_, _, hF0⟩ := h.fq
  exact ⟨⟨_, _, hF⟩, h.rq.keep hb hF0.noB (by omega), h.mp.keep (hb.block mb h.mp.lt (by omega)), by rw [hb.block G (Array.getElem?_eq_some_iff.1 h.gx).1 (by omega)]; exact h.gx, h.kq.trans (Kq.r hb), h.ord⟩
theorem Lc.below {w0 w wr w1 : World} {B R G mb : Nat} {bd : Value} {p : Pv} {v5 v6 v7 v9 : Value} {f : Int → Option Value} (h : Lc w0 w B R G mb bd p v5 v6 v7 v9 f wr) (hb : Below wr.heap.size wr w1) : Lc w0 w B R G mb bd p v5 v6 v7 v9 f w1 := by
  obtain ⟨_, _, hF0⟩ := h.fq
  exact ⟨⟨_, _, hF0.keep hb⟩, h.rq.below hb, h.mp.below hb, by rw [hb.block G (Array.getElem?_eq_some_iff.1 h.gx).1]; exact h.gx, h.kq.trans (Kq.of_below hb), h.ord⟩
theorem Lc.set1 {w0 w wr : World} {B R G mb : Nat} {bd : Value} {p : Pv} {v5 v6 v7 v9 : Value} {f : Int → Option Value} (h : Lc w0 w B R G mb bd p v5 v6 v7 v9 f wr) (D : Nat) : Lc w0 w B R G mb (.pointer (some ⟨D, 0, none⟩)) p v5 v6 v7 v9 f (wr.setCell ⟨R, 1, none⟩ (.pointer (some ⟨D, 0, none⟩))) := by
  obtain ⟨o1, o2, o3, o4, o5⟩ := h.ord
  obtain ⟨_, _, hF0⟩ := h.fq
  have hb := But.set wr R 1 (.pointer (some ⟨D, 0, none⟩))
  have hn := h.rq.noB
  exact ⟨⟨_, _, hF0.but hb (by omega) (by omega)⟩, ⟨rset h.rq 1 _, h.rq.g.but hb hn, h.rq.o.but hb hn, h.rq.r.but hb hn, h.rq.s9, ⟨_, rfl⟩⟩, h.mp.keep (hb.block mb h.mp.lt (by omega)), by rw [hb.block G (Array.getElem?_eq_some_iff.1 h.gx).1 (by omega)]; exact h.gx, h.kq.trans (Kq.l hb), h.ord⟩
/-- Behind a method. -/
theorem Lc.took {w0 w wr w1 : World} {B R G mb D : Nat} {bd bd' : Value} {p p' : Pv} {v5 v6 v7 v9 u5 u6 u7 u9 : Value} {f : Int → Option Value} (h : Lc w0 w B R G mb bd p v5 v6 v7 v9 f wr) (hk : Kq R D wr w1) (hD : mb < D) (hq : Rq w1 R B bd' p' u5 u6 u7 u9) : Lc w0 w B R G mb bd' p' u5 u6 u7 u9 f w1 := by
  obtain ⟨o1, o2, o3, o4, o5⟩ := h.ord
  obtain ⟨_, _, hF0⟩ := h.fq
  exact ⟨⟨_, _, hF0.kq hk (by omega) (by omega) (by omega) (by omega)⟩, hq, h.mp.keep (hk.block mb h.mp.lt (by omega) (by omega)), by rw [hk.block G (Array.getElem?_eq_some_iff.1 h.gx).1 (by omega) (by omega)]; exact h.gx,
    ⟨hk.os.trans h.kq.os, hk.tape.trans h.kq.tape, hk.output.trans h.kq.output, Nat.le_trans h.kq.size hk.size, fun k hk1 hn hm => (hk.block k (Nat.lt_of_lt_of_le hk1 h.kq.size) hn (by omega)).trans (h.kq.block k hk1 hn hm)⟩, h.ord⟩
theorem Lc.kqd {w0 w wr w1 : World} {B R G mb D : Nat} {bd : Value} {p : Pv} {v5 v6 v7 v9 : Value} {f : Int → Option Value} (h : Lc w0 w B R G mb bd p v5 v6 v7 v9 f wr) (hk : Kq R D wr w1) (hD : mb < D) : Kq R B w w1 := by
  obtain ⟨o1, o2, o3, o4, o5⟩ := h.ord
  exact ⟨hk.os.trans h.kq.os, hk.tape.trans h.kq.tape, hk.output.trans h.kq.output, Nat.le_trans h.kq.size hk.size, fun k hk1 hn hm => (hk.block k (Nat.lt_of_lt_of_le hk1 h.kq.size) hn (by omega)).trans (h.kq.block k hk1 hn hm)⟩
theorem noB_map {w : World} {mb n : Nat} {f : Int → Option Value} (h : MapF w mb n f) : NoB w mb := by
  obtain ⟨D, ⟨es, clock, hb, _⟩, _⟩ := h
  intro a x ha he
  unfold World.cell? at he
  rw [ha, hb] at he
  cases he
theorem noC_map {w : World} {mb n : Nat} {f : Int → Option Value} (h : MapF w mb n f) : ∀ a x, a.block = mb → w.cell? a ≠ some x := by
  obtain ⟨D, ⟨es, clock, hb, _⟩, _⟩ := h
  intro a x ha he
  unfold World.cell? at he
  rw [ha, hb] at he
  cases he
theorem Ri.butC {w w' : World} {v : Value} {zs : List Int} {K : Nat} (h : Ri w v zs) (hb : But K w w') (hn : ∀ a x, a.block = K → w.cell? a ≠ some x) : Ri w' v zs := by
  obtain ⟨ao, cap, hv, h1, h2, h3, hc⟩ := h
  refine ⟨ao, cap, hv, h1, h2, h3, fun a ha j hj => ?_⟩
  have hcell := hc a ha j hj
  rw [← hcell]
  exact World.cell?_of_block (w := w) (hb.block _ (cell_lt hcell) fun e => hn _ _ e hcell)
theorem RiA.butC {w w' : World} {v : Value} {zs : List Int} {K lo : Nat} (h : RiA lo w v zs) (hb : But K w w') (hn : ∀ a x, a.block = K → w.cell? a ≠ some x) : RiA lo w' v zs := ⟨h.rd.butC hb hn, h.far⟩
theorem RiA.but {w w' : World} {v : Value} {zs : List Int} {K lo : Nat} (h : RiA lo w v zs) (hb : But K w w') (hK : K < lo) : Ri w' v zs := by
  obtain ⟨ao, cap, hv, h1, h2, h3, hc⟩ := h.rd
  refine ⟨ao, cap, hv, h1, h2, h3, fun a ha j hj => ?_⟩
  have hcell := hc a ha j hj
  have hz : zs ≠ [] := fun e => by rw [e] at hj; simp at hj
  have hne := h.far a zs.length cap (by rw [hv, ha]) hz
  rw [← hcell]
  exact World.cell?_of_block (w := w) (hb.block _ (cell_lt hcell) (by have e : (a.add j).block = a.block := (by unfold Addr.add; split <;> rfl); rw [e]; omega))
theorem RiA.below {w w' : World} {v : Value} {zs : List Int} {lo : Nat} (h : RiA lo w v zs) (hb : Below w.heap.size w w') : RiA lo w' v zs := ⟨h.rd.below hb, h.far⟩
theorem but_grown {w w' : World} {K : Nat} (h : w.grownBy w' (some K)) : But K w w' := ⟨h.os, h.tape, h.output, h.size, fun k hk hn => h.block k hk (fun e => hn (by cases e; rfl))⟩
/-- Behind the delete. -/
theorem Lc.del {w0 w wr w1 : World} {B R G mb : Nat} {bd : Value} {p : Pv} {v5 v6 v7 v9 : Value} {f g : Int → Option Value} (h : Lc w0 w B R G mb bd p v5 v6 v7 v9 f wr) (hm : MapF w1 mb 6 g) (hg : wr.grownBy w1 (some mb)) : Lc w0 w B R G mb bd p v5 v6 v7 v9 g w1 := by
  obtain ⟨o1, o2, o3, o4, o5⟩ := h.ord
  obtain ⟨_, _, hF0⟩ := h.fq
  have hb := but_grown hg
  have hn := noB_map h.mp
  exact ⟨⟨_, _, hF0.but hb (by omega) (by omega)⟩, h.rq.keep hb hn (by omega), hm, by rw [hb.block G (Array.getElem?_eq_some_iff.1 h.gx).1 (by omega)]; exact h.gx,
    ⟨hb.os.trans h.kq.os, hb.tape.trans h.kq.tape, hb.output.trans h.kq.output, Nat.le_trans h.kq.size hb.size, fun k hk1 hn hm => (hb.block k (Nat.lt_of_lt_of_le hk1 h.kq.size) (by omega)).trans (h.kq.block k hk1 hn hm)⟩, h.ord⟩
theorem MapF.fewer {w : World} {mb n : Nat} {f : Int → Option Value} (h : MapF w mb n f) (k : Int) (e : f k = none) : MapF w mb n (fun j => if j = k then none else f j) := h.ext fun j => by
  by_cases hj : j = k
  · rw [if_pos hj, hj, e]
  · rw [if_neg hj]
/-- A delete, for the walk. -/
theorem wpList_delF {w : World} {ops : Array Oper} {rest : List Oper} {o : Oper} {a : Act} {Q : Exit → Act → World → Prop} (hg : o.guard = none) (m x : Operand) (hop : o.op = Op.call { callee := Callee.builtin Builtin.delete, args := #[m, x], argTypes := #[73, 3] })
    {mb n : Nat} {f : Int → Option Value} (h : MapF w mb n f) {k : Int} (hk : (Lit.int .i64 k).wf = true) (hm : a.eval m = .map (some mb)) (hx : a.eval x = .int .i64 k)
    (hK : ∀ w', MapF w' mb n (fun j => if j = k then none else f j) → w.grownBy w' (some mb) → wpList Tryd.prog ops Q rest (a.put o.dst (.tuple #[])) w') : wpList Tryd.prog ops Q (o :: rest) a w := by
  obtain ⟨D, h1, h2⟩ := h
  refine wpList_delete_own w hg m x 73 3 hop 76 keyM Tryd.underlying73 fR mb n D hm h1 _ _ hx (keyOfM hk) fun w' hw ht => hK w' ⟨_, hw, fun j hj => ?_⟩ ht.grown
  by_cases e : j = k
  · subst e
    dsimp only
    rw [if_pos rfl]
    exact ⟨fun _ => Maps.has_del_same, fun v hv => by cases hv⟩
  · have hne : (Lit.int IntKind.i64 j) ≠ .int .i64 k := fun h => e (by cases h; rfl)
    dsimp only
    rw [if_neg e]
    obtain ⟨h3, h4⟩ := h2 j hj
    refine ⟨fun hf => ?_, fun v hv => ?_⟩
    · rw [Maps.has_del_other hne]; exact h3 hf
    · rw [Maps.has_del_other hne]; exact ⟨(h4 v hv).1, fun z => by rw [Maps.atKey_del_other hne]; exact (h4 v hv).2 z⟩

/-- How many of the three that must be are taken. -/
def cntF (f : Int → Option Value) : Nat := (f 1).isNone.toNat + (f 4).isNone.toNat + (f 17).isNone.toNat
theorem cnt_del {f : Int → Option Value} {n : Int} {v : Value} (h : f n = some v) : cntF (fun j => if j = n then none else f j) = cntF f + manyP n := by
  unfold cntF manyP
  by_cases h1 : n = 1
  · subst h1; simp [h]; omega
  by_cases h4 : n = 4
  · subst h4; simp [h]; omega
  by_cases h17 : n = 17
  · subst h17; simp [h]
  · have e1 : ¬ (1 : Int) = n := fun e => h1 e.symm
    have e4 : ¬ (4 : Int) = n := fun e => h4 e.symm
    have e17 : ¬ (17 : Int) = n := fun e => h17 e.symm
    simp [h1, h4, h17, e1, e4, e17]
/-- What holds at the loop's head. -/
structure Lp (w0 w : World) (zs : List Int) (B R G mb : Nat) (last : Int) (m k : Nat) (bd : Value) (p : Pv) (v5 v6 v7 v9 : Value) (f : Int → Option Value) (rest : List Int) (t : Nat) (wr : World) : Prop where
  lc : Lc w0 w B R G mb bd p v5 v6 v7 v9 f wr
  fq : Fq w0 wr B rest t 3
  l9 : (v9 = nilS ∧ p.l = []) ∨ (17 ≤ last ∧ RiA (G + 1) wr v9 p.l)
  up : ∀ j, last < j → f j = fnOf j
  cnt : m = cntF f
  run : readF zs.length (-1) 0 p0 zs = readF k last m p rest
  fuel : rest.length ≤ k
  lo : -1 ≤ last
/-- A field more. -/
theorem Lp.step {w0 w wr w1 : World} {zs : List Int} {B R G mb : Nat} {last : Int} {m k : Nat} {bd bd' : Value} {p p' : Pv} {v5 v6 v7 v9 u5 u6 u7 u9 x : Value} {f : Int → Option Value} {rest s v : List Int} {t t' : Nat} {n : Int} (h : Lp w0 w zs B R G mb last m k bd p v5 v6 v7 v9 f rest t wr) (hpos : 0 < rest.length)
    (hc : cutP rest = some (n, v, s)) (hl : last < n) (hf : f n = some x) (hp : putP p n v = some p') (h1 : Lc w0 w B R G mb bd' p' u5 u6 u7 u9 (fun j => if j = n then none else f j) w1) (hF : Fq w0 w1 B s t' 3) (h9 : (u9 = nilS ∧ p'.l = []) ∨ (17 ≤ n ∧ RiA (G + 1) w1 u9 p'.l)) (hs : s.length < rest.length) :
    Lp w0 w zs B R G mb n (m + manyP n) (k - 1) bd' p' u5 u6 u7 u9 (fun j => if j = n then none else f j) s t' w1 := by
  have hk := h.fuel
  have hk1 : k = (k - 1) + 1 := by omega
  refine ⟨h1, hF, h9, fun j hj => ?_, ?_, ?_, by omega, by have := h.lo; omega⟩
  · have := h.up j (by omega)
    rw [if_neg (by omega)]; exact this
  · rw [h.cnt, cnt_del hf]
  · rw [h.run, hk1]
    exact rf_step hpos hc hl hp
/-- All fields are taken. -/
theorem Lp.done {w0 w wr : World} {zs : List Int} {B R G mb : Nat} {last : Int} {m k : Nat} {bd : Value} {p : Pv} {v5 v6 v7 v9 : Value} {f : Int → Option Value} {t : Nat} (h : Lp w0 w zs B R G mb last m k bd p v5 v6 v7 v9 f [] t wr) : readF zs.length (-1) 0 p0 zs = some (p, cntF f) ∧ RiA (G + 1) wr v9 p.l := by
  refine ⟨by rw [h.run, rf_nil, h.cnt], ?_⟩
  rcases h.l9 with ⟨e, e2⟩ | ⟨_, h⟩
  · rw [e, e2]; exact RiA.nil _ _
  · exact h
theorem cnt3 {f : Int → Option Value} : cntF f = 3 ↔ (f 1 = none ∧ f 4 = none ∧ f 17 = none) := by
  unfold cntF
  cases f 1 <;> cases f 4 <;> cases f 17 <;> simp
theorem readP_lack {zs : List Int} {p : Pv} {f : Int → Option Value} (h : readF zs.length (-1) 0 p0 zs = some (p, cntF f)) (hn : ¬ (f 1 = none ∧ f 4 = none ∧ f 17 = none)) : readP zs = none := by
  unfold readP
  rw [h]
  have : cntF f ≠ 3 := fun e => hn (cnt3.1 e)
  simp [this]
theorem readP_wrong {zs : List Int} {p : Pv} {f : Int → Option Value} (h : readF zs.length (-1) 0 p0 zs = some (p, cntF f)) (hn : rightP p = false) : readP zs = none := by
  unfold readP
  rw [h]
  simp [hn]
theorem readP_yes {zs : List Int} {p : Pv} {f : Int → Option Value} (h : readF zs.length (-1) 0 p0 zs = some (p, cntF f)) (hn : f 1 = none ∧ f 4 = none ∧ f 17 = none) (hr : rightP p = true) : readP zs = some p := by
  unfold readP
  rw [h]
  simp [cnt3.2 hn, hr]
/-- What the reader's params end with. -/
def PPost (zs : List Int) (w : World) (R B : Nat) (e : Ending) (w' : World) : Prop :=
  (readP zs = none ∧ e = errPanic 3 ∧ Kq R B w w') ∨ ∃ p v5 v6 v7 v9, readP zs = some p ∧ e = .returned (pAgg p v5 v6 v7 v9) ∧ Pr w' p v5 v6 v7 v9 ∧ Kq R B w w'
theorem readP_no {zs : List Int} (h : readF zs.length (-1) 0 p0 zs = none) : readP zs = none := by unfold readP; rw [h]
end Go.Proofs.YtmglhlfjddgllaaDoor
