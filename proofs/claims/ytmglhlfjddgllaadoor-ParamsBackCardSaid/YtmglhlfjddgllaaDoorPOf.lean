/- The statement's own function of: params as the program's, their rows in new memory. -/
import Derived.Test.YtmglhlfjddgllaaDoorPGive
import Derived.Test.YtmglhlfjddgllaaDoorInv
namespace Go.Proofs.YtmglhlfjddgllaaDoor
open Go Go.RowKit

/-- A row of numbers that reads, away from what lies below lo. -/
structure Rai (lo : Nat) (w : World) (v : Value) (zs : List Int) : Prop where
  rd : Ri w v zs
  far : ∀ a n cap, v = .slice (some a) n cap → zs ≠ [] → lo ≤ a.block
theorem Rai.below {lo : Nat} {w w' : World} {v : Value} {zs : List Int} (h : Rai lo w v zs) (hb : Below w.heap.size w w') : Rai lo w' v zs := ⟨h.rd.below hb, h.far⟩
theorem Rai.set {lo : Nat} {w : World} {v : Value} {zs : List Int} (h : Rai lo w v zs) {p : Addr} (hp : p.block < lo) (u : Value) : Rai lo (w.setCell p u) v zs := by
  refine ⟨?_, h.far⟩
  obtain ⟨ao, cap, hv, h1, h2, h3, hc⟩ := h.rd
  refine ⟨ao, cap, hv, h1, h2, h3, fun a ha j hj => ?_⟩
  have hz : zs ≠ [] := fun e => by rw [e] at hj; simp at hj
  have hne : a.block ≠ p.block := by
    have := h.far a zs.length cap (by rw [hv, ha]) hz
    omega
  obtain ⟨b, off, spot⟩ := a
  have hs : spot = none := by simpa [Addr.add] using World.cell?_spot (hc _ ha 0 (by omega))
  subst hs
  have hcell := hc _ ha j hj
  have e : (w.setCell p u).cell? (Addr.add ⟨b, off, none⟩ j) = w.cell? (Addr.add ⟨b, off, none⟩ j) := by
    rw [Addr.add_lit]
    unfold World.cell?
    rw [Below.heap_setCell w p u b hne]
  rw [e]; exact hcell
theorem Ri.of_own {w : World} {base : Nat} {v : Value} {n : Nat} {zs : List Int} (h : w.ownsRow base 3 1 v n (zs.map (Value.int .i64))) : Ri w v zs := by
  have hn : zs.length = n := by have := h.1; simpa using this
  subst hn
  have hcell := fun g (hg : v.ownBlock = some g) => World.ownsRow.cells h hg
  rcases h.2 with ⟨rfl, h0⟩ | ⟨g, cap, cur, rfl, _, hh, h1, h2, h3, h4⟩
  · have : zs = [] := List.eq_nil_of_length_eq_zero h0
    subst this; exact Ri.nil w
  · refine ⟨some ⟨g, 0, none⟩, cap, rfl, h1, h2, (fun h => by cases h), fun a ha j hj => ?_⟩
    cases ha
    exact hcell g rfl j _ (by simp [hj])
theorem info3 : (Tryd.prog.info? 3).map (fun i => (i.zero, i.size, i.bytes)) = some (some (.int .i64 0), 1, 8) := by kernel_rfl
theorem info_row3 : ∃ i, Tryd.prog.info? 3 = some i ∧ i.zero = some (.int .i64 0) ∧ i.size = 1 ∧ i.bytes = 8 := info_parts info3
/-- append of numbers onto a row of no room: what comes reads as they do. -/
theorem wp_append_freshi {w : World} {o : Oper} {a : Act} {K : Act → World → Prop} {Q : Exit → Act → World → Prop} (s x : Operand)
    (ho : o.op = .call { callee := .builtin .append, args := #[s, x], argTypes := #[23, 23] }) (g : Nat) (hs : a.eval s = .slice (some ⟨g, 0, none⟩) 0 0)
    (xv : Value) (zs : List Int) (hx : a.eval x = xv) (hr : Ri w xv zs) (hl : zs.length ≤ 1000000) {lo : Nat} (hlo : lo ≤ w.heap.size)
    (h : ∀ v' w', Rai lo w' v' zs → Below w.heap.size w w' → K (a.put o.dst v') w') : o.wp Tryd.prog a w K Q := by
  obtain ⟨i, hi, hz0, hz1, hz2⟩ := info_row3
  obtain ⟨ao, cap, rfl, h1, h2, h3, hc⟩ := hr
  have key : ∃ v' w', (Builtin.append_ #[23, 23] o.type #[.slice (some ⟨g, 0, none⟩) 0 0, .slice ao zs.length cap]).run Tryd.prog w = .ok v' w' ∧ Rai w.heap.size w' v' zs ∧ Below w.heap.size w w' := by
    by_cases hzs : zs.length = 0
    · refine ⟨.slice (some ⟨g, 0, none⟩) 0 0, w, ?_, ?_, Below.refl _ _⟩
      · rw [hzs]
        cases ao <;> simp [Builtin.append_, run_underlying Tryd.underlying23, sizeOf, typeInfo, hi, Builtin.lenOf, Builtin.firstCells, storeCells, loadCells, loadCellsFrom]
      · obtain rfl := List.eq_nil_of_length_eq_zero hzs
        exact ⟨⟨_, 0, rfl, Nat.le_refl _, by simp [maxLen], (fun _ => rfl), fun a _ j hj => by simp at hj⟩, fun _ _ _ _ hz => absurd rfl hz⟩
    · cases ao with
      | none => have := h3 rfl; omega
      | some ad =>
        obtain ⟨v', w', hrun, hown, hg⟩ := run_append_arg_grows (P := Tryd.prog) (w := w) 23 o.type 3 i (.int .i64 0) 1 8 Tryd.underlying23 hi hz0 hz1 hz2 rfl (by decide) ⟨g, 0, none⟩ 0 0 [] rfl (fun j u hu => by cases hu) ad zs.length cap (zs.map (Value.int .i64)) (by simp)
          (fun j u hu => by
            have hj : j < zs.length := by
              have := (List.getElem?_eq_some_iff.1 hu).1
              simpa using this
            have e : (zs.map (Value.int .i64))[j]? = some (.int .i64 (zs.getD j 0)) := by simp [hj]
            rw [e] at hu
            cases hu
            exact hc ad rfl j hj) (by omega) (by unfold maxLen; omega) (by omega)
        refine ⟨v', w', hrun, ⟨Ri.of_own hown, fun a n cap' e _ => ?_⟩, below_made hg⟩
        subst e
        rcases hown.2 with ⟨e2, _⟩ | ⟨g2, cap2, cur, e2, hg2, _⟩
        · cases e2
        · cases e2; exact hg2
  obtain ⟨v', w', hrun, hrd, hb⟩ := key
  unfold Oper.wp execOp
  simp only [ho, resolve, invoke, builtin, Sem.run_bind, Sem.run_pure, Result.andThen_ok, List.map_toArray, List.map_cons, List.map_nil, hs, hx, hrun]
  exact h v' w' ⟨hrd.rd, fun a n cap e hz => Nat.le_trans hlo (hrd.far a n cap e hz)⟩ hb
theorem step_append_freshi {w : World} {ops : Array Oper} {o : Oper} {a : Act} {K : Act → World → Prop} {Q : Exit → Act → World → Prop} {E : Prop} (hgd : o.guard = none) (s x : Operand)
    (ho : o.op = .call { callee := .builtin .append, args := #[s, x], argTypes := #[23, 23] }) (g : Nat) (hs : a.eval s = .slice (some ⟨g, 0, none⟩) 0 0)
    (xv : Value) (zs : List Int) (hx : a.eval x = xv) (hr : Ri w xv zs) (hl : zs.length ≤ 1000000) {lo : Nat} (hlo : lo ≤ w.heap.size)
    (h : ∀ v' w', Rai lo w' v' zs → Below w.heap.size w w' → K (a.put o.dst v') w') :
    if Region.wanted o (yielded ops a.tmps) = true then Oper.wp Tryd.prog o a w K Q else E := by
  have hw : Region.wanted o (yielded ops a.tmps) = true := by simp [Region.wanted, hgd]
  rw [if_pos hw]
  exact wp_append_freshi s x ho g hs xv zs hx hr hl hlo h

/-- The box G is there, a row of so many cells. -/
def Yn (T n G : Nat) (w : World) : Prop := G + 1 ≤ w.heap.size ∧ ∃ cs : Array Value, cs.size = n ∧ w.heap[G]? = some (.cells cs T (0, 0))
theorem Yn.below {T n G : Nat} {w w' : World} (h : Yn T n G w) (hb : Below w.heap.size w w') : Yn T n G w' := by
  obtain ⟨h1, cs, h2, h3⟩ := h
  exact ⟨Nat.le_trans h1 hb.size, cs, h2, by rw [hb.block _ (by omega)]; exact h3⟩

/-- The condition that is held may grow. -/
theorem wpAnyH_switch {P : Program} {md : Region.Mode} {ops : Array Oper} {Q : Exit → Act → World → Prop} {S S' : World → Prop} (h : ∀ w, S' w → S w) : ∀ {fuel : Nat} {listed : Array Bool} {a : Act} {w : World}, wpAnyH P md ops Q S' fuel listed a w → wpAnyH P md ops Q S fuel listed a w
  | 0, _, _, _, hw => hw
  | _ + 1, _, _, _, hw => ⟨hw.1, fun i hi => wpOp_mono (fun _ w' ⟨h1, h2⟩ => ⟨h w' h1, wpAnyH_switch h h2⟩) (hw.2 i hi)⟩

/-- The four rows in new memory. -/
structure Four (G : Nat) (w : World) (p : Pv) (u5 u6 u7 u9 : Value) : Prop where
  g : Ra (G + 1) w u5 p.g
  o : Ra (G + 1) w u6 p.o
  r : Ra (G + 1) w u7 p.r
  l : Rai (G + 1) w u9 p.l
theorem Rai.mono {lo lo' : Nat} {w : World} {v : Value} {zs : List Int} (h : Rai lo w v zs) (hl : lo' ≤ lo) : Rai lo' w v zs := ⟨h.rd, fun a n cap e hz => Nat.le_trans hl (h.far a n cap e hz)⟩
theorem Four.below {G : Nat} {w w' : World} {p : Pv} {u5 u6 u7 u9 : Value} (h : Four G w p u5 u6 u7 u9) (hb : Below w.heap.size w w') : Four G w' p u5 u6 u7 u9 := ⟨h.g.below hb, h.o.below hb, h.r.below hb, h.l.below hb⟩
theorem ls_same {l : Array Bool} {i : Nat} (h : i < l.size) (d : Bool) : (l.setIfInBounds i true).getD i d = true := by simp [Array.getD, h]
theorem ls_ne {l : Array Bool} {i j : Nat} (h : j ≠ i) (d : Bool) : (l.setIfInBounds i true).getD j d = l.getD j d := by
  simp only [Array.getD_eq_getD_getElem?]
  rw [Array.getElem?_setIfInBounds_ne (Ne.symm h)]
theorem pt_same {a : Act} {d : Nat} {v : Value} (h : d < a.tmps.size) : (a.put (some d) v).tmps.getD d undef = v := by simp [Act.put, Array.getD, h]
theorem pt_ne {a : Act} {d j : Nat} {v : Value} (h : j ≠ d) : (a.put (some d) v).tmps.getD j undef = a.tmps.getD j undef := by
  simp only [Act.put, Array.getD_eq_getD_getElem?]
  rw [Array.getElem?_setIfInBounds_ne (Ne.symm h)]
theorem pt_size {a : Act} {d : Option Nat} {v : Value} : (a.put d v).tmps.size = a.tmps.size := by cases d <;> simp [Act.put]
theorem pt_defers {a : Act} {d : Option Nat} {v : Value} : (a.put d v).defers = a.defers := by cases d <;> rfl
/-- What holds as the operations come up. -/
structure OfI (w0 : World) (A G : Nat) (p : Pv) (v5 v6 v7 v9 : Value) (listed : Array Bool) (a : Act) (w : World) : Prop where
  ls : listed.size = 30
  rd : ∀ i, i ∈ [0, 1, 2, 3, 4, 5, 6, 7, 8, 9, 11, 12, 15, 16, 19, 20, 22, 23, 25, 26] → listed.getD i true = true
  sz : a.tmps.size = 32
  df : a.defers = []
  t2 : a.tmps.getD 2 undef = .pointer (some ⟨G, 0, none⟩)
  t4 : a.tmps.getD 4 undef = .int .i64 p.i
  t6 : a.tmps.getD 6 undef = .int .i64 p.d
  t8 : a.tmps.getD 8 undef = .bool p.hg
  t10 : a.tmps.getD 10 undef = .bool p.ho
  t12 : a.tmps.getD 12 undef = .bool p.hr
  t15 : a.tmps.getD 15 undef = v5
  t19 : a.tmps.getD 19 undef = v6
  t23 : a.tmps.getD 23 undef = v7
  t26 : a.tmps.getD 26 undef = .int .i64 p.c
  t29 : a.tmps.getD 29 undef = v9
  bel : Below w0.heap.size w0 w
  low : w0.heap.size ≤ G
  box : Yn 27 10 G w
  ag : A < G
  cel : w.heap[A]? = some (.cells (pCells p v5 v6 v7 v9) 25 (0, 0))
  l10 : listed.getD 10 false = true → ∃ g, a.tmps.getD 13 undef = .slice (some ⟨g, 0, none⟩) 0 0
  l14 : listed.getD 14 false = true → ∃ g, a.tmps.getD 17 undef = .slice (some ⟨g, 0, none⟩) 0 0
  l18 : listed.getD 18 false = true → ∃ g, a.tmps.getD 21 undef = .slice (some ⟨g, 0, none⟩) 0 0
  l24 : listed.getD 24 false = true → ∃ g, a.tmps.getD 27 undef = .slice (some ⟨g, 0, none⟩) 0 0
  l13 : listed.getD 13 false = true → Ra (G + 1) w (a.tmps.getD 16 undef) p.g
  l17 : listed.getD 17 false = true → Ra (G + 1) w (a.tmps.getD 20 undef) p.o
  l21 : listed.getD 21 false = true → Ra (G + 1) w (a.tmps.getD 24 undef) p.r
  l27 : listed.getD 27 false = true → Rai (G + 1) w (a.tmps.getD 30 undef) p.l
  l28 : listed.getD 28 false = true → ∃ u5 u6 u7 u9, a.tmps.getD 31 undef = pAgg p u5 u6 u7 u9 ∧ Four G w p u5 u6 u7 u9
  l29 : listed.getD 29 false = true → ∃ u5 u6 u7 u9, w.heap[G]? = some (.cells (pCells p u5 u6 u7 u9) 27 (0, 0)) ∧ Four G w p u5 u6 u7 u9
theorem ofi_10 {w0 : World} {A G : Nat} {p : Pv} {v5 v6 v7 v9 : Value} {listed : Array Bool} {a : Act} {w w' : World} (h : OfI w0 A G p v5 v6 v7 v9 listed a w) (g : Nat) (hb : Below w.heap.size w w') : OfI w0 A G p v5 v6 v7 v9 (listed.setIfInBounds 10 true) (a.put (some 13) (.slice (some ⟨g, 0, none⟩) 0 0)) w' where
  ls := by simp [h.ls]
  rd := fun j hj => by rw [ls_ne (show j ≠ 10 by rintro rfl; simp at hj)]; exact h.rd j hj
  sz := by rw [pt_size]; exact h.sz
  df := by rw [pt_defers]; exact h.df
  t2 := by rw [pt_ne (by decide)]; exact h.t2
  t4 := by rw [pt_ne (by decide)]; exact h.t4
  t6 := by rw [pt_ne (by decide)]; exact h.t6
  t8 := by rw [pt_ne (by decide)]; exact h.t8
  t10 := by rw [pt_ne (by decide)]; exact h.t10
  t12 := by rw [pt_ne (by decide)]; exact h.t12
  t15 := by rw [pt_ne (by decide)]; exact h.t15
  t19 := by rw [pt_ne (by decide)]; exact h.t19
  t23 := by rw [pt_ne (by decide)]; exact h.t23
  t26 := by rw [pt_ne (by decide)]; exact h.t26
  t29 := by rw [pt_ne (by decide)]; exact h.t29
  bel := h.bel.trans (hb.mono h.bel.size)
  low := h.low
  box := h.box.below hb
  ag := h.ag
  cel := by rw [hb.block A (by have := h.box.1; have := h.ag; omega)]; exact h.cel
  l10 := fun _ => ⟨g, by rw [pt_same (by rw [h.sz]; decide)]⟩
  l14 := fun hl => by rw [ls_ne (by decide)] at hl; rw [pt_ne (by decide)]; exact h.l14 hl
  l18 := fun hl => by rw [ls_ne (by decide)] at hl; rw [pt_ne (by decide)]; exact h.l18 hl
  l24 := fun hl => by rw [ls_ne (by decide)] at hl; rw [pt_ne (by decide)]; exact h.l24 hl
  l13 := fun hl => by rw [ls_ne (by decide)] at hl; rw [pt_ne (by decide)]; exact (h.l13 hl).below hb
  l17 := fun hl => by rw [ls_ne (by decide)] at hl; rw [pt_ne (by decide)]; exact (h.l17 hl).below hb
  l21 := fun hl => by rw [ls_ne (by decide)] at hl; rw [pt_ne (by decide)]; exact (h.l21 hl).below hb
  l27 := fun hl => by rw [ls_ne (by decide)] at hl; rw [pt_ne (by decide)]; exact (h.l27 hl).below hb
  l28 := fun hl => by rw [ls_ne (by decide)] at hl; rw [pt_ne (by decide)]; obtain ⟨u5, u6, u7, u9, e, hf⟩ := h.l28 hl; exact ⟨u5, u6, u7, u9, e, hf.below hb⟩
  l29 := fun hl => by rw [ls_ne (by decide)] at hl; obtain ⟨u5, u6, u7, u9, e, hf⟩ := h.l29 hl; exact ⟨u5, u6, u7, u9, by rw [hb.block G (by have := h.box.1; omega)]; exact e, hf.below hb⟩
theorem ofi_14 {w0 : World} {A G : Nat} {p : Pv} {v5 v6 v7 v9 : Value} {listed : Array Bool} {a : Act} {w w' : World} (h : OfI w0 A G p v5 v6 v7 v9 listed a w) (g : Nat) (hb : Below w.heap.size w w') : OfI w0 A G p v5 v6 v7 v9 (listed.setIfInBounds 14 true) (a.put (some 17) (.slice (some ⟨g, 0, none⟩) 0 0)) w' where
  ls := by simp [h.ls]
  rd := fun j hj => by rw [ls_ne (show j ≠ 14 by rintro rfl; simp at hj)]; exact h.rd j hj
  sz := by rw [pt_size]; exact h.sz
  df := by rw [pt_defers]; exact h.df
  t2 := by rw [pt_ne (by decide)]; exact h.t2
  t4 := by rw [pt_ne (by decide)]; exact h.t4
  t6 := by rw [pt_ne (by decide)]; exact h.t6
  t8 := by rw [pt_ne (by decide)]; exact h.t8
  t10 := by rw [pt_ne (by decide)]; exact h.t10
  t12 := by rw [pt_ne (by decide)]; exact h.t12
  t15 := by rw [pt_ne (by decide)]; exact h.t15
  t19 := by rw [pt_ne (by decide)]; exact h.t19
  t23 := by rw [pt_ne (by decide)]; exact h.t23
  t26 := by rw [pt_ne (by decide)]; exact h.t26
  t29 := by rw [pt_ne (by decide)]; exact h.t29
  bel := h.bel.trans (hb.mono h.bel.size)
  low := h.low
  box := h.box.below hb
  ag := h.ag
  cel := by rw [hb.block A (by have := h.box.1; have := h.ag; omega)]; exact h.cel
  l10 := fun hl => by rw [ls_ne (by decide)] at hl; rw [pt_ne (by decide)]; exact h.l10 hl
  l14 := fun _ => ⟨g, by rw [pt_same (by rw [h.sz]; decide)]⟩
  l18 := fun hl => by rw [ls_ne (by decide)] at hl; rw [pt_ne (by decide)]; exact h.l18 hl
  l24 := fun hl => by rw [ls_ne (by decide)] at hl; rw [pt_ne (by decide)]; exact h.l24 hl
  l13 := fun hl => by rw [ls_ne (by decide)] at hl; rw [pt_ne (by decide)]; exact (h.l13 hl).below hb
  l17 := fun hl => by rw [ls_ne (by decide)] at hl; rw [pt_ne (by decide)]; exact (h.l17 hl).below hb
  l21 := fun hl => by rw [ls_ne (by decide)] at hl; rw [pt_ne (by decide)]; exact (h.l21 hl).below hb
  l27 := fun hl => by rw [ls_ne (by decide)] at hl; rw [pt_ne (by decide)]; exact (h.l27 hl).below hb
  l28 := fun hl => by rw [ls_ne (by decide)] at hl; rw [pt_ne (by decide)]; obtain ⟨u5, u6, u7, u9, e, hf⟩ := h.l28 hl; exact ⟨u5, u6, u7, u9, e, hf.below hb⟩
  l29 := fun hl => by rw [ls_ne (by decide)] at hl; obtain ⟨u5, u6, u7, u9, e, hf⟩ := h.l29 hl; exact ⟨u5, u6, u7, u9, by rw [hb.block G (by have := h.box.1; omega)]; exact e, hf.below hb⟩
theorem ofi_18 {w0 : World} {A G : Nat} {p : Pv} {v5 v6 v7 v9 : Value} {listed : Array Bool} {a : Act} {w w' : World} (h : OfI w0 A G p v5 v6 v7 v9 listed a w) (g : Nat) (hb : Below w.heap.size w w') : OfI w0 A G p v5 v6 v7 v9 (listed.setIfInBounds 18 true) (a.put (some 21) (.slice (some ⟨g, 0, none⟩) 0 0)) w' where
  ls := by simp [h.ls]
  rd := fun j hj => by rw [ls_ne (show j ≠ 18 by rintro rfl; simp at hj)]; exact h.rd j hj
  sz := by rw [pt_size]; exact h.sz
  df := by rw [pt_defers]; exact h.df
  t2 := by rw [pt_ne (by decide)]; exact h.t2
  t4 := by rw [pt_ne (by decide)]; exact h.t4
  t6 := by rw [pt_ne (by decide)]; exact h.t6
  t8 := by rw [pt_ne (by decide)]; exact h.t8
  t10 := by rw [pt_ne (by decide)]; exact h.t10
  t12 := by rw [pt_ne (by decide)]; exact h.t12
  t15 := by rw [pt_ne (by decide)]; exact h.t15
  t19 := by rw [pt_ne (by decide)]; exact h.t19
  t23 := by rw [pt_ne (by decide)]; exact h.t23
  t26 := by rw [pt_ne (by decide)]; exact h.t26
  t29 := by rw [pt_ne (by decide)]; exact h.t29
  bel := h.bel.trans (hb.mono h.bel.size)
  low := h.low
  box := h.box.below hb
  ag := h.ag
  cel := by rw [hb.block A (by have := h.box.1; have := h.ag; omega)]; exact h.cel
  l10 := fun hl => by rw [ls_ne (by decide)] at hl; rw [pt_ne (by decide)]; exact h.l10 hl
  l14 := fun hl => by rw [ls_ne (by decide)] at hl; rw [pt_ne (by decide)]; exact h.l14 hl
  l18 := fun _ => ⟨g, by rw [pt_same (by rw [h.sz]; decide)]⟩
  l24 := fun hl => by rw [ls_ne (by decide)] at hl; rw [pt_ne (by decide)]; exact h.l24 hl
  l13 := fun hl => by rw [ls_ne (by decide)] at hl; rw [pt_ne (by decide)]; exact (h.l13 hl).below hb
  l17 := fun hl => by rw [ls_ne (by decide)] at hl; rw [pt_ne (by decide)]; exact (h.l17 hl).below hb
  l21 := fun hl => by rw [ls_ne (by decide)] at hl; rw [pt_ne (by decide)]; exact (h.l21 hl).below hb
  l27 := fun hl => by rw [ls_ne (by decide)] at hl; rw [pt_ne (by decide)]; exact (h.l27 hl).below hb
  l28 := fun hl => by rw [ls_ne (by decide)] at hl; rw [pt_ne (by decide)]; obtain ⟨u5, u6, u7, u9, e, hf⟩ := h.l28 hl; exact ⟨u5, u6, u7, u9, e, hf.below hb⟩
  l29 := fun hl => by rw [ls_ne (by decide)] at hl; obtain ⟨u5, u6, u7, u9, e, hf⟩ := h.l29 hl; exact ⟨u5, u6, u7, u9, by rw [hb.block G (by have := h.box.1; omega)]; exact e, hf.below hb⟩
theorem ofi_24 {w0 : World} {A G : Nat} {p : Pv} {v5 v6 v7 v9 : Value} {listed : Array Bool} {a : Act} {w w' : World} (h : OfI w0 A G p v5 v6 v7 v9 listed a w) (g : Nat) (hb : Below w.heap.size w w') : OfI w0 A G p v5 v6 v7 v9 (listed.setIfInBounds 24 true) (a.put (some 27) (.slice (some ⟨g, 0, none⟩) 0 0)) w' where
  ls := by simp [h.ls]
  rd := fun j hj => by rw [ls_ne (show j ≠ 24 by rintro rfl; simp at hj)]; exact h.rd j hj
  sz := by rw [pt_size]; exact h.sz
  df := by rw [pt_defers]; exact h.df
  t2 := by rw [pt_ne (by decide)]; exact h.t2
  t4 := by rw [pt_ne (by decide)]; exact h.t4
  t6 := by rw [pt_ne (by decide)]; exact h.t6
  t8 := by rw [pt_ne (by decide)]; exact h.t8
  t10 := by rw [pt_ne (by decide)]; exact h.t10
  t12 := by rw [pt_ne (by decide)]; exact h.t12
  t15 := by rw [pt_ne (by decide)]; exact h.t15
  t19 := by rw [pt_ne (by decide)]; exact h.t19
  t23 := by rw [pt_ne (by decide)]; exact h.t23
  t26 := by rw [pt_ne (by decide)]; exact h.t26
  t29 := by rw [pt_ne (by decide)]; exact h.t29
  bel := h.bel.trans (hb.mono h.bel.size)
  low := h.low
  box := h.box.below hb
  ag := h.ag
  cel := by rw [hb.block A (by have := h.box.1; have := h.ag; omega)]; exact h.cel
  l10 := fun hl => by rw [ls_ne (by decide)] at hl; rw [pt_ne (by decide)]; exact h.l10 hl
  l14 := fun hl => by rw [ls_ne (by decide)] at hl; rw [pt_ne (by decide)]; exact h.l14 hl
  l18 := fun hl => by rw [ls_ne (by decide)] at hl; rw [pt_ne (by decide)]; exact h.l18 hl
  l24 := fun _ => ⟨g, by rw [pt_same (by rw [h.sz]; decide)]⟩
  l13 := fun hl => by rw [ls_ne (by decide)] at hl; rw [pt_ne (by decide)]; exact (h.l13 hl).below hb
  l17 := fun hl => by rw [ls_ne (by decide)] at hl; rw [pt_ne (by decide)]; exact (h.l17 hl).below hb
  l21 := fun hl => by rw [ls_ne (by decide)] at hl; rw [pt_ne (by decide)]; exact (h.l21 hl).below hb
  l27 := fun hl => by rw [ls_ne (by decide)] at hl; rw [pt_ne (by decide)]; exact (h.l27 hl).below hb
  l28 := fun hl => by rw [ls_ne (by decide)] at hl; rw [pt_ne (by decide)]; obtain ⟨u5, u6, u7, u9, e, hf⟩ := h.l28 hl; exact ⟨u5, u6, u7, u9, e, hf.below hb⟩
  l29 := fun hl => by rw [ls_ne (by decide)] at hl; obtain ⟨u5, u6, u7, u9, e, hf⟩ := h.l29 hl; exact ⟨u5, u6, u7, u9, by rw [hb.block G (by have := h.box.1; omega)]; exact e, hf.below hb⟩
theorem ofi_13 {w0 : World} {A G : Nat} {p : Pv} {v5 v6 v7 v9 : Value} {listed : Array Bool} {a : Act} {w w' : World} (h : OfI w0 A G p v5 v6 v7 v9 listed a w) {u : Value} (hu : Ra (G + 1) w' u p.g) (hb : Below w.heap.size w w') : OfI w0 A G p v5 v6 v7 v9 (listed.setIfInBounds 13 true) (a.put (some 16) u) w' where
  ls := by simp [h.ls]
  rd := fun j hj => by rw [ls_ne (show j ≠ 13 by rintro rfl; simp at hj)]; exact h.rd j hj
  sz := by rw [pt_size]; exact h.sz
  df := by rw [pt_defers]; exact h.df
  t2 := by rw [pt_ne (by decide)]; exact h.t2
  t4 := by rw [pt_ne (by decide)]; exact h.t4
  t6 := by rw [pt_ne (by decide)]; exact h.t6
  t8 := by rw [pt_ne (by decide)]; exact h.t8
  t10 := by rw [pt_ne (by decide)]; exact h.t10
  t12 := by rw [pt_ne (by decide)]; exact h.t12
  t15 := by rw [pt_ne (by decide)]; exact h.t15
  t19 := by rw [pt_ne (by decide)]; exact h.t19
  t23 := by rw [pt_ne (by decide)]; exact h.t23
  t26 := by rw [pt_ne (by decide)]; exact h.t26
  t29 := by rw [pt_ne (by decide)]; exact h.t29
  bel := h.bel.trans (hb.mono h.bel.size)
  low := h.low
  box := h.box.below hb
  ag := h.ag
  cel := by rw [hb.block A (by have := h.box.1; have := h.ag; omega)]; exact h.cel
  l10 := fun hl => by rw [ls_ne (by decide)] at hl; rw [pt_ne (by decide)]; exact h.l10 hl
  l14 := fun hl => by rw [ls_ne (by decide)] at hl; rw [pt_ne (by decide)]; exact h.l14 hl
  l18 := fun hl => by rw [ls_ne (by decide)] at hl; rw [pt_ne (by decide)]; exact h.l18 hl
  l24 := fun hl => by rw [ls_ne (by decide)] at hl; rw [pt_ne (by decide)]; exact h.l24 hl
  l13 := fun _ => by rw [pt_same (by rw [h.sz]; decide)]; exact hu
  l17 := fun hl => by rw [ls_ne (by decide)] at hl; rw [pt_ne (by decide)]; exact (h.l17 hl).below hb
  l21 := fun hl => by rw [ls_ne (by decide)] at hl; rw [pt_ne (by decide)]; exact (h.l21 hl).below hb
  l27 := fun hl => by rw [ls_ne (by decide)] at hl; rw [pt_ne (by decide)]; exact (h.l27 hl).below hb
  l28 := fun hl => by rw [ls_ne (by decide)] at hl; rw [pt_ne (by decide)]; obtain ⟨u5, u6, u7, u9, e, hf⟩ := h.l28 hl; exact ⟨u5, u6, u7, u9, e, hf.below hb⟩
  l29 := fun hl => by rw [ls_ne (by decide)] at hl; obtain ⟨u5, u6, u7, u9, e, hf⟩ := h.l29 hl; exact ⟨u5, u6, u7, u9, by rw [hb.block G (by have := h.box.1; omega)]; exact e, hf.below hb⟩
theorem ofi_17 {w0 : World} {A G : Nat} {p : Pv} {v5 v6 v7 v9 : Value} {listed : Array Bool} {a : Act} {w w' : World} (h : OfI w0 A G p v5 v6 v7 v9 listed a w) {u : Value} (hu : Ra (G + 1) w' u p.o) (hb : Below w.heap.size w w') : OfI w0 A G p v5 v6 v7 v9 (listed.setIfInBounds 17 true) (a.put (some 20) u) w' where
  ls := by simp [h.ls]
  rd := fun j hj => by rw [ls_ne (show j ≠ 17 by rintro rfl; simp at hj)]; exact h.rd j hj
  sz := by rw [pt_size]; exact h.sz
  df := by rw [pt_defers]; exact h.df
  t2 := by rw [pt_ne (by decide)]; exact h.t2
  t4 := by rw [pt_ne (by decide)]; exact h.t4
  t6 := by rw [pt_ne (by decide)]; exact h.t6
  t8 := by rw [pt_ne (by decide)]; exact h.t8
  t10 := by rw [pt_ne (by decide)]; exact h.t10
  t12 := by rw [pt_ne (by decide)]; exact h.t12
  t15 := by rw [pt_ne (by decide)]; exact h.t15
  t19 := by rw [pt_ne (by decide)]; exact h.t19
  t23 := by rw [pt_ne (by decide)]; exact h.t23
  t26 := by rw [pt_ne (by decide)]; exact h.t26
  t29 := by rw [pt_ne (by decide)]; exact h.t29
  bel := h.bel.trans (hb.mono h.bel.size)
  low := h.low
  box := h.box.below hb
  ag := h.ag
  cel := by rw [hb.block A (by have := h.box.1; have := h.ag; omega)]; exact h.cel
  l10 := fun hl => by rw [ls_ne (by decide)] at hl; rw [pt_ne (by decide)]; exact h.l10 hl
  l14 := fun hl => by rw [ls_ne (by decide)] at hl; rw [pt_ne (by decide)]; exact h.l14 hl
  l18 := fun hl => by rw [ls_ne (by decide)] at hl; rw [pt_ne (by decide)]; exact h.l18 hl
  l24 := fun hl => by rw [ls_ne (by decide)] at hl; rw [pt_ne (by decide)]; exact h.l24 hl
  l13 := fun hl => by rw [ls_ne (by decide)] at hl; rw [pt_ne (by decide)]; exact (h.l13 hl).below hb
  l17 := fun _ => by rw [pt_same (by rw [h.sz]; decide)]; exact hu
  l21 := fun hl => by rw [ls_ne (by decide)] at hl; rw [pt_ne (by decide)]; exact (h.l21 hl).below hb
  l27 := fun hl => by rw [ls_ne (by decide)] at hl; rw [pt_ne (by decide)]; exact (h.l27 hl).below hb
  l28 := fun hl => by rw [ls_ne (by decide)] at hl; rw [pt_ne (by decide)]; obtain ⟨u5, u6, u7, u9, e, hf⟩ := h.l28 hl; exact ⟨u5, u6, u7, u9, e, hf.below hb⟩
  l29 := fun hl => by rw [ls_ne (by decide)] at hl; obtain ⟨u5, u6, u7, u9, e, hf⟩ := h.l29 hl; exact ⟨u5, u6, u7, u9, by rw [hb.block G (by have := h.box.1; omega)]; exact e, hf.below hb⟩
theorem ofi_21 {w0 : World} {A G : Nat} {p : Pv} {v5 v6 v7 v9 : Value} {listed : Array Bool} {a : Act} {w w' : World} (h : OfI w0 A G p v5 v6 v7 v9 listed a w) {u : Value} (hu : Ra (G + 1) w' u p.r) (hb : Below w.heap.size w w') : OfI w0 A G p v5 v6 v7 v9 (listed.setIfInBounds 21 true) (a.put (some 24) u) w' where
  ls := by simp [h.ls]
  rd := fun j hj => by rw [ls_ne (show j ≠ 21 by rintro rfl; simp at hj)]; exact h.rd j hj
  sz := by rw [pt_size]; exact h.sz
  df := by rw [pt_defers]; exact h.df
  t2 := by rw [pt_ne (by decide)]; exact h.t2
  t4 := by rw [pt_ne (by decide)]; exact h.t4
  t6 := by rw [pt_ne (by decide)]; exact h.t6
  t8 := by rw [pt_ne (by decide)]; exact h.t8
  t10 := by rw [pt_ne (by decide)]; exact h.t10
  t12 := by rw [pt_ne (by decide)]; exact h.t12
  t15 := by rw [pt_ne (by decide)]; exact h.t15
  t19 := by rw [pt_ne (by decide)]; exact h.t19
  t23 := by rw [pt_ne (by decide)]; exact h.t23
  t26 := by rw [pt_ne (by decide)]; exact h.t26
  t29 := by rw [pt_ne (by decide)]; exact h.t29
  bel := h.bel.trans (hb.mono h.bel.size)
  low := h.low
  box := h.box.below hb
  ag := h.ag
  cel := by rw [hb.block A (by have := h.box.1; have := h.ag; omega)]; exact h.cel
  l10 := fun hl => by rw [ls_ne (by decide)] at hl; rw [pt_ne (by decide)]; exact h.l10 hl
  l14 := fun hl => by rw [ls_ne (by decide)] at hl; rw [pt_ne (by decide)]; exact h.l14 hl
  l18 := fun hl => by rw [ls_ne (by decide)] at hl; rw [pt_ne (by decide)]; exact h.l18 hl
  l24 := fun hl => by rw [ls_ne (by decide)] at hl; rw [pt_ne (by decide)]; exact h.l24 hl
  l13 := fun hl => by rw [ls_ne (by decide)] at hl; rw [pt_ne (by decide)]; exact (h.l13 hl).below hb
  l17 := fun hl => by rw [ls_ne (by decide)] at hl; rw [pt_ne (by decide)]; exact (h.l17 hl).below hb
  l21 := fun _ => by rw [pt_same (by rw [h.sz]; decide)]; exact hu
  l27 := fun hl => by rw [ls_ne (by decide)] at hl; rw [pt_ne (by decide)]; exact (h.l27 hl).below hb
  l28 := fun hl => by rw [ls_ne (by decide)] at hl; rw [pt_ne (by decide)]; obtain ⟨u5, u6, u7, u9, e, hf⟩ := h.l28 hl; exact ⟨u5, u6, u7, u9, e, hf.below hb⟩
  l29 := fun hl => by rw [ls_ne (by decide)] at hl; obtain ⟨u5, u6, u7, u9, e, hf⟩ := h.l29 hl; exact ⟨u5, u6, u7, u9, by rw [hb.block G (by have := h.box.1; omega)]; exact e, hf.below hb⟩
theorem ofi_27 {w0 : World} {A G : Nat} {p : Pv} {v5 v6 v7 v9 : Value} {listed : Array Bool} {a : Act} {w w' : World} (h : OfI w0 A G p v5 v6 v7 v9 listed a w) {u : Value} (hu : Rai (G + 1) w' u p.l) (hb : Below w.heap.size w w') : OfI w0 A G p v5 v6 v7 v9 (listed.setIfInBounds 27 true) (a.put (some 30) u) w' where
  ls := by simp [h.ls]
  rd := fun j hj => by rw [ls_ne (show j ≠ 27 by rintro rfl; simp at hj)]; exact h.rd j hj
  sz := by rw [pt_size]; exact h.sz
  df := by rw [pt_defers]; exact h.df
  t2 := by rw [pt_ne (by decide)]; exact h.t2
  t4 := by rw [pt_ne (by decide)]; exact h.t4
  t6 := by rw [pt_ne (by decide)]; exact h.t6
  t8 := by rw [pt_ne (by decide)]; exact h.t8
  t10 := by rw [pt_ne (by decide)]; exact h.t10
  t12 := by rw [pt_ne (by decide)]; exact h.t12
  t15 := by rw [pt_ne (by decide)]; exact h.t15
  t19 := by rw [pt_ne (by decide)]; exact h.t19
  t23 := by rw [pt_ne (by decide)]; exact h.t23
  t26 := by rw [pt_ne (by decide)]; exact h.t26
  t29 := by rw [pt_ne (by decide)]; exact h.t29
  bel := h.bel.trans (hb.mono h.bel.size)
  low := h.low
  box := h.box.below hb
  ag := h.ag
  cel := by rw [hb.block A (by have := h.box.1; have := h.ag; omega)]; exact h.cel
  l10 := fun hl => by rw [ls_ne (by decide)] at hl; rw [pt_ne (by decide)]; exact h.l10 hl
  l14 := fun hl => by rw [ls_ne (by decide)] at hl; rw [pt_ne (by decide)]; exact h.l14 hl
  l18 := fun hl => by rw [ls_ne (by decide)] at hl; rw [pt_ne (by decide)]; exact h.l18 hl
  l24 := fun hl => by rw [ls_ne (by decide)] at hl; rw [pt_ne (by decide)]; exact h.l24 hl
  l13 := fun hl => by rw [ls_ne (by decide)] at hl; rw [pt_ne (by decide)]; exact (h.l13 hl).below hb
  l17 := fun hl => by rw [ls_ne (by decide)] at hl; rw [pt_ne (by decide)]; exact (h.l17 hl).below hb
  l21 := fun hl => by rw [ls_ne (by decide)] at hl; rw [pt_ne (by decide)]; exact (h.l21 hl).below hb
  l27 := fun _ => by rw [pt_same (by rw [h.sz]; decide)]; exact hu
  l28 := fun hl => by rw [ls_ne (by decide)] at hl; rw [pt_ne (by decide)]; obtain ⟨u5, u6, u7, u9, e, hf⟩ := h.l28 hl; exact ⟨u5, u6, u7, u9, e, hf.below hb⟩
  l29 := fun hl => by rw [ls_ne (by decide)] at hl; obtain ⟨u5, u6, u7, u9, e, hf⟩ := h.l29 hl; exact ⟨u5, u6, u7, u9, by rw [hb.block G (by have := h.box.1; omega)]; exact e, hf.below hb⟩
theorem ofi_28 {w0 : World} {A G : Nat} {p : Pv} {v5 v6 v7 v9 : Value} {listed : Array Bool} {a : Act} {w w' : World} (h : OfI w0 A G p v5 v6 v7 v9 listed a w) {u5 u6 u7 u9 : Value} (hf : Four G w p u5 u6 u7 u9) (hb : Below w.heap.size w w') : OfI w0 A G p v5 v6 v7 v9 (listed.setIfInBounds 28 true) (a.put (some 31) (pAgg p u5 u6 u7 u9)) w' where
  ls := by simp [h.ls]
  rd := fun j hj => by rw [ls_ne (show j ≠ 28 by rintro rfl; simp at hj)]; exact h.rd j hj
  sz := by rw [pt_size]; exact h.sz
  df := by rw [pt_defers]; exact h.df
  t2 := by rw [pt_ne (by decide)]; exact h.t2
  t4 := by rw [pt_ne (by decide)]; exact h.t4
  t6 := by rw [pt_ne (by decide)]; exact h.t6
  t8 := by rw [pt_ne (by decide)]; exact h.t8
  t10 := by rw [pt_ne (by decide)]; exact h.t10
  t12 := by rw [pt_ne (by decide)]; exact h.t12
  t15 := by rw [pt_ne (by decide)]; exact h.t15
  t19 := by rw [pt_ne (by decide)]; exact h.t19
  t23 := by rw [pt_ne (by decide)]; exact h.t23
  t26 := by rw [pt_ne (by decide)]; exact h.t26
  t29 := by rw [pt_ne (by decide)]; exact h.t29
  bel := h.bel.trans (hb.mono h.bel.size)
  low := h.low
  box := h.box.below hb
  ag := h.ag
  cel := by rw [hb.block A (by have := h.box.1; have := h.ag; omega)]; exact h.cel
  l10 := fun hl => by rw [ls_ne (by decide)] at hl; rw [pt_ne (by decide)]; exact h.l10 hl
  l14 := fun hl => by rw [ls_ne (by decide)] at hl; rw [pt_ne (by decide)]; exact h.l14 hl
  l18 := fun hl => by rw [ls_ne (by decide)] at hl; rw [pt_ne (by decide)]; exact h.l18 hl
  l24 := fun hl => by rw [ls_ne (by decide)] at hl; rw [pt_ne (by decide)]; exact h.l24 hl
  l13 := fun hl => by rw [ls_ne (by decide)] at hl; rw [pt_ne (by decide)]; exact (h.l13 hl).below hb
  l17 := fun hl => by rw [ls_ne (by decide)] at hl; rw [pt_ne (by decide)]; exact (h.l17 hl).below hb
  l21 := fun hl => by rw [ls_ne (by decide)] at hl; rw [pt_ne (by decide)]; exact (h.l21 hl).below hb
  l27 := fun hl => by rw [ls_ne (by decide)] at hl; rw [pt_ne (by decide)]; exact (h.l27 hl).below hb
  l28 := fun _ => ⟨u5, u6, u7, u9, pt_same (by rw [h.sz]; decide), hf.below hb⟩
  l29 := fun hl => by rw [ls_ne (by decide)] at hl; obtain ⟨u5, u6, u7, u9, e, hf⟩ := h.l29 hl; exact ⟨u5, u6, u7, u9, by rw [hb.block G (by have := h.box.1; omega)]; exact e, hf.below hb⟩
theorem ls_d {l : Array Bool} {i : Nat} (h : i < l.size) : l.getD i true = l.getD i false := by simp [Array.getD, h]
theorem run_lit8 (ev : Operand → Value) (w : World) (d : Option Nat) (ps : String) : (execOp ev { dst := d, op := Op.buildSlice 22 0 #[], type := 22, pos := ps, after := #[], guard := none }).run Tryd.prog w = .ok (.value (.slice (some ⟨w.heap.size, 0, none⟩) 0 0)) (w.alloc (.cells #[] 5)) := by
  go_simp
theorem run_liti (ev : Operand → Value) (w : World) (d : Option Nat) (ps : String) : (execOp ev { dst := d, op := Op.buildSlice 23 0 #[], type := 23, pos := ps, after := #[], guard := none }).run Tryd.prog w = .ok (.value (.slice (some ⟨w.heap.size, 0, none⟩) 0 0)) (w.alloc (.cells #[] 3)) := by
  go_simp
theorem run_bld (ev : Operand → Value) (w : World) (p : Pv) (u5 u6 u7 u9 : Value) (h4 : ev (.tmp 4) = .int .i64 p.i) (h6 : ev (.tmp 6) = .int .i64 p.d) (h8 : ev (.tmp 8) = .bool p.hg) (h10 : ev (.tmp 10) = .bool p.ho) (h12 : ev (.tmp 12) = .bool p.hr)
    (h16 : ev (.tmp 16) = u5) (h20 : ev (.tmp 20) = u6) (h24 : ev (.tmp 24) = u7) (h26 : ev (.tmp 26) = .int .i64 p.c) (h30 : ev (.tmp 30) = u9) (s5 : ∃ a n c, u5 = .slice a n c) (s6 : ∃ a n c, u6 = .slice a n c) (s7 : ∃ a n c, u7 = .slice a n c) (s9 : ∃ a n c, u9 = .slice a n c) :
    (execOp ev { dst := some 31, op := Op.build 27 #[(0, Operand.tmp 4), (1, Operand.tmp 6), (2, Operand.tmp 8), (3, Operand.tmp 10), (4, Operand.tmp 12), (5, Operand.tmp 16), (6, Operand.tmp 20), (7, Operand.tmp 24), (8, Operand.tmp 26), (9, Operand.tmp 30)], type := 27, pos := "law.go:11", after := #[{ on := 1, ground := Ground.data }, { on := 3, ground := Ground.data }, { on := 5, ground := Ground.data }, { on := 7, ground := Ground.data }, { on := 9, ground := Ground.data }, { on := 13, ground := Ground.data }, { on := 17, ground := Ground.data }, { on := 21, ground := Ground.data }, { on := 23, ground := Ground.data }, { on := 27, ground := Ground.data }], guard := none }).run Tryd.prog w = .ok (.value (pAgg p u5 u6 u7 u9)) w := by
  obtain ⟨a5, n5, c5, rfl⟩ := s5
  obtain ⟨a6, n6, c6, rfl⟩ := s6
  obtain ⟨a7, n7, c7, rfl⟩ := s7
  obtain ⟨a9, n9, c9, rfl⟩ := s9
  go_simp
theorem info27 : (Tryd.prog.info? 27).map (·.size) = some 10 := by kernel_rfl
theorem run_st (ev : Operand → Value) {w : World} {G : Nat} (p : Pv) (u5 u6 u7 u9 : Value) (hY : Yn 27 10 G w) (h2 : ev (.tmp 2) = .pointer (some ⟨G, 0, none⟩)) (h31 : ev (.tmp 31) = pAgg p u5 u6 u7 u9) (s5 : ∃ a n c, u5 = .slice a n c) (s6 : ∃ a n c, u6 = .slice a n c) (s7 : ∃ a n c, u7 = .slice a n c) (s9 : ∃ a n c, u9 = .slice a n c) :
    (execOp ev { dst := none, op := Op.store 27 (Operand.tmp 2) (Operand.tmp 31), type := 0, pos := "law.go:11", after := #[{ on := 28, ground := Ground.data }, { on := 27, ground := Ground.chain }, { on := 0, ground := Ground.phase }, { on := 1, ground := Ground.phase }, { on := 2, ground := Ground.phase }, { on := 3, ground := Ground.phase }, { on := 4, ground := Ground.phase }, { on := 5, ground := Ground.phase }, { on := 6, ground := Ground.phase }, { on := 7, ground := Ground.phase }, { on := 8, ground := Ground.phase }, { on := 9, ground := Ground.phase }, { on := 10, ground := Ground.phase }, { on := 11, ground := Ground.phase }, { on := 12, ground := Ground.phase }, { on := 13, ground := Ground.phase }, { on := 14, ground := Ground.phase }, { on := 15, ground := Ground.phase }, { on := 16, ground := Ground.phase }, { on := 17, ground := Ground.phase }, { on := 18, ground := Ground.phase }, { on := 19, ground := Ground.phase }, { on := 20, ground := Ground.phase }, { on := 21, ground := Ground.phase }, { on := 22, ground := Ground.phase }, { on := 23, ground := Ground.phase }, { on := 24, ground := Ground.phase }, { on := 25, ground := Ground.phase }, { on := 26, ground := Ground.phase }, { on := 27, ground := Ground.phase }, { on := 28, ground := Ground.phase }], guard := none }).run Tryd.prog w = .ok .skip (w.setRow G (pCells p u5 u6 u7 u9)) := by
  obtain ⟨a5, n5, c5, rfl⟩ := s5
  obtain ⟨a6, n6, c6, rfl⟩ := s6
  obtain ⟨a7, n7, c7, rfl⟩ := s7
  obtain ⟨a9, n9, c9, rfl⟩ := s9
  obtain ⟨_, c, hc, hh⟩ := hY
  have := run_storeVar_row (P := Tryd.prog) w G 27 27 c (pCells p (.slice a5 n5 c5) (.slice a6 n6 c6) (.slice a7 n7 c7) (.slice a9 n9 c9)) hh info27 (by rw [hc]; rfl) (by simp [Value.oneCell'])
  unfold execOp
  simp only [h2, h31, Instr.storeAt, Instr.sureAddr, Sem.run_bind, Sem.run_pure, Result.andThen_ok, this]
theorem ra_shape {lo : Nat} {w : World} {v : Value} {zs : List Int} (h : Ra lo w v zs) : ∃ a n c, v = .slice a n c := by
  obtain ⟨ao, cap, hv, _⟩ := h.rd; exact ⟨_, _, _, hv⟩
theorem rai_shape {lo : Nat} {w : World} {v : Value} {zs : List Int} (h : Rai lo w v zs) : ∃ a n c, v = .slice a n c := by
  obtain ⟨ao, cap, hv, _⟩ := h.rd; exact ⟨_, _, _, hv⟩
theorem Ra.row {lo : Nat} {w : World} {v : Value} {zs : List Int} (h : Ra lo w v zs) {g : Nat} (hg : g < lo) (cs : Array Value) : Ra lo (w.setRow g cs) v zs := by
  refine ⟨?_, h.far⟩
  obtain ⟨ao, cap, hv, h1, h2, h3, h4, hc⟩ := h.rd
  refine ⟨ao, cap, hv, h1, h2, h3, h4, fun a ha j hj => ?_⟩
  have hz : zs ≠ [] := fun e => by rw [e] at hj; simp at hj
  have hne : a.block ≠ g := by
    have := h.far a zs.length cap (by rw [hv, ha]) hz
    omega
  obtain ⟨b, off, spot⟩ := a
  have hs : spot = none := by simpa [Addr.add] using World.cell?_spot (hc _ ha 0 (by omega))
  subst hs
  have hcell := hc _ ha j hj
  rw [Addr.add_lit] at hcell ⊢
  rw [cell_setRow_other w g cs ⟨b, off + j, none⟩ hne]; exact hcell
theorem Rai.row {lo : Nat} {w : World} {v : Value} {zs : List Int} (h : Rai lo w v zs) {g : Nat} (hg : g < lo) (cs : Array Value) : Rai lo (w.setRow g cs) v zs := by
  refine ⟨?_, h.far⟩
  obtain ⟨ao, cap, hv, h1, h2, h3, hc⟩ := h.rd
  refine ⟨ao, cap, hv, h1, h2, h3, fun a ha j hj => ?_⟩
  have hz : zs ≠ [] := fun e => by rw [e] at hj; simp at hj
  have hne : a.block ≠ g := by
    have := h.far a zs.length cap (by rw [hv, ha]) hz
    omega
  obtain ⟨b, off, spot⟩ := a
  have hs : spot = none := by simpa [Addr.add] using World.cell?_spot (hc _ ha 0 (by omega))
  subst hs
  have hcell := hc _ ha j hj
  rw [Addr.add_lit] at hcell ⊢
  rw [cell_setRow_other w g cs ⟨b, off + j, none⟩ hne]; exact hcell
theorem Four.row {G : Nat} {w : World} {p : Pv} {u5 u6 u7 u9 : Value} (h : Four G w p u5 u6 u7 u9) (cs : Array Value) : Four G (w.setRow G cs) p u5 u6 u7 u9 :=
  ⟨h.g.row (Nat.lt_succ_self _) cs, h.o.row (Nat.lt_succ_self _) cs, h.r.row (Nat.lt_succ_self _) cs, h.l.row (Nat.lt_succ_self _) cs⟩
theorem ofi_29 {w0 : World} {A G : Nat} {p : Pv} {v5 v6 v7 v9 : Value} {listed : Array Bool} {a : Act} {w : World} (h : OfI w0 A G p v5 v6 v7 v9 listed a w) {u5 u6 u7 u9 : Value} (hf : Four G w p u5 u6 u7 u9) : OfI w0 A G p v5 v6 v7 v9 (listed.setIfInBounds 29 true) (a.put none undef) (w.setRow G (pCells p u5 u6 u7 u9)) where
  ls := by simp [h.ls]
  rd := fun j hj => by rw [ls_ne (show j ≠ 29 by rintro rfl; simp at hj)]; exact h.rd j hj
  sz := by rw [pt_size]; exact h.sz
  df := by rw [pt_defers]; exact h.df
  t2 := h.t2
  t4 := h.t4
  t6 := h.t6
  t8 := h.t8
  t10 := h.t10
  t12 := h.t12
  t15 := h.t15
  t19 := h.t19
  t23 := h.t23
  t26 := h.t26
  t29 := h.t29
  bel := below_setRow h.bel h.low _
  low := h.low
  box := by obtain ⟨b1, c, b2, b3⟩ := h.box; exact ⟨by simpa using b1, _, rfl, setRow_heap _ _ _ _ _ _ b3⟩
  ag := h.ag
  cel := by rw [setRow_other _ _ _ _ (by have := h.ag; omega)]; exact h.cel
  l10 := fun hl => by rw [ls_ne (by decide)] at hl; exact h.l10 hl
  l14 := fun hl => by rw [ls_ne (by decide)] at hl; exact h.l14 hl
  l18 := fun hl => by rw [ls_ne (by decide)] at hl; exact h.l18 hl
  l24 := fun hl => by rw [ls_ne (by decide)] at hl; exact h.l24 hl
  l13 := fun hl => by rw [ls_ne (by decide)] at hl; exact (h.l13 hl).row (Nat.lt_succ_self _) _
  l17 := fun hl => by rw [ls_ne (by decide)] at hl; exact (h.l17 hl).row (Nat.lt_succ_self _) _
  l21 := fun hl => by rw [ls_ne (by decide)] at hl; exact (h.l21 hl).row (Nat.lt_succ_self _) _
  l27 := fun hl => by rw [ls_ne (by decide)] at hl; exact (h.l27 hl).row (Nat.lt_succ_self _) _
  l28 := fun hl => by rw [ls_ne (by decide)] at hl; obtain ⟨q5, q6, q7, q9, e, hq⟩ := h.l28 hl; exact ⟨q5, q6, q7, q9, e, hq.row _⟩
  l29 := fun _ => by obtain ⟨b1, c, b2, b3⟩ := h.box; exact ⟨u5, u6, u7, u9, setRow_heap _ _ _ _ _ _ b3, hf.row _⟩
theorem resultsP {tmps : Array Value} {w : World} {G : Nat} {p : Pv} {u5 u6 u7 u9 : Value} (hp : tmps.getD 2 undef = .pointer (some ⟨G, 0, none⟩)) (hg : w.heap[G]? = some (.cells (pCells p u5 u6 u7 u9) 27 (0, 0))) :
    (results Tryd.f9 tmps).run Tryd.prog w = .ok (pAgg p u5 u6 u7 u9) w :=
  results_cell_row (fn := Tryd.f9) (p := 2) (ty := 27) Tryd.results9 tmps w G 27 _ (0, 0) _ hp hg Tryd.underlying27 rfl (by rw [info27]; rfl)

set_option maxRecDepth 20000 in
set_option maxHeartbeats 8000000 in
theorem of_four {w : World} {p : Pv} {v5 v6 v7 v9 : Value} (h : Pr w p v5 v6 v7 v9) (h5 : p.g.length ≤ 1000) (h6 : p.o.length ≤ 1000) (h7 : p.r.length ≤ 1000) (h9 : p.l.length ≤ 1000) :
    Calls Tryd.prog 9 #[pAgg p v5 v6 v7 v9] w fun e w' => ∃ u5 u6 u7 u9, e = .returned (pAgg p u5 u6 u7 u9) ∧ Four w.heap.size w' p u5 u6 u7 u9 ∧ Below w.heap.size w w' := by
  obtain ⟨X, hX⟩ : ∃ X, X = ((w.alloc (.cells (pCells p v5 v6 v7 v9) 25)).alloc (.cells #[.int .i64 0, .int .i64 0, .bool false, .bool false, .bool false, .slice none 0 0, .slice none 0 0, .slice none 0 0, .int .i64 0, .slice none 0 0] 27)) := ⟨_, rfl⟩
  have hA := heap_alloc_new w (.cells (pCells p v5 v6 v7 v9) 25)
  have hB : Below w.heap.size w X := by rw [hX]; exact (below_alloc w _).trans ((below_alloc _ _).mono (by simp))
  have hA2 : X.heap[w.heap.size]? = some (.cells (pCells p v5 v6 v7 v9) 25 (0, 0)) := by rw [hX]; exact ((below_alloc _ _).block _ (by simp)).trans hA
  have hx := pcells hA2
  obtain ⟨a5, k5, rfl⟩ := h.g.shape
  obtain ⟨a6, k6, rfl⟩ := h.o.shape
  obtain ⟨a7, k7, rfl⟩ := h.r.shape
  obtain ⟨a9, k9, rfl⟩ := h.l.shape
  go_enter Tryd.func9, Tryd.ntmps9
  go_wp2_with fail
  rw [← hX]
  have HP := Lib.hid h
  obtain ⟨A, hAe⟩ : ∃ A, w.heap.size = A := ⟨_, rfl⟩
  have hY : Yn 27 10 (w.heap.size + 1) X := ⟨by rw [hX]; simp, _, rfl, by rw [hX]; exact heap_alloc2_new w _ _⟩
  rw [hAe] at hx hY ⊢
  refine wp_region_held_drew (S := fun w' : World => w'.cell? ⟨A, 0, none⟩ = some (.int .i64 p.i) ∧ w'.cell? ⟨A, 1, none⟩ = some (.int .i64 p.d) ∧ w'.cell? ⟨A, 2, none⟩ = some (.bool p.hg) ∧ w'.cell? ⟨A, 3, none⟩ = some (.bool p.ho) ∧ w'.cell? ⟨A, 4, none⟩ = some (.bool p.hr) ∧ w'.cell? ⟨A, 5, none⟩ = some (.slice a5 p.g.length k5) ∧ w'.cell? ⟨A, 6, none⟩ = some (.slice a6 p.o.length k6) ∧ w'.cell? ⟨A, 7, none⟩ = some (.slice a7 p.r.length k7) ∧ w'.cell? ⟨A, 8, none⟩ = some (.int .i64 p.c) ∧ w'.cell? ⟨A, 9, none⟩ = some (.slice a9 p.l.length k9)) (by kernel_rfl) hx (fun hHeld => ?_)
  refine wpAnyH_take (i := 0) (oi := { dst := some 3, op := Op.fieldAddr 25 (Operand.tmp 1) 0, type := 0, pos := "law.go:11", after := #[], guard := none }) (v := ?_) rfl (by kernel_rfl) (by kernel_rfl) (by kernel_rfl) (fun _ _ _ h => h) (Or.inl ⟨by rfl, ?_⟩) (by assumption) ?_
  rotate_left
  · intro w hSw; (try dsimp only at hSw); go_simp; try (with_reducible rfl)
  repeat (first | simp only [Act.put] | simp only [List.setIfInBounds_toArray] | simp only [List.set_cons_zero] | simp only [List.set_cons_succ])
  refine wpAnyH_take (i := 1) (oi := { dst := some 4, op := Op.load 3 (Operand.tmp 3), type := 3, pos := "law.go:11", after := #[{ on := 0, ground := Ground.data }], guard := none }) (v := ?_) rfl (by kernel_rfl) (by kernel_rfl) (by kernel_rfl) (fun _ _ _ h => h) (Or.inl ⟨by rfl, ?_⟩) (by assumption) ?_
  rotate_left
  · intro w hSw; (try dsimp only at hSw); go_simp; try (with_reducible rfl)
  repeat (first | simp only [Act.put] | simp only [List.setIfInBounds_toArray] | simp only [List.set_cons_zero] | simp only [List.set_cons_succ])
  refine wpAnyH_take (i := 2) (oi := { dst := some 5, op := Op.fieldAddr 25 (Operand.tmp 1) 1, type := 0, pos := "law.go:11", after := #[], guard := none }) (v := ?_) rfl (by kernel_rfl) (by kernel_rfl) (by kernel_rfl) (fun _ _ _ h => h) (Or.inl ⟨by rfl, ?_⟩) (by assumption) ?_
  rotate_left
  · intro w hSw; (try dsimp only at hSw); go_simp; try (with_reducible rfl)
  repeat (first | simp only [Act.put] | simp only [List.setIfInBounds_toArray] | simp only [List.set_cons_zero] | simp only [List.set_cons_succ])
  refine wpAnyH_take (i := 3) (oi := { dst := some 6, op := Op.load 3 (Operand.tmp 5), type := 3, pos := "law.go:11", after := #[{ on := 2, ground := Ground.data }], guard := none }) (v := ?_) rfl (by kernel_rfl) (by kernel_rfl) (by kernel_rfl) (fun _ _ _ h => h) (Or.inl ⟨by rfl, ?_⟩) (by assumption) ?_
  rotate_left
  · intro w hSw; (try dsimp only at hSw); go_simp; try (with_reducible rfl)
  repeat (first | simp only [Act.put] | simp only [List.setIfInBounds_toArray] | simp only [List.set_cons_zero] | simp only [List.set_cons_succ])
  refine wpAnyH_take (i := 4) (oi := { dst := some 7, op := Op.fieldAddr 25 (Operand.tmp 1) 2, type := 0, pos := "law.go:11", after := #[], guard := none }) (v := ?_) rfl (by kernel_rfl) (by kernel_rfl) (by kernel_rfl) (fun _ _ _ h => h) (Or.inl ⟨by rfl, ?_⟩) (by assumption) ?_
  rotate_left
  · intro w hSw; (try dsimp only at hSw); go_simp; try (with_reducible rfl)
  repeat (first | simp only [Act.put] | simp only [List.setIfInBounds_toArray] | simp only [List.set_cons_zero] | simp only [List.set_cons_succ])
  refine wpAnyH_take (i := 5) (oi := { dst := some 8, op := Op.load 4 (Operand.tmp 7), type := 4, pos := "law.go:11", after := #[{ on := 4, ground := Ground.data }], guard := none }) (v := ?_) rfl (by kernel_rfl) (by kernel_rfl) (by kernel_rfl) (fun _ _ _ h => h) (Or.inl ⟨by rfl, ?_⟩) (by assumption) ?_
  rotate_left
  · intro w hSw; (try dsimp only at hSw); go_simp; try (with_reducible rfl)
  repeat (first | simp only [Act.put] | simp only [List.setIfInBounds_toArray] | simp only [List.set_cons_zero] | simp only [List.set_cons_succ])
  refine wpAnyH_take (i := 6) (oi := { dst := some 9, op := Op.fieldAddr 25 (Operand.tmp 1) 3, type := 0, pos := "law.go:11", after := #[], guard := none }) (v := ?_) rfl (by kernel_rfl) (by kernel_rfl) (by kernel_rfl) (fun _ _ _ h => h) (Or.inl ⟨by rfl, ?_⟩) (by assumption) ?_
  rotate_left
  · intro w hSw; (try dsimp only at hSw); go_simp; try (with_reducible rfl)
  repeat (first | simp only [Act.put] | simp only [List.setIfInBounds_toArray] | simp only [List.set_cons_zero] | simp only [List.set_cons_succ])
  refine wpAnyH_take (i := 7) (oi := { dst := some 10, op := Op.load 4 (Operand.tmp 9), type := 4, pos := "law.go:11", after := #[{ on := 6, ground := Ground.data }], guard := none }) (v := ?_) rfl (by kernel_rfl) (by kernel_rfl) (by kernel_rfl) (fun _ _ _ h => h) (Or.inl ⟨by rfl, ?_⟩) (by assumption) ?_
  rotate_left
  · intro w hSw; (try dsimp only at hSw); go_simp; try (with_reducible rfl)
  repeat (first | simp only [Act.put] | simp only [List.setIfInBounds_toArray] | simp only [List.set_cons_zero] | simp only [List.set_cons_succ])
  refine wpAnyH_take (i := 8) (oi := { dst := some 11, op := Op.fieldAddr 25 (Operand.tmp 1) 4, type := 0, pos := "law.go:11", after := #[], guard := none }) (v := ?_) rfl (by kernel_rfl) (by kernel_rfl) (by kernel_rfl) (fun _ _ _ h => h) (Or.inl ⟨by rfl, ?_⟩) (by assumption) ?_
  rotate_left
  · intro w hSw; (try dsimp only at hSw); go_simp; try (with_reducible rfl)
  repeat (first | simp only [Act.put] | simp only [List.setIfInBounds_toArray] | simp only [List.set_cons_zero] | simp only [List.set_cons_succ])
  refine wpAnyH_take (i := 9) (oi := { dst := some 12, op := Op.load 4 (Operand.tmp 11), type := 4, pos := "law.go:11", after := #[{ on := 8, ground := Ground.data }], guard := none }) (v := ?_) rfl (by kernel_rfl) (by kernel_rfl) (by kernel_rfl) (fun _ _ _ h => h) (Or.inl ⟨by rfl, ?_⟩) (by assumption) ?_
  rotate_left
  · intro w hSw; (try dsimp only at hSw); go_simp; try (with_reducible rfl)
  repeat (first | simp only [Act.put] | simp only [List.setIfInBounds_toArray] | simp only [List.set_cons_zero] | simp only [List.set_cons_succ])
  refine wpAnyH_take (i := 11) (oi := { dst := some 14, op := Op.fieldAddr 25 (Operand.tmp 1) 5, type := 0, pos := "law.go:11", after := #[], guard := none }) (v := ?_) rfl (by kernel_rfl) (by kernel_rfl) (by kernel_rfl) (fun _ _ _ h => h) (Or.inl ⟨by rfl, ?_⟩) (by assumption) ?_
  rotate_left
  · intro w hSw; (try dsimp only at hSw); go_simp; try (with_reducible rfl)
  repeat (first | simp only [Act.put] | simp only [List.setIfInBounds_toArray] | simp only [List.set_cons_zero] | simp only [List.set_cons_succ])
  refine wpAnyH_take (i := 12) (oi := { dst := some 15, op := Op.load 22 (Operand.tmp 14), type := 22, pos := "law.go:11", after := #[{ on := 11, ground := Ground.data }], guard := none }) (v := ?_) rfl (by kernel_rfl) (by kernel_rfl) (by kernel_rfl) (fun _ _ _ h => h) (Or.inl ⟨by rfl, ?_⟩) (by assumption) ?_
  rotate_left
  · intro w hSw; (try dsimp only at hSw); go_simp; try (with_reducible rfl)
  repeat (first | simp only [Act.put] | simp only [List.setIfInBounds_toArray] | simp only [List.set_cons_zero] | simp only [List.set_cons_succ])
  refine wpAnyH_take (i := 15) (oi := { dst := some 18, op := Op.fieldAddr 25 (Operand.tmp 1) 6, type := 0, pos := "law.go:11", after := #[], guard := none }) (v := ?_) rfl (by kernel_rfl) (by kernel_rfl) (by kernel_rfl) (fun _ _ _ h => h) (Or.inl ⟨by rfl, ?_⟩) (by assumption) ?_
  rotate_left
  · intro w hSw; (try dsimp only at hSw); go_simp; try (with_reducible rfl)
  repeat (first | simp only [Act.put] | simp only [List.setIfInBounds_toArray] | simp only [List.set_cons_zero] | simp only [List.set_cons_succ])
  refine wpAnyH_take (i := 16) (oi := { dst := some 19, op := Op.load 22 (Operand.tmp 18), type := 22, pos := "law.go:11", after := #[{ on := 15, ground := Ground.data }], guard := none }) (v := ?_) rfl (by kernel_rfl) (by kernel_rfl) (by kernel_rfl) (fun _ _ _ h => h) (Or.inl ⟨by rfl, ?_⟩) (by assumption) ?_
  rotate_left
  · intro w hSw; (try dsimp only at hSw); go_simp; try (with_reducible rfl)
  repeat (first | simp only [Act.put] | simp only [List.setIfInBounds_toArray] | simp only [List.set_cons_zero] | simp only [List.set_cons_succ])
  refine wpAnyH_take (i := 19) (oi := { dst := some 22, op := Op.fieldAddr 25 (Operand.tmp 1) 7, type := 0, pos := "law.go:11", after := #[], guard := none }) (v := ?_) rfl (by kernel_rfl) (by kernel_rfl) (by kernel_rfl) (fun _ _ _ h => h) (Or.inl ⟨by rfl, ?_⟩) (by assumption) ?_
  rotate_left
  · intro w hSw; (try dsimp only at hSw); go_simp; try (with_reducible rfl)
  repeat (first | simp only [Act.put] | simp only [List.setIfInBounds_toArray] | simp only [List.set_cons_zero] | simp only [List.set_cons_succ])
  refine wpAnyH_take (i := 20) (oi := { dst := some 23, op := Op.load 22 (Operand.tmp 22), type := 22, pos := "law.go:11", after := #[{ on := 19, ground := Ground.data }], guard := none }) (v := ?_) rfl (by kernel_rfl) (by kernel_rfl) (by kernel_rfl) (fun _ _ _ h => h) (Or.inl ⟨by rfl, ?_⟩) (by assumption) ?_
  rotate_left
  · intro w hSw; (try dsimp only at hSw); go_simp; try (with_reducible rfl)
  repeat (first | simp only [Act.put] | simp only [List.setIfInBounds_toArray] | simp only [List.set_cons_zero] | simp only [List.set_cons_succ])
  refine wpAnyH_take (i := 22) (oi := { dst := some 25, op := Op.fieldAddr 25 (Operand.tmp 1) 8, type := 0, pos := "law.go:11", after := #[], guard := none }) (v := ?_) rfl (by kernel_rfl) (by kernel_rfl) (by kernel_rfl) (fun _ _ _ h => h) (Or.inl ⟨by rfl, ?_⟩) (by assumption) ?_
  rotate_left
  · intro w hSw; (try dsimp only at hSw); go_simp; try (with_reducible rfl)
  repeat (first | simp only [Act.put] | simp only [List.setIfInBounds_toArray] | simp only [List.set_cons_zero] | simp only [List.set_cons_succ])
  refine wpAnyH_take (i := 23) (oi := { dst := some 26, op := Op.load 3 (Operand.tmp 25), type := 3, pos := "law.go:11", after := #[{ on := 22, ground := Ground.data }], guard := none }) (v := ?_) rfl (by kernel_rfl) (by kernel_rfl) (by kernel_rfl) (fun _ _ _ h => h) (Or.inl ⟨by rfl, ?_⟩) (by assumption) ?_
  rotate_left
  · intro w hSw; (try dsimp only at hSw); go_simp; try (with_reducible rfl)
  repeat (first | simp only [Act.put] | simp only [List.setIfInBounds_toArray] | simp only [List.set_cons_zero] | simp only [List.set_cons_succ])
  refine wpAnyH_take (i := 25) (oi := { dst := some 28, op := Op.fieldAddr 25 (Operand.tmp 1) 9, type := 0, pos := "law.go:11", after := #[], guard := none }) (v := ?_) rfl (by kernel_rfl) (by kernel_rfl) (by kernel_rfl) (fun _ _ _ h => h) (Or.inl ⟨by rfl, ?_⟩) (by assumption) ?_
  rotate_left
  · intro w hSw; (try dsimp only at hSw); go_simp; try (with_reducible rfl)
  repeat (first | simp only [Act.put] | simp only [List.setIfInBounds_toArray] | simp only [List.set_cons_zero] | simp only [List.set_cons_succ])
  refine wpAnyH_take (i := 26) (oi := { dst := some 29, op := Op.load 23 (Operand.tmp 28), type := 23, pos := "law.go:11", after := #[{ on := 25, ground := Ground.data }], guard := none }) (v := ?_) rfl (by kernel_rfl) (by kernel_rfl) (by kernel_rfl) (fun _ _ _ h => h) (Or.inl ⟨by rfl, ?_⟩) (by assumption) ?_
  rotate_left
  · intro w hSw; (try dsimp only at hSw); go_simp; try (with_reducible rfl)
  repeat (first | simp only [Act.put] | simp only [List.setIfInBounds_toArray] | simp only [List.set_cons_zero] | simp only [List.set_cons_succ])
  have hlow : w.heap.size ≤ A + 1 := by omega
  clear hHeld hX
  refine wpAnyH_inv (OfI w A (A + 1) p (.slice a5 p.g.length k5) (.slice a6 p.o.length k6) (.slice a7 p.r.length k7) (.slice a9 p.l.length k9)) ?_ ?_ _ _ _ _ (by decide +kernel) ?_
  · intro listed a wx hI i hi
    obtain ⟨h1, o, ho, hdep⟩ := mem_ready.1 hi
    have hlt : i < 30 := (Array.getElem?_eq_some_iff.1 ho).1
    by_cases hr : i ∈ [0, 1, 2, 3, 4, 5, 6, 7, 8, 9, 11, 12, 15, 16, 19, 20, 22, 23, 25, 26]
    · rw [hI.rd i hr] at h1; cases h1
    have hcs : i = 10 ∨ i = 14 ∨ i = 18 ∨ i = 24 ∨ i = 13 ∨ i = 17 ∨ i = 21 ∨ i = 27 ∨ i = 28 ∨ i = 29 := by simp at hr; omega
    clear hr hlt hi
    unfold wpOp
    rw [ho]
    dsimp only
    rcases hcs with rfl | rfl | rfl | rfl | rfl | rfl | rfl | rfl | rfl | rfl
    · obtain rfl := Option.some.inj ((by rfl : _ = some { dst := some 13, op := Op.buildSlice 22 0 #[], type := 22, pos := "law.go:11", after := #[], guard := none }).symm.trans ho)
      rw [if_pos (by simp [Region.wanted])]
      left
      unfold Oper.wp
      rw [run_lit8, Oper.upon_value]
      have hn := ofi_10 (w' := wx.alloc (.cells #[] 5)) hI wx.heap.size (below_alloc _ _)
      exact ⟨pcells hn.cel, hn⟩
    · obtain rfl := Option.some.inj ((by rfl : _ = some { dst := some 17, op := Op.buildSlice 22 0 #[], type := 22, pos := "law.go:11", after := #[], guard := none }).symm.trans ho)
      rw [if_pos (by simp [Region.wanted])]
      left
      unfold Oper.wp
      rw [run_lit8, Oper.upon_value]
      have hn := ofi_14 (w' := wx.alloc (.cells #[] 5)) hI wx.heap.size (below_alloc _ _)
      exact ⟨pcells hn.cel, hn⟩
    · obtain rfl := Option.some.inj ((by rfl : _ = some { dst := some 21, op := Op.buildSlice 22 0 #[], type := 22, pos := "law.go:11", after := #[], guard := none }).symm.trans ho)
      rw [if_pos (by simp [Region.wanted])]
      left
      unfold Oper.wp
      rw [run_lit8, Oper.upon_value]
      have hn := ofi_18 (w' := wx.alloc (.cells #[] 5)) hI wx.heap.size (below_alloc _ _)
      exact ⟨pcells hn.cel, hn⟩
    · obtain rfl := Option.some.inj ((by rfl : _ = some { dst := some 27, op := Op.buildSlice 23 0 #[], type := 23, pos := "law.go:11", after := #[], guard := none }).symm.trans ho)
      rw [if_pos (by simp [Region.wanted])]
      left
      unfold Oper.wp
      rw [run_liti, Oper.upon_value]
      have hn := ofi_24 (w' := wx.alloc (.cells #[] 3)) hI wx.heap.size (below_alloc _ _)
      exact ⟨pcells hn.cel, hn⟩
    · obtain rfl := Option.some.inj ((by rfl : _ = some { dst := some 16, op := Op.call { callee := Callee.builtin Builtin.append, args := #[Operand.tmp 13, Operand.tmp 15], argTypes := #[22, 22] }, type := 22, pos := "law.go:11", after := #[{ on := 10, ground := Ground.data }, { on := 12, ground := Ground.data }], guard := none }).symm.trans ho)
      rw [if_pos (by simp [Region.wanted])]
      left
      obtain ⟨g, hg⟩ := hI.l10 (hdep { on := 10, ground := Ground.data } (by simp) rfl)
      refine wp_append_fresh (.tmp 13) (.tmp 15) rfl g hg _ p.g hI.t15 (HP.out.g.below hI.bel) (by omega) (lo := A + 1 + 1) (by have := hI.box.1; omega) ?_
      intro u w' hu hb
      have hn := ofi_13 hI hu hb
      exact ⟨pcells hn.cel, hn⟩
    · obtain rfl := Option.some.inj ((by rfl : _ = some { dst := some 20, op := Op.call { callee := Callee.builtin Builtin.append, args := #[Operand.tmp 17, Operand.tmp 19], argTypes := #[22, 22] }, type := 22, pos := "law.go:11", after := #[{ on := 14, ground := Ground.data }, { on := 16, ground := Ground.data }, { on := 13, ground := Ground.chain }], guard := none }).symm.trans ho)
      rw [if_pos (by simp [Region.wanted])]
      left
      obtain ⟨g, hg⟩ := hI.l14 (hdep { on := 14, ground := Ground.data } (by simp) rfl)
      refine wp_append_fresh (.tmp 17) (.tmp 19) rfl g hg _ p.o hI.t19 (HP.out.o.below hI.bel) (by omega) (lo := A + 1 + 1) (by have := hI.box.1; omega) ?_
      intro u w' hu hb
      have hn := ofi_17 hI hu hb
      exact ⟨pcells hn.cel, hn⟩
    · obtain rfl := Option.some.inj ((by rfl : _ = some { dst := some 24, op := Op.call { callee := Callee.builtin Builtin.append, args := #[Operand.tmp 21, Operand.tmp 23], argTypes := #[22, 22] }, type := 22, pos := "law.go:11", after := #[{ on := 18, ground := Ground.data }, { on := 20, ground := Ground.data }, { on := 17, ground := Ground.chain }], guard := none }).symm.trans ho)
      rw [if_pos (by simp [Region.wanted])]
      left
      obtain ⟨g, hg⟩ := hI.l18 (hdep { on := 18, ground := Ground.data } (by simp) rfl)
      refine wp_append_fresh (.tmp 21) (.tmp 23) rfl g hg _ p.r hI.t23 (HP.out.r.below hI.bel) (by omega) (lo := A + 1 + 1) (by have := hI.box.1; omega) ?_
      intro u w' hu hb
      have hn := ofi_21 hI hu hb
      exact ⟨pcells hn.cel, hn⟩
    · obtain rfl := Option.some.inj ((by rfl : _ = some { dst := some 30, op := Op.call { callee := Callee.builtin Builtin.append, args := #[Operand.tmp 27, Operand.tmp 29], argTypes := #[23, 23] }, type := 23, pos := "law.go:11", after := #[{ on := 24, ground := Ground.data }, { on := 26, ground := Ground.data }, { on := 21, ground := Ground.chain }], guard := none }).symm.trans ho)
      rw [if_pos (by simp [Region.wanted])]
      left
      obtain ⟨g, hg⟩ := hI.l24 (hdep { on := 24, ground := Ground.data } (by simp) rfl)
      refine wp_append_freshi (.tmp 27) (.tmp 29) rfl g hg _ p.l hI.t29 (HP.out.l.below hI.bel) (by omega) (lo := A + 1 + 1) (by have := hI.box.1; omega) ?_
      intro u w' hu hb
      have hn := ofi_27 hI hu hb
      exact ⟨pcells hn.cel, hn⟩
    · obtain rfl := Option.some.inj ((by rfl : _ = some { dst := some 31, op := Op.build 27 #[(0, Operand.tmp 4), (1, Operand.tmp 6), (2, Operand.tmp 8), (3, Operand.tmp 10), (4, Operand.tmp 12), (5, Operand.tmp 16), (6, Operand.tmp 20), (7, Operand.tmp 24), (8, Operand.tmp 26), (9, Operand.tmp 30)], type := 27, pos := "law.go:11", after := #[{ on := 1, ground := Ground.data }, { on := 3, ground := Ground.data }, { on := 5, ground := Ground.data }, { on := 7, ground := Ground.data }, { on := 9, ground := Ground.data }, { on := 13, ground := Ground.data }, { on := 17, ground := Ground.data }, { on := 21, ground := Ground.data }, { on := 23, ground := Ground.data }, { on := 27, ground := Ground.data }], guard := none }).symm.trans ho)
      rw [if_pos (by simp [Region.wanted])]
      left
      have f13 := hI.l13 (hdep { on := 13, ground := Ground.data } (by simp) rfl)
      have f17 := hI.l17 (hdep { on := 17, ground := Ground.data } (by simp) rfl)
      have f21 := hI.l21 (hdep { on := 21, ground := Ground.data } (by simp) rfl)
      have f27 := hI.l27 (hdep { on := 27, ground := Ground.data } (by simp) rfl)
      unfold Oper.wp
      rw [run_bld a.eval wx p _ _ _ _ hI.t4 hI.t6 hI.t8 hI.t10 hI.t12 rfl rfl rfl hI.t26 rfl (ra_shape f13) (ra_shape f17) (ra_shape f21) (rai_shape f27), Oper.upon_value]
      have hn := ofi_28 (w' := wx) hI ⟨f13, f17, f21, f27⟩ (Below.refl _ _)
      exact ⟨pcells hn.cel, hn⟩
    · obtain rfl := Option.some.inj ((by rfl : _ = some { dst := none, op := Op.store 27 (Operand.tmp 2) (Operand.tmp 31), type := 0, pos := "law.go:11", after := #[{ on := 28, ground := Ground.data }, { on := 27, ground := Ground.chain }, { on := 0, ground := Ground.phase }, { on := 1, ground := Ground.phase }, { on := 2, ground := Ground.phase }, { on := 3, ground := Ground.phase }, { on := 4, ground := Ground.phase }, { on := 5, ground := Ground.phase }, { on := 6, ground := Ground.phase }, { on := 7, ground := Ground.phase }, { on := 8, ground := Ground.phase }, { on := 9, ground := Ground.phase }, { on := 10, ground := Ground.phase }, { on := 11, ground := Ground.phase }, { on := 12, ground := Ground.phase }, { on := 13, ground := Ground.phase }, { on := 14, ground := Ground.phase }, { on := 15, ground := Ground.phase }, { on := 16, ground := Ground.phase }, { on := 17, ground := Ground.phase }, { on := 18, ground := Ground.phase }, { on := 19, ground := Ground.phase }, { on := 20, ground := Ground.phase }, { on := 21, ground := Ground.phase }, { on := 22, ground := Ground.phase }, { on := 23, ground := Ground.phase }, { on := 24, ground := Ground.phase }, { on := 25, ground := Ground.phase }, { on := 26, ground := Ground.phase }, { on := 27, ground := Ground.phase }, { on := 28, ground := Ground.phase }], guard := none }).symm.trans ho)
      rw [if_pos (by simp [Region.wanted])]
      left
      obtain ⟨u5, u6, u7, u9, e31, hf⟩ := hI.l28 (hdep { on := 28, ground := Ground.data } (by simp) rfl)
      unfold Oper.wp
      rw [run_st a.eval p u5 u6 u7 u9 hI.box hI.t2 e31 (ra_shape hf.g) (ra_shape hf.o) (ra_shape hf.r) (rai_shape hf.l), Oper.upon_skip]
      have hn := ofi_29 hI hf
      exact ⟨pcells hn.cel, hn⟩
  · intro listed a wx hI hr0
    have nin : ∀ j, ¬ j ∈ Region.ready Region.Mode.any _ listed := fun j hj => by rw [hr0] at hj; cases hj
    have d10 : listed.getD 10 false = true := by
      by_cases hh : listed.getD 10 false = true
      · exact hh
      · exfalso
        refine nin 10 (mem_ready.2 ⟨by rw [ls_d (by rw [hI.ls]; decide)]; simpa using hh, { dst := some 13, op := Op.buildSlice 22 0 #[], type := 22, pos := "law.go:11", after := #[], guard := none }, rfl, fun e he _ => ?_⟩)
        simp at he
    have d14 : listed.getD 14 false = true := by
      by_cases hh : listed.getD 14 false = true
      · exact hh
      · exfalso
        refine nin 14 (mem_ready.2 ⟨by rw [ls_d (by rw [hI.ls]; decide)]; simpa using hh, { dst := some 17, op := Op.buildSlice 22 0 #[], type := 22, pos := "law.go:11", after := #[], guard := none }, rfl, fun e he _ => ?_⟩)
        simp at he
    have d18 : listed.getD 18 false = true := by
      by_cases hh : listed.getD 18 false = true
      · exact hh
      · exfalso
        refine nin 18 (mem_ready.2 ⟨by rw [ls_d (by rw [hI.ls]; decide)]; simpa using hh, { dst := some 21, op := Op.buildSlice 22 0 #[], type := 22, pos := "law.go:11", after := #[], guard := none }, rfl, fun e he _ => ?_⟩)
        simp at he
    have d24 : listed.getD 24 false = true := by
      by_cases hh : listed.getD 24 false = true
      · exact hh
      · exfalso
        refine nin 24 (mem_ready.2 ⟨by rw [ls_d (by rw [hI.ls]; decide)]; simpa using hh, { dst := some 27, op := Op.buildSlice 23 0 #[], type := 23, pos := "law.go:11", after := #[], guard := none }, rfl, fun e he _ => ?_⟩)
        simp at he
    have d13 : listed.getD 13 false = true := by
      by_cases hh : listed.getD 13 false = true
      · exact hh
      · exfalso
        refine nin 13 (mem_ready.2 ⟨by rw [ls_d (by rw [hI.ls]; decide)]; simpa using hh, { dst := some 16, op := Op.call { callee := Callee.builtin Builtin.append, args := #[Operand.tmp 13, Operand.tmp 15], argTypes := #[22, 22] }, type := 22, pos := "law.go:11", after := #[{ on := 10, ground := Ground.data }, { on := 12, ground := Ground.data }], guard := none }, rfl, fun e he _ => ?_⟩)
        dsimp only at he
        simp only [List.mem_toArray, List.mem_cons, List.not_mem_nil, or_false] at he
        rcases he with rfl | rfl
        · exact d10
        · dsimp only; rw [← ls_d (by rw [hI.ls]; decide)]; exact hI.rd 12 (by simp)
    have d17 : listed.getD 17 false = true := by
      by_cases hh : listed.getD 17 false = true
      · exact hh
      · exfalso
        refine nin 17 (mem_ready.2 ⟨by rw [ls_d (by rw [hI.ls]; decide)]; simpa using hh, { dst := some 20, op := Op.call { callee := Callee.builtin Builtin.append, args := #[Operand.tmp 17, Operand.tmp 19], argTypes := #[22, 22] }, type := 22, pos := "law.go:11", after := #[{ on := 14, ground := Ground.data }, { on := 16, ground := Ground.data }, { on := 13, ground := Ground.chain }], guard := none }, rfl, fun e he _ => ?_⟩)
        dsimp only at he
        simp only [List.mem_toArray, List.mem_cons, List.not_mem_nil, or_false] at he
        rcases he with rfl | rfl | rfl
        · exact d14
        · dsimp only; rw [← ls_d (by rw [hI.ls]; decide)]; exact hI.rd 16 (by simp)
        · exact d13
    have d21 : listed.getD 21 false = true := by
      by_cases hh : listed.getD 21 false = true
      · exact hh
      · exfalso
        refine nin 21 (mem_ready.2 ⟨by rw [ls_d (by rw [hI.ls]; decide)]; simpa using hh, { dst := some 24, op := Op.call { callee := Callee.builtin Builtin.append, args := #[Operand.tmp 21, Operand.tmp 23], argTypes := #[22, 22] }, type := 22, pos := "law.go:11", after := #[{ on := 18, ground := Ground.data }, { on := 20, ground := Ground.data }, { on := 17, ground := Ground.chain }], guard := none }, rfl, fun e he _ => ?_⟩)
        dsimp only at he
        simp only [List.mem_toArray, List.mem_cons, List.not_mem_nil, or_false] at he
        rcases he with rfl | rfl | rfl
        · exact d18
        · dsimp only; rw [← ls_d (by rw [hI.ls]; decide)]; exact hI.rd 20 (by simp)
        · exact d17
    have d27 : listed.getD 27 false = true := by
      by_cases hh : listed.getD 27 false = true
      · exact hh
      · exfalso
        refine nin 27 (mem_ready.2 ⟨by rw [ls_d (by rw [hI.ls]; decide)]; simpa using hh, { dst := some 30, op := Op.call { callee := Callee.builtin Builtin.append, args := #[Operand.tmp 27, Operand.tmp 29], argTypes := #[23, 23] }, type := 23, pos := "law.go:11", after := #[{ on := 24, ground := Ground.data }, { on := 26, ground := Ground.data }, { on := 21, ground := Ground.chain }], guard := none }, rfl, fun e he _ => ?_⟩)
        dsimp only at he
        simp only [List.mem_toArray, List.mem_cons, List.not_mem_nil, or_false] at he
        rcases he with rfl | rfl | rfl
        · exact d24
        · dsimp only; rw [← ls_d (by rw [hI.ls]; decide)]; exact hI.rd 26 (by simp)
        · exact d21
    have d28 : listed.getD 28 false = true := by
      by_cases hh : listed.getD 28 false = true
      · exact hh
      · exfalso
        refine nin 28 (mem_ready.2 ⟨by rw [ls_d (by rw [hI.ls]; decide)]; simpa using hh, { dst := some 31, op := Op.build 27 #[(0, Operand.tmp 4), (1, Operand.tmp 6), (2, Operand.tmp 8), (3, Operand.tmp 10), (4, Operand.tmp 12), (5, Operand.tmp 16), (6, Operand.tmp 20), (7, Operand.tmp 24), (8, Operand.tmp 26), (9, Operand.tmp 30)], type := 27, pos := "law.go:11", after := #[{ on := 1, ground := Ground.data }, { on := 3, ground := Ground.data }, { on := 5, ground := Ground.data }, { on := 7, ground := Ground.data }, { on := 9, ground := Ground.data }, { on := 13, ground := Ground.data }, { on := 17, ground := Ground.data }, { on := 21, ground := Ground.data }, { on := 23, ground := Ground.data }, { on := 27, ground := Ground.data }], guard := none }, rfl, fun e he _ => ?_⟩)
        dsimp only at he
        simp only [List.mem_toArray, List.mem_cons, List.not_mem_nil, or_false] at he
        rcases he with rfl | rfl | rfl | rfl | rfl | rfl | rfl | rfl | rfl | rfl
        · dsimp only; rw [← ls_d (by rw [hI.ls]; decide)]; exact hI.rd 1 (by simp)
        · dsimp only; rw [← ls_d (by rw [hI.ls]; decide)]; exact hI.rd 3 (by simp)
        · dsimp only; rw [← ls_d (by rw [hI.ls]; decide)]; exact hI.rd 5 (by simp)
        · dsimp only; rw [← ls_d (by rw [hI.ls]; decide)]; exact hI.rd 7 (by simp)
        · dsimp only; rw [← ls_d (by rw [hI.ls]; decide)]; exact hI.rd 9 (by simp)
        · exact d13
        · exact d17
        · exact d21
        · dsimp only; rw [← ls_d (by rw [hI.ls]; decide)]; exact hI.rd 23 (by simp)
        · exact d27
    have d29 : listed.getD 29 false = true := by
      by_cases hh : listed.getD 29 false = true
      · exact hh
      · exfalso
        refine nin 29 (mem_ready.2 ⟨by rw [ls_d (by rw [hI.ls]; decide)]; simpa using hh, { dst := none, op := Op.store 27 (Operand.tmp 2) (Operand.tmp 31), type := 0, pos := "law.go:11", after := #[{ on := 28, ground := Ground.data }, { on := 27, ground := Ground.chain }, { on := 0, ground := Ground.phase }, { on := 1, ground := Ground.phase }, { on := 2, ground := Ground.phase }, { on := 3, ground := Ground.phase }, { on := 4, ground := Ground.phase }, { on := 5, ground := Ground.phase }, { on := 6, ground := Ground.phase }, { on := 7, ground := Ground.phase }, { on := 8, ground := Ground.phase }, { on := 9, ground := Ground.phase }, { on := 10, ground := Ground.phase }, { on := 11, ground := Ground.phase }, { on := 12, ground := Ground.phase }, { on := 13, ground := Ground.phase }, { on := 14, ground := Ground.phase }, { on := 15, ground := Ground.phase }, { on := 16, ground := Ground.phase }, { on := 17, ground := Ground.phase }, { on := 18, ground := Ground.phase }, { on := 19, ground := Ground.phase }, { on := 20, ground := Ground.phase }, { on := 21, ground := Ground.phase }, { on := 22, ground := Ground.phase }, { on := 23, ground := Ground.phase }, { on := 24, ground := Ground.phase }, { on := 25, ground := Ground.phase }, { on := 26, ground := Ground.phase }, { on := 27, ground := Ground.phase }, { on := 28, ground := Ground.phase }], guard := none }, rfl, fun e he _ => ?_⟩)
        dsimp only at he
        simp only [List.mem_toArray, List.mem_cons, List.not_mem_nil, or_false] at he
        rcases he with rfl | rfl | rfl | rfl | rfl | rfl | rfl | rfl | rfl | rfl | rfl | rfl | rfl | rfl | rfl | rfl | rfl | rfl | rfl | rfl | rfl | rfl | rfl | rfl | rfl | rfl | rfl | rfl | rfl | rfl | rfl
        · exact d28
        · exact d27
        · dsimp only; rw [← ls_d (by rw [hI.ls]; decide)]; exact hI.rd 0 (by simp)
        · dsimp only; rw [← ls_d (by rw [hI.ls]; decide)]; exact hI.rd 1 (by simp)
        · dsimp only; rw [← ls_d (by rw [hI.ls]; decide)]; exact hI.rd 2 (by simp)
        · dsimp only; rw [← ls_d (by rw [hI.ls]; decide)]; exact hI.rd 3 (by simp)
        · dsimp only; rw [← ls_d (by rw [hI.ls]; decide)]; exact hI.rd 4 (by simp)
        · dsimp only; rw [← ls_d (by rw [hI.ls]; decide)]; exact hI.rd 5 (by simp)
        · dsimp only; rw [← ls_d (by rw [hI.ls]; decide)]; exact hI.rd 6 (by simp)
        · dsimp only; rw [← ls_d (by rw [hI.ls]; decide)]; exact hI.rd 7 (by simp)
        · dsimp only; rw [← ls_d (by rw [hI.ls]; decide)]; exact hI.rd 8 (by simp)
        · dsimp only; rw [← ls_d (by rw [hI.ls]; decide)]; exact hI.rd 9 (by simp)
        · exact d10
        · dsimp only; rw [← ls_d (by rw [hI.ls]; decide)]; exact hI.rd 11 (by simp)
        · dsimp only; rw [← ls_d (by rw [hI.ls]; decide)]; exact hI.rd 12 (by simp)
        · exact d13
        · exact d14
        · dsimp only; rw [← ls_d (by rw [hI.ls]; decide)]; exact hI.rd 15 (by simp)
        · dsimp only; rw [← ls_d (by rw [hI.ls]; decide)]; exact hI.rd 16 (by simp)
        · exact d17
        · exact d18
        · dsimp only; rw [← ls_d (by rw [hI.ls]; decide)]; exact hI.rd 19 (by simp)
        · dsimp only; rw [← ls_d (by rw [hI.ls]; decide)]; exact hI.rd 20 (by simp)
        · exact d21
        · dsimp only; rw [← ls_d (by rw [hI.ls]; decide)]; exact hI.rd 22 (by simp)
        · dsimp only; rw [← ls_d (by rw [hI.ls]; decide)]; exact hI.rd 23 (by simp)
        · exact d24
        · dsimp only; rw [← ls_d (by rw [hI.ls]; decide)]; exact hI.rd 25 (by simp)
        · dsimp only; rw [← ls_d (by rw [hI.ls]; decide)]; exact hI.rd 26 (by simp)
        · exact d27
        · exact d28
    obtain ⟨u5, u6, u7, u9, hbx, hf⟩ := hI.l29 d29
    simp only [Exit.then]
    refine ‹∀ (a : Act) (w : World), Code.wp Tryd.prog _ _ a w → _› _ _ ?_
    refine wp_ret ?_
    try simp only [Exit.then]
    exact bodyPost_ret (resultsP hI.t2 hbx) hI.df ⟨u5, u6, u7, u9, rfl, ⟨hf.g.mono (by omega), hf.o.mono (by omega), hf.r.mono (by omega), hf.l.mono (by omega)⟩, hI.bel⟩
  · refine ⟨by rfl, by decide +kernel, by rfl, rfl, rfl, rfl, rfl, rfl, rfl, rfl, rfl, rfl, rfl, rfl, rfl, hB.drew, hlow, hY, Nat.lt_succ_self _, ?_, (fun hl => absurd hl (by decide +kernel)), (fun hl => absurd hl (by decide +kernel)), (fun hl => absurd hl (by decide +kernel)), (fun hl => absurd hl (by decide +kernel)), (fun hl => absurd hl (by decide +kernel)), (fun hl => absurd hl (by decide +kernel)), (fun hl => absurd hl (by decide +kernel)), (fun hl => absurd hl (by decide +kernel)), (fun hl => absurd hl (by decide +kernel)), (fun hl => absurd hl (by decide +kernel))⟩
    rw [← hAe]; exact hA2
theorem of_any {w : World} {p : Pv} {v5 v6 v7 v9 : Value} (h : Pr w p v5 v6 v7 v9) (h5 : p.g.length ≤ 1000) (h6 : p.o.length ≤ 1000) (h7 : p.r.length ≤ 1000) (h9 : p.l.length ≤ 1000) :
    Calls Tryd.prog 9 #[pAgg p v5 v6 v7 v9] w fun e w' => ∃ u5 u6 u7 u9, e = .returned (pAgg p u5 u6 u7 u9) ∧ Pr w' p u5 u6 u7 u9 ∧ Below w.heap.size w w' :=
  (of_four h h5 h6 h7 h9).mono fun _ _ ⟨u5, u6, u7, u9, he, hf, hb⟩ => ⟨u5, u6, u7, u9, he, ⟨hf.g.rd, hf.o.rd, hf.r.rd, hf.l.rd⟩, hb⟩
end Go.Proofs.YtmglhlfjddgllaaDoor
