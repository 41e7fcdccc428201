/- params.Read: versions. -/
import Derived.Test.YtefcjggmlhoebaaDoorPRd4
namespace Go.Proofs.YtefcjggmlhoebaaDoor
open Go Go.RowKit

theorem info3p : (Tryd.prog.info? 3).map (fun i => (i.zero, i.size, i.bytes)) = some (some (.int .i64 0), 1, 8) := by kernel_rfl
theorem info_row3p : ∃ i, Tryd.prog.info? 3 = some i ∧ i.zero = some (.int .i64 0) ∧ i.size = 1 ∧ i.bytes = 8 := info_parts info3p
theorem run_onep {w : World} {base : Nat} {v : Value} {n : Nat} {xs : List Int} (hown : w.ownsRow base 3 1 v n (xs.map (Value.int .i64))) (g : Nat) (y : Int) (hc : w.cell? ⟨g, 0, none⟩ = some (.int .i64 y)) (hn : n ≤ 1000000) (hbase : base ≤ w.heap.size) :
    ∃ v' w', (Builtin.append_ #[73, 73] 73 #[v, .slice (some ⟨g, 0, none⟩) 1 1]).run Tryd.prog w = .ok v' w' ∧ w'.ownsRow base 3 1 v' (n + 1) ((xs ++ [y]).map (Value.int .i64)) ∧ w.grownBy w' v.ownBlock := by
  obtain ⟨i, hi, hz0, hz1, hz2⟩ := info_row3p
  obtain ⟨v', w', h1, h2, h3, _⟩ := run_append_own (P := Tryd.prog) w base 73 73 3 i (.int .i64 0) 1 8 Tryd.underlying73 hi hz0 hz1 hz2 rfl (by decide) v n _ hown ⟨g, 0, none⟩ 1 1 [.int .i64 y] rfl (by
    intro j u hu
    have hj : j = 0 := by
      have := (List.getElem?_eq_some_iff.1 hu).1
      simp at this
      omega
    subst hj
    simp at hu
    subst hu
    exact hc) (by
    intro u hu
    simp at hu
    subst hu
    rfl) (by unfold maxLen; omega) (by omega) hbase
  exact ⟨v', w', h1, by rw [List.map_append]; exact h2, h3⟩

theorem step_run_ok {w w' : World} {ops : Array Oper} {o : Oper} {a : Act} {K : Act → World → Prop} {Q : Exit → Act → World → Prop} {E : Prop} (s x : Operand) (t : TypeId) {sv xv v' : Value} (hgd : o.guard = none)
    (ho : o.op = .call { callee := .builtin .append, args := #[s, x], argTypes := #[t, t] }) (hs : a.eval s = sv) (hx : a.eval x = xv) (hr : (Builtin.append_ #[t, t] o.type #[sv, xv]).run Tryd.prog w = .ok v' w') (h : K (a.put o.dst v') w') :
    if Region.wanted o (yielded ops a.tmps) = true then Oper.wp Tryd.prog o a w K Q else E := by
  have hw : Region.wanted o (yielded ops a.tmps) = true := by simp [Region.wanted, hgd]
  rw [if_pos hw]
  unfold Oper.wp execOp
  simp only [ho, resolve, invoke, builtin, Sem.run_bind, Sem.run_pure, Result.andThen_ok, List.map_toArray, List.map_cons, List.map_nil, hs, hx, hr]
  exact h
theorem by4_ge {v : List Int} (h : 4 ≤ v.length) : by4 v = (by4 (v.drop 4)).map (bigv (v.take 4) 0 :: ·) := by
  match v, h with
  | a :: b :: c :: d :: r, _ => simp [by4]
theorem by4_few {v : List Int} (h0 : 0 < v.length) (h : v.length < 4) : by4 v = none := by
  match v, h0, h with
  | [a], _, _ => rfl
  | [a, b], _, _ => rfl
  | [a, b, c], _, _ => rfl
  | a :: b :: c :: d :: r, _, h => simp at h; omega
theorem own_but {w w' : World} {D base : Nat} {e : TypeId} {size : Nat} {v : Value} {n : Nat} {xs : List Value} (h : w.ownsRow base e size v n xs) (hb : But D w w') (hD : D < base) : w'.ownsRow base e size v n xs := by
  obtain ⟨h1, h2⟩ := h
  refine ⟨h1, ?_⟩
  rcases h2 with h2 | ⟨g, cap, cur, hv, hg, hh, r⟩
  · exact .inl h2
  · exact .inr ⟨g, cap, cur, hv, hg, by rw [hb.block g (Array.getElem?_eq_some_iff.1 hh).1 (by omega)]; exact hh, r⟩
theorem ri_own {w : World} {base : Nat} {v : Value} {xs : List Int} (h : w.ownsRow base 3 1 v xs.length (xs.map (Value.int .i64))) : Ri w v xs := by
  have hcell := fun g (hg : v.ownBlock = some g) => World.ownsRow.cells h hg
  rcases h.2 with ⟨rfl, h0⟩ | ⟨g, cap, cur, rfl, _, hh, h1, h2, h3, h4⟩
  · have : xs = [] := List.eq_nil_of_length_eq_zero h0
    subst this; exact Ri.nil w
  · refine ⟨some ⟨g, 0, none⟩, cap, rfl, h1, h2, (fun h => by cases h), fun a ha j hj => ?_⟩
    cases ha
    exact hcell g rfl j _ (by simp [hj])

theorem KqP.bel {R D : Nat} {w w1 w3 : World} (h : KqP R D w w1) (hb : Below w.heap.size w1 w3) : KqP R D w w3 :=
  ⟨hb.os.trans h.os, hb.tape.trans h.tape, hb.output.trans h.output, Nat.le_trans h.size hb.size, fun k hk hn hm => (hb.block k hk).trans (h.block k hk hn hm)⟩
theorem ria_own {w : World} {base : Nat} {v : Value} {xs : List Int} (h : w.ownsRow base 3 1 v xs.length (xs.map (Value.int .i64))) : RiA base w v xs := by
  refine ⟨ri_own h, fun a n c e _ => ?_⟩
  rcases h.2 with ⟨rfl, _⟩ | ⟨g, cap, cur, rfl, hg, _⟩
  · cases e
  · cases e; exact hg
/-- Where versions stands: the first one c and what is done are taken, rest is left of the body. -/
structure Vs (w wr : World) (R B D : Nat) (p : Pv) (v5 v6 v7 : Value) (v : List Int) (c : Int) (done rest : List Int) (v9 : Value) : Prop where
  box : wr.heap[R]? = some (.cells (rCells B (.pointer (some ⟨D, 0, none⟩)) { p with c := c } v5 v6 v7 v9) 102 (0, 0))
  own : wr.ownsRow w.heap.size 3 1 v9 done.length (done.map (Value.int .i64))
  dq : Dq wr D rest
  kqP : KqP R D w wr
  byf : by4 v = (by4 rest).map fun l => c :: (done ++ l)
  len : 4 * done.length + rest.length ≤ 1000000
theorem Vs.noB {w wr : World} {R B D : Nat} {p : Pv} {v5 v6 v7 v9 : Value} {v done rest : List Int} {c : Int} (h : Vs w wr R B D p v5 v6 v7 v c done rest v9) (h5 : Rd w v5 p.g) (h6 : Rd w v6 p.o) (h7 : Rd w v7 p.r) : NoB wr R := by
  refine noB_cells h.box ?_
  obtain ⟨_, _, rfl⟩ := h5.shape
  obtain ⟨_, _, rfl⟩ := h6.shape
  obtain ⟨_, _, rfl⟩ := h7.shape
  obtain ⟨_, _, rfl⟩ := own_shape h.own
  intro v hv x
  simp only [rCells, List.mem_cons, List.not_mem_nil, or_false] at hv
  rcases hv with rfl | rfl | rfl | rfl | rfl | rfl | rfl | rfl | rfl | rfl | rfl | rfl <;> simp
theorem Vs.cells {w wr : World} {R B D : Nat} {p : Pv} {v5 v6 v7 v9 : Value} {v done rest : List Int} {c : Int} (h : Vs w wr R B D p v5 v6 v7 v c done rest v9) :
    wr.cell? ⟨R, 1, none⟩ = some (.pointer (some ⟨D, 0, none⟩)) ∧ wr.cell? ⟨R, 11, none⟩ = some v9 ∧ (∀ j, wr.frozen? ⟨R, j, none⟩ = false) :=
  ⟨(cell_of_row _ R 1 _ _ (0, 0) h.box).trans rfl, (cell_of_row _ R 11 _ _ (0, 0) h.box).trans rfl, fun j => by simp [World.frozen?, h.box]⟩
/-- One more is cut off: what holds behind the call, ahead of the append. -/
theorem Vs.fixed {w wr w1 : World} {R B D : Nat} {p : Pv} {v5 v6 v7 v9 : Value} {v done rest : List Int} {c : Int} (h : Vs w wr R B D p v5 v6 v7 v c done rest v9) (hR : R < D) (hD : D < w.heap.size) (hb : But D wr w1) :
    w1.heap[R]? = some (.cells (rCells B (.pointer (some ⟨D, 0, none⟩)) { p with c := c } v5 v6 v7 v9) 102 (0, 0)) ∧ w1.ownsRow w.heap.size 3 1 v9 done.length (done.map (Value.int .i64)) ∧ KqP R D w w1 :=
  ⟨by rw [hb.block R (Array.getElem?_eq_some_iff.1 h.box).1 (by omega)]; exact h.box, own_but h.own hb hD, h.kqP.trans (KqP.r hb)⟩
/-- And laid into the box. -/
theorem Vs.step {w wr w1 w3 : World} {R B D : Nat} {p : Pv} {v5 v6 v7 v9 u9 : Value} {v done rest : List Int} {c : Int} (h : Vs w wr R B D p v5 v6 v7 v c done rest v9) (h5 : Rd w v5 p.g) (h6 : Rd w v6 p.o) (h7 : Rd w v7 p.r) (hR : R < D) (hD : D < w.heap.size) (hl : 4 ≤ rest.length)
    (hb : But D wr w1) (hd : Dq w1 D (rest.drop 4)) (hb3 : Below w.heap.size w1 w3) (ho : w3.ownsRow w.heap.size 3 1 u9 (done.length + 1) ((done ++ [bigv (rest.take 4) 0]).map (Value.int .i64))) :
    Vs w (w3.setCell ⟨R, 11, none⟩ u9) R B D p v5 v6 v7 v c (done ++ [bigv (rest.take 4) 0]) (rest.drop 4) u9 := by
  obtain ⟨f1, f2, f3⟩ := h.fixed hR hD hb
  have hs1 : w.heap.size ≤ w1.heap.size := f3.size
  have f4 : w3.heap[R]? = some (.cells (rCells B (.pointer (some ⟨D, 0, none⟩)) { p with c := c } v5 v6 v7 v9) 102 (0, 0)) := by rw [hb3.block R (by omega)]; exact f1
  have hn3 : NoB w3 R := by
    refine noB_cells f4 ?_
    obtain ⟨_, _, rfl⟩ := h5.shape
    obtain ⟨_, _, rfl⟩ := h6.shape
    obtain ⟨_, _, rfl⟩ := h7.shape
    obtain ⟨_, _, rfl⟩ := own_shape h.own
    intro v hv x
    simp only [rCells, List.mem_cons, List.not_mem_nil, or_false] at hv
    rcases hv with rfl | rfl | rfl | rfl | rfl | rfl | rfl | rfl | rfl | rfl | rfl | rfl <;> simp
  have hd3 : Dq w3 D (rest.drop 4) := by
    obtain ⟨w0, t, hs, hF⟩ := hd
    obtain ⟨rv, hx, hr, hp⟩ := hF.box
    refine ⟨w0, t, hs, ⟨⟨hb3.os.trans hF.bel.os, hb3.tape.trans hF.bel.tape, hb3.output.trans hF.bel.output, Nat.le_trans hF.bel.size hb3.size, fun k hk => (hb3.block k (by omega)).trans (hF.bel.block k hk)⟩, hF.lo, hF.sum, rv, ?_, hr, hp⟩⟩
    rw [hb3.block D hD]; exact hx
  have hset := heap_setCell_same w3 R 11 _ 102 u9 f4
  refine ⟨hset, ?_, hd3.set hn3 hR 11 _, (f3.bel hb3).trans (KqP.l (But.set w3 R 11 _)), ?_, ?_⟩
  · rw [show (done ++ [bigv (rest.take 4) 0]).length = done.length + 1 from by simp]
    exact own_set ho (by omega) 11 u9
  · rw [h.byf, by4_ge hl]
    cases by4 (rest.drop 4) <;> simp
  · have := h.len; simp; omega
/-- How many elements the slice in the first cell of a block has. -/
def leftW (w : World) (D : Nat) : Nat := match w.cell? ⟨D, 0, none⟩ with | some (.slice _ n _) => n | _ => 0
theorem Fq.leftW {w0 w : World} {D : Nat} {rest : List Int} {t : Nat} {short : Int} (h : Fq w0 w D rest t short) : leftW w D = rest.length := by
  obtain ⟨ao, cap, _, c0, _, _⟩ := h.cells
  unfold Proofs.YtefcjggmlhoebaaDoor.leftW
  rw [c0]
theorem Dq.leftW {w : World} {D : Nat} {rest : List Int} (h : Dq w D rest) : leftW w D = rest.length := by obtain ⟨_, _, _, h⟩ := h; exact h.leftW

set_option maxRecDepth 20000 in
set_option maxHeartbeats 4000000 in
theorem does_versions (w : World) (R B D : Nat) (p : Pv) (v5 v6 v7 : Value) (v : List Int) (h : Rq w R B (.pointer (some ⟨D, 0, none⟩)) p v5 v6 v7 (.slice none 0 0)) (hR : R < D) (_ : p.l = []) (hd : Dq w D v) :
    Calls Tryd.prog 98 #[.pointer (some ⟨R, 0, none⟩)] w (Tkd 17 v w R B D p) := by
  have HD := Lib.hid hd.noB
  have HH := Lib.hid h
  have hlt := hd.lt
  have hlen := hd.len
  obtain ⟨c0, c1, c2, c3, c4, c5, c6, c7, c8, c9, c10, c11, cf⟩ := h.cells
  by_cases h4 : v.length < 4
  · obtain ⟨w0, t, hs, hF⟩ := hd
    have hn := fixed_e hF 4 (by omega)
    have HP : Hid (putP p 17 v = none) := Lib.hid (by
      cases v with
      | nil => simp [putP, by4]
      | cons a r => simp [putP, by4_few (v := a :: r) (by simp) h4])
    clear hF h c0 c2 c3 c4 c5 c6 c7 c8 c9 c11
    go_enter Tryd.func98, Tryd.ntmps98
    go_wp2_with (go_at_call 60; refine hn.mono ?_; rintro e w1 ⟨he, hb1⟩; rw [errPanic] at he; subst he)
    exact ⟨rfl, .inl ⟨rfl, KqP.r hb1, HP.out⟩⟩
  · have h5 := h.g
    have h6 := h.o
    have h7 := h.r
    have HV : Hid (∀ w1, But D w w1 → Dq w1 D (v.drop 4) → Vs w (w1.setCell ⟨R, 10, none⟩ (.int .i64 (bigv (v.take 4) 0))) R B D p v5 v6 v7 v (bigv (v.take 4) 0) [] (v.drop 4) (.slice none 0 0)) := Lib.hid (by
      intro w1 hb hd1
      have h1 := h.keep hb hd.noB (by omega)
      have e1 := rset h1 10 (.int .i64 (bigv (v.take 4) 0))
      refine ⟨e1, ⟨rfl, .inl ⟨rfl, rfl⟩⟩, hd1.set h1.noB hR 10 _, (KqP.r hb).trans (KqP.l (But.set w1 R 10 _)), ?_, by simp; omega⟩
      rw [by4_ge (by omega)]; simp)
    obtain ⟨w0, t, hs, hF⟩ := hd
    have hn := fixed_q hF 4 (by omega) (by omega) (by omega)
    have HS := Lib.hid hs
    have HR := Lib.hid hR
    have H5 := Lib.hid h5
    have H6 := Lib.hid h6
    have H7 := Lib.hid h7
    obtain ⟨a5, k5, rfl⟩ := h5.shape
    obtain ⟨a6, k6, rfl⟩ := h6.shape
    obtain ⟨a7, k7, rfl⟩ := h7.shape
    clear hF h h5 h6 h7 c0 c2 c3 c4 c5 c6 c7 c8 c9 c11 hs
    go_enter Tryd.func98, Tryd.ntmps98
    go_wp2_with (go_at_call 60; refine hn.mono ?_; rintro e w1 ⟨rfl, hd1, hb1⟩; have h1 := HH.out.keep hb1 HD.out (by omega); obtain ⟨_, c1, _, _, _, _, _, _, _, _, c10, _, cf⟩ := h1.cells)
    have hv := HV.out w1 hb1 ⟨w0, _, HS.out, hd1⟩
    clear hn hb1 hd1 h1 c1 c10 cf
    go_loopw [] (fun wr => ∃ done rest v9, Vs w wr R B D p (.slice a5 p.g.length k5) (.slice a6 p.o.length k6) (.slice a7 p.r.length k7) v (bigv (v.take 4) 0) done rest v9) (fun wr => leftW wr D)
    case atStart => exact ⟨_, _, _, hv⟩
    case round =>
      obtain ⟨done, rest, v9, hv⟩ := hrel
      clear c1 c10 cf
      obtain ⟨c1, c11, cf⟩ := hv.cells
      have HW := Lib.hid hv
      obtain ⟨w2, t2, hs2, hF⟩ := hv.dq
      have hleft := left_q hF
      have HS2 := Lib.hid hs2
      clear hv hs2
      by_cases hz : rest.length = 0
      · obtain rfl := List.eq_nil_of_length_eq_zero hz
        clear hF hz
        go_wp2_with (go_at_call 62; refine hleft.mono ?_; rintro e w3 ⟨rfl, rfl⟩)
        go_end0
        have hv := HW.out
        have hn := hv.noB H5.out H6.out H7.out
        have hk : ∀ {u : Value} {zs : List Int}, Rd w u zs → Rd wr u zs := fun h => h.kqP hv.kqP HH.out.noB HD.out
        refine .inr ⟨{ p with c := bigv (v.take 4) 0, l := done }, .slice a5 p.g.length k5, .slice a6 p.o.length k6, .slice a7 p.r.length k7, v9, [], rfl, ⟨hv.box, hk H5.out, hk H6.out, hk H7.out, ?_, ⟨_, rfl⟩⟩, hv.dq, hv.kqP, ria_own hv.own, fun h => absurd h (by decide), fun _ => ?_, fun h => absurd rfl h⟩
        · obtain ⟨_, _, e⟩ := own_shape hv.own; exact ⟨_, _, _, e⟩
        · have hb := hv.byf
          simp only [by4, Option.map_some, List.append_nil] at hb
          simp [putP, hb]
      · have hpos : 0 < rest.length := by omega
        by_cases hf : rest.length < 4
        · have hn := fixed_e hF.drew 4 (by omega)
          clear hF hz
          go_wp2_with (go_at_call 62; refine hleft.mono ?_; rintro e w3 ⟨rfl, rfl⟩)
          go_region_dies
          all_goals go_wp2_with (go_at_call 60; refine hn.mono ?_; rintro e w4 ⟨he, hb1⟩; rw [errPanic] at he; subst he)
          all_goals
            have hv := HW.out
            have hb := hv.byf
            rw [by4_few hpos hf] at hb
            exact ⟨rfl, .inl ⟨rfl, hv.kqP.trans (KqP.r (((But.refl D wr).drew).trans hb1)), by simp [putP, hb]⟩⟩
        · have hn := fixed_q hF.drew 4 (by omega) (by omega) (by omega)
          have hFb := hF.leftW
          clear hF hz
          go_wp2_with (go_at_call 62; refine hleft.mono ?_; rintro e w3 ⟨rfl, rfl⟩)
          have hO : ∀ w4, But D wr.drew w4 → w4.ownsRow w.heap.size 3 1 v9 done.length (done.map (Value.int .i64)) ∧ w.heap.size ≤ w4.heap.size ∧ w4.cell? ⟨R, 11, none⟩ = some v9 ∧ (∀ j, w4.frozen? ⟨R, j, none⟩ = false) ∧ w4.cell? ⟨R, 1, none⟩ = some (.pointer (some ⟨D, 0, none⟩)) ∧
              (w4.alloc (.cells #[.int .i64 (bigv (rest.take 4) 0)] 3)).cell? ⟨R, 1, none⟩ = some (.pointer (some ⟨D, 0, none⟩)) ∧ (w4.alloc (.cells #[.int .i64 (bigv (rest.take 4) 0)] 3)).cell? ⟨R, 11, none⟩ = some v9 := fun w4 hb4 => by
            obtain ⟨f1, f2, f3⟩ := HW.out.fixed hR hlt (((But.refl D wr).drew).trans hb4)
            have f1' := f1
            rw [← (below_alloc w4 (.cells #[.int .i64 (bigv (rest.take 4) 0)] 3)).block R (by have := f3.size; omega)] at f1'
            exact ⟨f2, f3.size, (cell_of_row _ R 11 _ _ (0, 0) f1).trans rfl, fun j => by simp [World.frozen?, f1], (cell_of_row _ R 1 _ _ (0, 0) f1).trans rfl, (cell_of_row _ R 1 _ _ (0, 0) f1').trans rfl, (cell_of_row _ R 11 _ _ (0, 0) f1').trans rfl⟩
          have hdl : done.length ≤ 1000000 := by have := HW.out.len; omega
          have HK : Hid (∀ w4 w5 u9, But D wr.drew w4 → Fq w2 w4 D (rest.drop 4) (t2 + 4) 3 → Below w.heap.size w4 w5 → w5.ownsRow w.heap.size 3 1 u9 (done.length + 1) ((done ++ [bigv (rest.take 4) 0]).map (Value.int .i64)) → Vs w (w5.setCell ⟨R, 11, none⟩ u9) R B D p (.slice a5 p.g.length k5) (.slice a6 p.o.length k6) (.slice a7 p.r.length k7) v (bigv (v.take 4) 0) (done ++ [bigv (rest.take 4) 0]) (rest.drop 4) u9) :=
            Lib.hid fun w4 w5 u9 hb4 hd4 hb5 ho5 => HW.out.step H5.out H6.out H7.out hR hlt (by omega) (((But.refl D wr).drew).trans hb4) ⟨w2, _, HS2.out, hd4⟩ hb5 ho5
          obtain ⟨a9, k9, rfl⟩ := own_shape HW.out.own
          generalize bigv (rest.take 4) 0 = X at hn hO HK
          have hY : ∀ w4, But D wr.drew w4 → ∃ a5 k5 w5, (Builtin.append_ #[73, 73] 73 #[.slice a9 done.length k9, .slice (some ⟨w4.heap.size, 0, none⟩) 1 1]).run Tryd.prog (w4.alloc (.cells #[.int .i64 X] 3)) = .ok (.slice a5 (done.length + 1) k5) w5 ∧ w5.ownsRow w.heap.size 3 1 (.slice a5 (done.length + 1) k5) (done.length + 1) ((done ++ [X]).map (Value.int .i64)) ∧ Below w.heap.size w4 w5 ∧ w5.cell? ⟨R, 11, none⟩ = some (.slice a9 done.length k9) ∧ (∀ j, w5.frozen? ⟨R, j, none⟩ = false) ∧ w5.cell? ⟨R, 1, none⟩ = some (.pointer (some ⟨D, 0, none⟩)) := fun w4 hb4 => by
            obtain ⟨f2, f3, f4, f5, _⟩ := hO w4 hb4
            obtain ⟨v5, w5, hr5, ho5, hg5⟩ := run_onep (World.ownsRow.alloc f2 (.cells #[.int .i64 X] 3)) w4.heap.size X (by simp [go_sem]) hdl (by simp; omega)
            obtain ⟨a5, k5, rfl⟩ := own_shape ho5
            have hb5 : Below w.heap.size w4 w5 := ((below_alloc w4 _).mono f3).trans (below_own (World.ownsRow.alloc f2 (.cells #[.int .i64 X] 3)) (by simp; omega) hg5)
            obtain ⟨f1, _, _⟩ := HW.out.fixed hR hlt (((But.refl D wr).drew).trans hb4)
            have f1' := f1
            rw [← hb5.block R (by omega)] at f1'
            exact ⟨a5, k5, w5, hr5, ho5, hb5, (cell_of_row _ R 11 _ _ (0, 0) f1').trans rfl, (fun j => by simp [World.frozen?, f1']), (cell_of_row _ R 1 _ _ (0, 0) f1').trans rfl⟩
          refine wp_region_held_drew (S := fun w' => w'.cell? ⟨R, 1, none⟩ = some (.pointer (some ⟨D, 0, none⟩))) (by kernel_rfl) c1 (fun _ => ?_)
          refine wpAnyH_take (i := 0) (oi := { dst := some 17, op := Op.move (Operand.tmp 0), type := 109, pos := "reader.go:61", after := #[], guard := none }) (v := ?_) rfl (by kernel_rfl) (by kernel_rfl) (by kernel_rfl) (fun _ _ _ h => h) (Or.inl ⟨by rfl, ?_⟩) (by exact c1) ?_
          rotate_left
          · intro w hSw; (try dsimp only at hSw); go_simp; try (with_reducible rfl)
          repeat (first | simp only [Act.put] | simp only [List.setIfInBounds_toArray] | simp only [List.set_cons_zero] | simp only [List.set_cons_succ])
          refine wpAnyH_take (i := 1) (oi := { dst := some 18, op := Op.move (Operand.tmp 0), type := 109, pos := "reader.go:61", after := #[], guard := none }) (v := ?_) rfl (by kernel_rfl) (by kernel_rfl) (by kernel_rfl) (fun _ _ _ h => h) (Or.inl ⟨by rfl, ?_⟩) (by exact c1) ?_
          rotate_left
          · intro w hSw; (try dsimp only at hSw); go_simp; try (with_reducible rfl)
          repeat (first | simp only [Act.put] | simp only [List.setIfInBounds_toArray] | simp only [List.set_cons_zero] | simp only [List.set_cons_succ])
          refine wpAnyH_take (i := 2) (oi := { dst := some 19, op := Op.nilCheck (Operand.tmp 18), type := 0, pos := "reader.go:61", after := #[{ on := 1, ground := Ground.data }], guard := none }) (v := ?_) rfl (by kernel_rfl) (by kernel_rfl) (by kernel_rfl) (fun _ _ _ h => h) (Or.inl ⟨by rfl, ?_⟩) (by exact c1) ?_
          rotate_left
          · intro w hSw; (try dsimp only at hSw); go_simp; try (with_reducible rfl)
          repeat (first | simp only [Act.put] | simp only [List.setIfInBounds_toArray] | simp only [List.set_cons_zero] | simp only [List.set_cons_succ])
          refine wpAnyH_take (i := 3) (oi := { dst := some 20, op := Op.fieldAddr 102 (Operand.tmp 19) 2, type := 0, pos := "reader.go:61", after := #[{ on := 2, ground := Ground.data }], guard := none }) (v := ?_) rfl (by kernel_rfl) (by kernel_rfl) (by kernel_rfl) (fun _ _ _ h => h) (Or.inl ⟨by rfl, ?_⟩) (by exact c1) ?_
          rotate_left
          · intro w hSw; (try dsimp only at hSw); go_simp; try (with_reducible rfl)
          repeat (first | simp only [Act.put] | simp only [List.setIfInBounds_toArray] | simp only [List.set_cons_zero] | simp only [List.set_cons_succ])
          refine wpAnyH_take (i := 4) (oi := { dst := some 21, op := Op.fieldAddr 79 (Operand.tmp 20) 9, type := 0, pos := "reader.go:61", after := #[{ on := 3, ground := Ground.data }], guard := none }) (v := ?_) rfl (by kernel_rfl) (by kernel_rfl) (by kernel_rfl) (fun _ _ _ h => h) (Or.inl ⟨by rfl, ?_⟩) (by exact c1) ?_
          rotate_left
          · intro w hSw; (try dsimp only at hSw); go_simp; try (with_reducible rfl)
          repeat (first | simp only [Act.put] | simp only [List.setIfInBounds_toArray] | simp only [List.set_cons_zero] | simp only [List.set_cons_succ])
          refine wpAnyH_take (i := 6) (oi := { dst := some 23, op := Op.move (Operand.tmp 0), type := 109, pos := "reader.go:61", after := #[], guard := none }) (v := ?_) rfl (by kernel_rfl) (by kernel_rfl) (by kernel_rfl) (fun _ _ _ h => h) (Or.inl ⟨by rfl, ?_⟩) (by exact c1) ?_
          rotate_left
          · intro w hSw; (try dsimp only at hSw); go_simp; try (with_reducible rfl)
          repeat (first | simp only [Act.put] | simp only [List.setIfInBounds_toArray] | simp only [List.set_cons_zero] | simp only [List.set_cons_succ])
          refine wpAnyH_take (i := 7) (oi := { dst := some 24, op := Op.nilCheck (Operand.tmp 23), type := 0, pos := "reader.go:61", after := #[{ on := 6, ground := Ground.data }], guard := none }) (v := ?_) rfl (by kernel_rfl) (by kernel_rfl) (by kernel_rfl) (fun _ _ _ h => h) (Or.inl ⟨by rfl, ?_⟩) (by exact c1) ?_
          rotate_left
          · intro w hSw; (try dsimp only at hSw); go_simp; try (with_reducible rfl)
          repeat (first | simp only [Act.put] | simp only [List.setIfInBounds_toArray] | simp only [List.set_cons_zero] | simp only [List.set_cons_succ])
          refine wpAnyH_take (i := 8) (oi := { dst := some 25, op := Op.fieldAddr 102 (Operand.tmp 24) 1, type := 0, pos := "reader.go:61", after := #[{ on := 7, ground := Ground.data }], guard := none }) (v := ?_) rfl (by kernel_rfl) (by kernel_rfl) (by kernel_rfl) (fun _ _ _ h => h) (Or.inl ⟨by rfl, ?_⟩) (by exact c1) ?_
          rotate_left
          · intro w hSw; (try dsimp only at hSw); go_simp; try (with_reducible rfl)
          repeat (first | simp only [Act.put] | simp only [List.setIfInBounds_toArray] | simp only [List.set_cons_zero] | simp only [List.set_cons_succ])
          refine wpAnyH_take (i := 9) (oi := { dst := some 26, op := Op.load 56 (Operand.tmp 25), type := 56, pos := "reader.go:61", after := #[{ on := 8, ground := Ground.data }], guard := none }) (v := ?_) rfl (by kernel_rfl) (by kernel_rfl) (by kernel_rfl) (fun _ _ _ h => h) (Or.inl ⟨by rfl, ?_⟩) (by exact c1) ?_
          rotate_left
          · intro w hSw; (try dsimp only at hSw); go_simp; try (with_reducible rfl)
          repeat (first | simp only [Act.put] | simp only [List.setIfInBounds_toArray] | simp only [List.set_cons_zero] | simp only [List.set_cons_succ])
          refine wpAnyH_ready (rs := [5, 10]) (by kernel_rfl) (by simp) ?_
          refine AllReadyH.cons (o := { dst := some 22, op := Op.load 73 (Operand.tmp 21), type := 73, pos := "reader.go:61", after := #[{ on := 4, ground := Ground.data }], guard := none }) rfl (fun K hK => ?_) (AllReadyH.cons (o := { dst := some 27, op := Op.call { callee := Callee.value (Operand.func 60), args := #[Operand.tmp 26, Operand.const (Value.int IntKind.i64 4)], argTypes := #[56, 3] }, type := 3, pos := "reader.go:61", after := #[{ on := 9, ground := Ground.data }], guard := none }) rfl (fun K hK => ?_) AllReadyH.nil)
          · go_simp
            refine hK.out _ _ c1 (fun _ => ?_)
            clear hK K
            repeat (first | simp only [Act.put] | simp only [List.setIfInBounds_toArray] | simp only [List.set_cons_zero] | simp only [List.set_cons_succ])
            refine wpAnyH_ready (rs := [10]) (by kernel_rfl) (by simp) ?_
            refine AllReadyH.cons (o := { dst := some 27, op := Op.call { callee := Callee.value (Operand.func 60), args := #[Operand.tmp 26, Operand.const (Value.int IntKind.i64 4)], argTypes := #[56, 3] }, type := 3, pos := "reader.go:61", after := #[{ on := 9, ground := Ground.data }], guard := none }) rfl (fun K hK => ?_) AllReadyH.nil
            go_simp
            refine hn.mono ?_
            rintro e w4 ⟨rfl, hd4, hb4⟩
            obtain ⟨f2, f3, f4, f5, f6, f7, f8⟩ := hO w4 hb4
            obtain ⟨b5, m5, w5, hr5, ho5, hb5, g5, g6, g7⟩ := hY w4 hb4
            have hk5 := HK.out w4 w5 _ hb4 hd4 hb5 ho5
            refine hK.out _ _ f6 (fun _ => ?_)
            clear hK K
            repeat (first | simp only [Act.put] | simp only [List.setIfInBounds_toArray] | simp only [List.set_cons_zero] | simp only [List.set_cons_succ])
            refine wpAnyH_ready (rs := [11]) (by kernel_rfl) (by simp) ?_
            refine AllReadyH.cons (o := { dst := some 28, op := Op.buildSlice 73 1 #[(0, Operand.tmp 27)], type := 73, pos := "reader.go:61", after := #[{ on := 10, ground := Ground.data }], guard := none }) rfl (fun K hK => ?_) AllReadyH.nil
            go_simp
            refine hK.out _ _ f7 (fun _ => ?_)
            clear hK K
            repeat (first | simp only [Act.put] | simp only [List.setIfInBounds_toArray] | simp only [List.set_cons_zero] | simp only [List.set_cons_succ])
            refine wpAnyH_ready (rs := [12]) (by kernel_rfl) (by simp) ?_
            refine AllReadyH.cons (o := { dst := some 29, op := Op.call { callee := Callee.builtin Builtin.append, args := #[Operand.tmp 22, Operand.tmp 28], argTypes := #[73, 73] }, type := 73, pos := "reader.go:61", after := #[{ on := 5, ground := Ground.data }, { on := 11, ground := Ground.data }, { on := 10, ground := Ground.chain }], guard := none }) rfl (fun K hK => ?_) AllReadyH.nil
            refine step_run_ok (.tmp 22) (.tmp 28) _ rfl rfl (by rfl) (by rfl) hr5 ?_
            refine hK.out _ _ g7 (fun _ => ?_)
            clear hK K
            repeat (first | simp only [Act.put] | simp only [List.setIfInBounds_toArray] | simp only [List.set_cons_zero] | simp only [List.set_cons_succ])
            refine wpAnyH_take (i := 13) (oi := { dst := some 30, op := Op.nilCheck (Operand.tmp 17), type := 0, pos := "reader.go:61", after := #[{ on := 0, ground := Ground.data }, { on := 0, ground := Ground.phase }, { on := 1, ground := Ground.phase }, { on := 2, ground := Ground.phase }, { on := 3, ground := Ground.phase }, { on := 4, ground := Ground.phase }, { on := 5, ground := Ground.phase }, { on := 6, ground := Ground.phase }, { on := 7, ground := Ground.phase }, { on := 8, ground := Ground.phase }, { on := 9, ground := Ground.phase }, { on := 10, ground := Ground.phase }, { on := 11, ground := Ground.phase }, { on := 12, ground := Ground.phase }], guard := none }) (v := ?_) rfl (by kernel_rfl) (by kernel_rfl) (by kernel_rfl) (fun _ _ _ h => h) (Or.inl ⟨by rfl, ?_⟩) g7 ?_
            rotate_left
            · intro w _; go_simp; try (with_reducible rfl)
            repeat (first | simp only [Act.put] | simp only [List.setIfInBounds_toArray] | simp only [List.set_cons_zero] | simp only [List.set_cons_succ])
            refine wpAnyH_take (i := 14) (oi := { dst := some 31, op := Op.fieldAddr 102 (Operand.tmp 30) 2, type := 0, pos := "reader.go:61", after := #[{ on := 13, ground := Ground.data }, { on := 0, ground := Ground.phase }, { on := 1, ground := Ground.phase }, { on := 2, ground := Ground.phase }, { on := 3, ground := Ground.phase }, { on := 4, ground := Ground.phase }, { on := 5, ground := Ground.phase }, { on := 6, ground := Ground.phase }, { on := 7, ground := Ground.phase }, { on := 8, ground := Ground.phase }, { on := 9, ground := Ground.phase }, { on := 10, ground := Ground.phase }, { on := 11, ground := Ground.phase }, { on := 12, ground := Ground.phase }], guard := none }) (v := ?_) rfl (by kernel_rfl) (by kernel_rfl) (by kernel_rfl) (fun _ _ _ h => h) (Or.inl ⟨by rfl, ?_⟩) g7 ?_
            rotate_left
            · intro w _; go_simp; try (with_reducible rfl)
            repeat (first | simp only [Act.put] | simp only [List.setIfInBounds_toArray] | simp only [List.set_cons_zero] | simp only [List.set_cons_succ])
            refine wpAnyH_take (i := 15) (oi := { dst := some 32, op := Op.fieldAddr 79 (Operand.tmp 31) 9, type := 0, pos := "reader.go:61", after := #[{ on := 14, ground := Ground.data }, { on := 0, ground := Ground.phase }, { on := 1, ground := Ground.phase }, { on := 2, ground := Ground.phase }, { on := 3, ground := Ground.phase }, { on := 4, ground := Ground.phase }, { on := 5, ground := Ground.phase }, { on := 6, ground := Ground.phase }, { on := 7, ground := Ground.phase }, { on := 8, ground := Ground.phase }, { on := 9, ground := Ground.phase }, { on := 10, ground := Ground.phase }, { on := 11, ground := Ground.phase }, { on := 12, ground := Ground.phase }], guard := none }) (v := ?_) rfl (by kernel_rfl) (by kernel_rfl) (by kernel_rfl) (fun _ _ _ h => h) (Or.inl ⟨by rfl, ?_⟩) g7 ?_
            rotate_left
            · intro w _; go_simp; try (with_reducible rfl)
            repeat (first | simp only [Act.put] | simp only [List.setIfInBounds_toArray] | simp only [List.set_cons_zero] | simp only [List.set_cons_succ])
            refine wpAnyH_ready (rs := [16]) (by kernel_rfl) (by simp) ?_
            refine AllReadyH.cons (o := { dst := none, op := Op.store 73 (Operand.tmp 32) (Operand.tmp 29), type := 0, pos := "reader.go:61", after := #[{ on := 15, ground := Ground.data }, { on := 12, ground := Ground.data }, { on := 12, ground := Ground.chain }, { on := 0, ground := Ground.phase }, { on := 1, ground := Ground.phase }, { on := 2, ground := Ground.phase }, { on := 3, ground := Ground.phase }, { on := 4, ground := Ground.phase }, { on := 5, ground := Ground.phase }, { on := 6, ground := Ground.phase }, { on := 7, ground := Ground.phase }, { on := 8, ground := Ground.phase }, { on := 9, ground := Ground.phase }, { on := 10, ground := Ground.phase }, { on := 11, ground := Ground.phase }, { on := 12, ground := Ground.phase }], guard := none }) rfl (fun K hK => ?_) AllReadyH.nil
            go_simp
            refine hK.out _ _ hk5.cells.1 (fun _ => ?_)
            clear hK K
            repeat (first | simp only [Act.put] | simp only [List.setIfInBounds_toArray] | simp only [List.set_cons_zero] | simp only [List.set_cons_succ])
            refine wpAnyH_done (by kernel_rfl) ?_ _
            go_wp2_with fail
            go_round
            case rel => exact ⟨_, _, _, hk5⟩
            case measure => rw [hk5.dq.leftW, hFb]; simp; omega
          · go_simp
            refine hn.mono ?_
            rintro e w4 ⟨rfl, hd4, hb4⟩
            obtain ⟨f2, f3, f4, f5, f6, f7, f8⟩ := hO w4 hb4
            obtain ⟨b5, m5, w5, hr5, ho5, hb5, g5, g6, g7⟩ := hY w4 hb4
            have hk5 := HK.out w4 w5 _ hb4 hd4 hb5 ho5
            refine hK.out _ _ f6 (fun _ => ?_)
            clear hK K
            repeat (first | simp only [Act.put] | simp only [List.setIfInBounds_toArray] | simp only [List.set_cons_zero] | simp only [List.set_cons_succ])
            refine wpAnyH_ready (rs := [5, 11]) (by kernel_rfl) (by simp) ?_
            refine AllReadyH.cons (o := { dst := some 22, op := Op.load 73 (Operand.tmp 21), type := 73, pos := "reader.go:61", after := #[{ on := 4, ground := Ground.data }], guard := none }) rfl (fun K hK => ?_) (AllReadyH.cons (o := { dst := some 28, op := Op.buildSlice 73 1 #[(0, Operand.tmp 27)], type := 73, pos := "reader.go:61", after := #[{ on := 10, ground := Ground.data }], guard := none }) rfl (fun K hK => ?_) AllReadyH.nil)
            · go_simp
              refine hK.out _ _ f6 (fun _ => ?_)
              clear hK K
              repeat (first | simp only [Act.put] | simp only [List.setIfInBounds_toArray] | simp only [List.set_cons_zero] | simp only [List.set_cons_succ])
              refine wpAnyH_ready (rs := [11]) (by kernel_rfl) (by simp) ?_
              refine AllReadyH.cons (o := { dst := some 28, op := Op.buildSlice 73 1 #[(0, Operand.tmp 27)], type := 73, pos := "reader.go:61", after := #[{ on := 10, ground := Ground.data }], guard := none }) rfl (fun K hK => ?_) AllReadyH.nil
              go_simp
              refine hK.out _ _ f7 (fun _ => ?_)
              clear hK K
              repeat (first | simp only [Act.put] | simp only [List.setIfInBounds_toArray] | simp only [List.set_cons_zero] | simp only [List.set_cons_succ])
              refine wpAnyH_ready (rs := [12]) (by kernel_rfl) (by simp) ?_
              refine AllReadyH.cons (o := { dst := some 29, op := Op.call { callee := Callee.builtin Builtin.append, args := #[Operand.tmp 22, Operand.tmp 28], argTypes := #[73, 73] }, type := 73, pos := "reader.go:61", after := #[{ on := 5, ground := Ground.data }, { on := 11, ground := Ground.data }, { on := 10, ground := Ground.chain }], guard := none }) rfl (fun K hK => ?_) AllReadyH.nil
              refine step_run_ok (.tmp 22) (.tmp 28) _ rfl rfl (by rfl) (by rfl) hr5 ?_
              refine hK.out _ _ g7 (fun _ => ?_)
              clear hK K
              repeat (first | simp only [Act.put] | simp only [List.setIfInBounds_toArray] | simp only [List.set_cons_zero] | simp only [List.set_cons_succ])
              refine wpAnyH_take (i := 13) (oi := { dst := some 30, op := Op.nilCheck (Operand.tmp 17), type := 0, pos := "reader.go:61", after := #[{ on := 0, ground := Ground.data }, { on := 0, ground := Ground.phase }, { on := 1, ground := Ground.phase }, { on := 2, ground := Ground.phase }, { on := 3, ground := Ground.phase }, { on := 4, ground := Ground.phase }, { on := 5, ground := Ground.phase }, { on := 6, ground := Ground.phase }, { on := 7, ground := Ground.phase }, { on := 8, ground := Ground.phase }, { on := 9, ground := Ground.phase }, { on := 10, ground := Ground.phase }, { on := 11, ground := Ground.phase }, { on := 12, ground := Ground.phase }], guard := none }) (v := ?_) rfl (by kernel_rfl) (by kernel_rfl) (by kernel_rfl) (fun _ _ _ h => h) (Or.inl ⟨by rfl, ?_⟩) g7 ?_
              rotate_left
              · intro w _; go_simp; try (with_reducible rfl)
              repeat (first | simp only [Act.put] | simp only [List.setIfInBounds_toArray] | simp only [List.set_cons_zero] | simp only [List.set_cons_succ])
              refine wpAnyH_take (i := 14) (oi := { dst := some 31, op := Op.fieldAddr 102 (Operand.tmp 30) 2, type := 0, pos := "reader.go:61", after := #[{ on := 13, ground := Ground.data }, { on := 0, ground := Ground.phase }, { on := 1, ground := Ground.phase }, { on := 2, ground := Ground.phase }, { on := 3, ground := Ground.phase }, { on := 4, ground := Ground.phase }, { on := 5, ground := Ground.phase }, { on := 6, ground := Ground.phase }, { on := 7, ground := Ground.phase }, { on := 8, ground := Ground.phase }, { on := 9, ground := Ground.phase }, { on := 10, ground := Ground.phase }, { on := 11, ground := Ground.phase }, { on := 12, ground := Ground.phase }], guard := none }) (v := ?_) rfl (by kernel_rfl) (by kernel_rfl) (by kernel_rfl) (fun _ _ _ h => h) (Or.inl ⟨by rfl, ?_⟩) g7 ?_
              rotate_left
              · intro w _; go_simp; try (with_reducible rfl)
              repeat (first | simp only [Act.put] | simp only [List.setIfInBounds_toArray] | simp only [List.set_cons_zero] | simp only [List.set_cons_succ])
              refine wpAnyH_take (i := 15) (oi := { dst := some 32, op := Op.fieldAddr 79 (Operand.tmp 31) 9, type := 0, pos := "reader.go:61", after := #[{ on := 14, ground := Ground.data }, { on := 0, ground := Ground.phase }, { on := 1, ground := Ground.phase }, { on := 2, ground := Ground.phase }, { on := 3, ground := Ground.phase }, { on := 4, ground := Ground.phase }, { on := 5, ground := Ground.phase }, { on := 6, ground := Ground.phase }, { on := 7, ground := Ground.phase }, { on := 8, ground := Ground.phase }, { on := 9, ground := Ground.phase }, { on := 10, ground := Ground.phase }, { on := 11, ground := Ground.phase }, { on := 12, ground := Ground.phase }], guard := none }) (v := ?_) rfl (by kernel_rfl) (by kernel_rfl) (by kernel_rfl) (fun _ _ _ h => h) (Or.inl ⟨by rfl, ?_⟩) g7 ?_
              rotate_left
              · intro w _; go_simp; try (with_reducible rfl)
              repeat (first | simp only [Act.put] | simp only [List.setIfInBounds_toArray] | simp only [List.set_cons_zero] | simp only [List.set_cons_succ])
              refine wpAnyH_ready (rs := [16]) (by kernel_rfl) (by simp) ?_
              refine AllReadyH.cons (o := { dst := none, op := Op.store 73 (Operand.tmp 32) (Operand.tmp 29), type := 0, pos := "reader.go:61", after := #[{ on := 15, ground := Ground.data }, { on := 12, ground := Ground.data }, { on := 12, ground := Ground.chain }, { on := 0, ground := Ground.phase }, { on := 1, ground := Ground.phase }, { on := 2, ground := Ground.phase }, { on := 3, ground := Ground.phase }, { on := 4, ground := Ground.phase }, { on := 5, ground := Ground.phase }, { on := 6, ground := Ground.phase }, { on := 7, ground := Ground.phase }, { on := 8, ground := Ground.phase }, { on := 9, ground := Ground.phase }, { on := 10, ground := Ground.phase }, { on := 11, ground := Ground.phase }, { on := 12, ground := Ground.phase }], guard := none }) rfl (fun K hK => ?_) AllReadyH.nil
              go_simp
              refine hK.out _ _ hk5.cells.1 (fun _ => ?_)
              clear hK K
              repeat (first | simp only [Act.put] | simp only [List.setIfInBounds_toArray] | simp only [List.set_cons_zero] | simp only [List.set_cons_succ])
              refine wpAnyH_done (by kernel_rfl) ?_ _
              go_wp2_with fail
              go_round
              case rel => exact ⟨_, _, _, hk5⟩
              case measure => rw [hk5.dq.leftW, hFb]; simp; omega
            · go_simp
              refine hK.out _ _ f7 (fun _ => ?_)
              clear hK K
              repeat (first | simp only [Act.put] | simp only [List.setIfInBounds_toArray] | simp only [List.set_cons_zero] | simp only [List.set_cons_succ])
              refine wpAnyH_ready (rs := [5]) (by kernel_rfl) (by simp) ?_
              refine AllReadyH.cons (o := { dst := some 22, op := Op.load 73 (Operand.tmp 21), type := 73, pos := "reader.go:61", after := #[{ on := 4, ground := Ground.data }], guard := none }) rfl (fun K hK => ?_) AllReadyH.nil
              go_simp
              refine hK.out _ _ f7 (fun _ => ?_)
              clear hK K
              repeat (first | simp only [Act.put] | simp only [List.setIfInBounds_toArray] | simp only [List.set_cons_zero] | simp only [List.set_cons_succ])
              refine wpAnyH_ready (rs := [12]) (by kernel_rfl) (by simp) ?_
              refine AllReadyH.cons (o := { dst := some 29, op := Op.call { callee := Callee.builtin Builtin.append, args := #[Operand.tmp 22, Operand.tmp 28], argTypes := #[73, 73] }, type := 73, pos := "reader.go:61", after := #[{ on := 5, ground := Ground.data }, { on := 11, ground := Ground.data }, { on := 10, ground := Ground.chain }], guard := none }) rfl (fun K hK => ?_) AllReadyH.nil
              refine step_run_ok (.tmp 22) (.tmp 28) _ rfl rfl (by rfl) (by rfl) hr5 ?_
              refine hK.out _ _ g7 (fun _ => ?_)
              clear hK K
              repeat (first | simp only [Act.put] | simp only [List.setIfInBounds_toArray] | simp only [List.set_cons_zero] | simp only [List.set_cons_succ])
              refine wpAnyH_take (i := 13) (oi := { dst := some 30, op := Op.nilCheck (Operand.tmp 17), type := 0, pos := "reader.go:61", after := #[{ on := 0, ground := Ground.data }, { on := 0, ground := Ground.phase }, { on := 1, ground := Ground.phase }, { on := 2, ground := Ground.phase }, { on := 3, ground := Ground.phase }, { on := 4, ground := Ground.phase }, { on := 5, ground := Ground.phase }, { on := 6, ground := Ground.phase }, { on := 7, ground := Ground.phase }, { on := 8, ground := Ground.phase }, { on := 9, ground := Ground.phase }, { on := 10, ground := Ground.phase }, { on := 11, ground := Ground.phase }, { on := 12, ground := Ground.phase }], guard := none }) (v := ?_) rfl (by kernel_rfl) (by kernel_rfl) (by kernel_rfl) (fun _ _ _ h => h) (Or.inl ⟨by rfl, ?_⟩) g7 ?_
              rotate_left
              · intro w _; go_simp; try (with_reducible rfl)
              repeat (first | simp only [Act.put] | simp only [List.setIfInBounds_toArray] | simp only [List.set_cons_zero] | simp only [List.set_cons_succ])
              refine wpAnyH_take (i := 14) (oi := { dst := some 31, op := Op.fieldAddr 102 (Operand.tmp 30) 2, type := 0, pos := "reader.go:61", after := #[{ on := 13, ground := Ground.data }, { on := 0, ground := Ground.phase }, { on := 1, ground := Ground.phase }, { on := 2, ground := Ground.phase }, { on := 3, ground := Ground.phase }, { on := 4, ground := Ground.phase }, { on := 5, ground := Ground.phase }, { on := 6, ground := Ground.phase }, { on := 7, ground := Ground.phase }, { on := 8, ground := Ground.phase }, { on := 9, ground := Ground.phase }, { on := 10, ground := Ground.phase }, { on := 11, ground := Ground.phase }, { on := 12, ground := Ground.phase }], guard := none }) (v := ?_) rfl (by kernel_rfl) (by kernel_rfl) (by kernel_rfl) (fun _ _ _ h => h) (Or.inl ⟨by rfl, ?_⟩) g7 ?_
              rotate_left
              · intro w _; go_simp; try (with_reducible rfl)
              repeat (first | simp only [Act.put] | simp only [List.setIfInBounds_toArray] | simp only [List.set_cons_zero] | simp only [List.set_cons_succ])
              refine wpAnyH_take (i := 15) (oi := { dst := some 32, op := Op.fieldAddr 79 (Operand.tmp 31) 9, type := 0, pos := "reader.go:61", after := #[{ on := 14, ground := Ground.data }, { on := 0, ground := Ground.phase }, { on := 1, ground := Ground.phase }, { on := 2, ground := Ground.phase }, { on := 3, ground := Ground.phase }, { on := 4, ground := Ground.phase }, { on := 5, ground := Ground.phase }, { on := 6, ground := Ground.phase }, { on := 7, ground := Ground.phase }, { on := 8, ground := Ground.phase }, { on := 9, ground := Ground.phase }, { on := 10, ground := Ground.phase }, { on := 11, ground := Ground.phase }, { on := 12, ground := Ground.phase }], guard := none }) (v := ?_) rfl (by kernel_rfl) (by kernel_rfl) (by kernel_rfl) (fun _ _ _ h => h) (Or.inl ⟨by rfl, ?_⟩) g7 ?_
              rotate_left
              · intro w _; go_simp; try (with_reducible rfl)
              repeat (first | simp only [Act.put] | simp only [List.setIfInBounds_toArray] | simp only [List.set_cons_zero] | simp only [List.set_cons_succ])
              refine wpAnyH_ready (rs := [16]) (by kernel_rfl) (by simp) ?_
              refine AllReadyH.cons (o := { dst := none, op := Op.store 73 (Operand.tmp 32) (Operand.tmp 29), type := 0, pos := "reader.go:61", after := #[{ on := 15, ground := Ground.data }, { on := 12, ground := Ground.data }, { on := 12, ground := Ground.chain }, { on := 0, ground := Ground.phase }, { on := 1, ground := Ground.phase }, { on := 2, ground := Ground.phase }, { on := 3, ground := Ground.phase }, { on := 4, ground := Ground.phase }, { on := 5, ground := Ground.phase }, { on := 6, ground := Ground.phase }, { on := 7, ground := Ground.phase }, { on := 8, ground := Ground.phase }, { on := 9, ground := Ground.phase }, { on := 10, ground := Ground.phase }, { on := 11, ground := Ground.phase }, { on := 12, ground := Ground.phase }], guard := none }) rfl (fun K hK => ?_) AllReadyH.nil
              go_simp
              refine hK.out _ _ hk5.cells.1 (fun _ => ?_)
              clear hK K
              repeat (first | simp only [Act.put] | simp only [List.setIfInBounds_toArray] | simp only [List.set_cons_zero] | simp only [List.set_cons_succ])
              refine wpAnyH_done (by kernel_rfl) ?_ _
              go_wp2_with fail
              go_round
              case rel => exact ⟨_, _, _, hk5⟩
              case measure => rw [hk5.dq.leftW, hFb]; simp; omega
end Go.Proofs.YtefcjggmlhoebaaDoor
