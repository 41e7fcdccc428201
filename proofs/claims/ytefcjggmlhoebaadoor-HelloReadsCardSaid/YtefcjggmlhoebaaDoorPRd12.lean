/- The document's Read of params. -/
import Derived.Test.YtefcjggmlhoebaaDoorPRd10
import Derived.Test.YtefcjggmlhoebaaDoorPRd11
namespace Go.Proofs.YtefcjggmlhoebaaDoor
open Go Go.RowKit

/-- How many elements a slice has. -/
def slenP : Value → Nat
  | .slice _ n _ => n
  | _ => 0
theorem Rd.slenP {w : World} {v : Value} {zs : List Int} (h : Rd w v zs) : Proofs.YtefcjggmlhoebaaDoor.slenP v = zs.length := by obtain ⟨_, _, rfl⟩ := h.shape; rfl
theorem cutP_tk {zs : List Int} (hb : Byt zs) (h : (rd zs).2.2 = 0) : cutP zs = if (tk (zs.drop (rd zs).2.1.toNat)).2.2 = 0 then some ((rd zs).1, (tk (zs.drop (rd zs).2.1.toNat)).1, (tk (zs.drop (rd zs).2.1.toNat)).2.1) else none := by
  unfold cutP
  rw [if_pos h]
  generalize hr : zs.drop (rd zs).2.1.toNat = r
  have hbr : Byt r := by rw [← hr]; exact hb.drop _
  rcases rd_size hbr with ⟨e0, ⟨en1, en2⟩, s1, es, es1, _, hs1⟩ | ⟨e1, e2, e3⟩
  · rw [if_pos e0]
    have hrd : rd r = (((rd r).1.toNat : Int), (s1 : Int), 0) := by rw [Int.toNat_of_nonneg en1, ← es, ← e0]
    rw [es, Int.toNat_natCast]
    by_cases hl : (r.drop s1).length < (rd r).1.toNat
    · rw [if_pos hl]
      have hl' : r.length - s1 < (rd r).1.toNat := by simpa using hl
      have := tk_short r ((rd r).1.toNat : Int) (s1 : Int) hrd (by omega)
      rw [this]; rfl
    · rw [if_neg hl]
      have hl' : ¬ r.length - s1 < (rd r).1.toNat := by simpa using hl
      have := tk_ok r (rd r).1.toNat s1 hrd (by omega)
      rw [this]; rfl
  · have hne : (rd r).2.2 ≠ 0 := by omega
    rw [if_neg hne]
    have hrd : rd r = (0, 0, (rd r).2.2) := Prod.ext e1 (Prod.ext e2 rfl)
    have := tk_err r 0 0 _ hrd hne
    rw [this]
    simp [hne]
theorem whole_fst {v : List Int} {x : Int} (h : wholeN v = some x) : x = (rd v).1 := by
  unfold wholeN at h
  split at h
  · cases h; rfl
  · cases h
theorem tk_small1 {r : List Int} (h : r.length ≤ 1000) : (tk r).1.length ≤ 1000 := by
  unfold tk
  split
  · simp
  · split
    · simp
    · simp; omega
theorem tk_less {rest : List Int} {s1 : Nat} (hs1 : s1 ≤ rest.length) (es1 : 1 ≤ s1) : (tk (rest.drop s1)).2.1.length < rest.length := by
  unfold tk
  split
  · simp; omega
  · split
    · simp; omega
    · simp; omega
/-- What holds in the document's loop over the fields. -/
structure Dp (w : World) (zs : List Int) (last : Int) (m k : Nat) (p : Pv) (v5 v6 v7 v9 : Value) (rest : List Int) (wr : World) : Prop where
  bel : Below w.heap.size w wr
  qx : wr.heap[w.heap.size]? = some (.cells #[.int .i64 0, .int .i64 0, .bool false, .bool false, .bool false, .slice none 0 0, .slice none 0 0, .slice none 0 0, .int .i64 0, .slice none 0 0] 75 (0, 0))
  px : wr.heap[w.heap.size + 1]? = some (.cells (pCells p v5 v6 v7 v9) 75 (0, 0))
  g : Rd wr v5 p.g
  o : Rd wr v6 p.o
  r : Rd wr v7 p.r
  l9 : (v9 = .slice none 0 0 ∧ p.l = []) ∨ (17 ≤ last ∧ RiA (w.heap.size + 2) wr v9 p.l)
  run : readF zs.length (-1) 0 p0 zs = readF k last m p rest
  fuel : rest.length ≤ k
  cnt : m + rest.length ≤ 1000
  lo : -1 ≤ last
theorem Dp.step {w wr w1 : World} {zs : List Int} {last : Int} {m k : Nat} {p p' : Pv} {v5 v6 v7 v9 u5 u6 u7 u9 : Value} {rest s v : List Int} {n : Int} (h : Dp w zs last m k p v5 v6 v7 v9 rest wr) (hpos : 0 < rest.length)
    (hc : cutP rest = some (n, v, s)) (hl : last < n) (hp : putP p n v = some p') (hs : s.length < rest.length) (bel : Below w.heap.size w w1) (qx : w1.heap[w.heap.size]? = some (.cells #[.int .i64 0, .int .i64 0, .bool false, .bool false, .bool false, .slice none 0 0, .slice none 0 0, .slice none 0 0, .int .i64 0, .slice none 0 0] 75 (0, 0)))
    (px : w1.heap[w.heap.size + 1]? = some (.cells (pCells p' u5 u6 u7 u9) 75 (0, 0))) (g : Rd w1 u5 p'.g) (o : Rd w1 u6 p'.o) (r : Rd w1 u7 p'.r) (l9 : (u9 = .slice none 0 0 ∧ p'.l = []) ∨ (17 ≤ n ∧ RiA (w.heap.size + 2) w1 u9 p'.l)) :
    Dp w zs n (m + manyP n) (k - 1) p' u5 u6 u7 u9 s w1 := by
  have hk := h.fuel
  have hk1 : k = (k - 1) + 1 := by omega
  have hm : manyP n ≤ 1 := by unfold manyP; split <;> omega
  refine ⟨bel, qx, px, g, o, r, l9, ?_, by omega, by have := h.cnt; omega, by have := h.lo; omega⟩
  rw [h.run, hk1]
  exact rf_step hpos hc hl hp
theorem Dp.noB {wr : World} {p : Pv} {a5 a6 a7 a9 : Option Addr} {n5 n6 n7 n9 c5 c6 c7 c9 K : Nat} (h : wr.heap[K]? = some (.cells (pCells p (.slice a5 n5 c5) (.slice a6 n6 c6) (.slice a7 n7 c7) (.slice a9 n9 c9)) 75 (0, 0))) : NoB wr K := by
  refine noB_cells h ?_
  intro v hv x
  simp only [List.mem_cons, List.not_mem_nil, or_false] at hv
  rcases hv with rfl | rfl | rfl | rfl | rfl | rfl | rfl | rfl | rfl | rfl <;> simp
/-- Where the loop over the versions stands: i bytes of v are taken. -/
structure Vr (W w5 : World) (P : Nat) (p : Pv) (v5 v6 v7 : Value) (v : List Int) (i : Nat) (pc : Pv) (v9 : Value) (done : List Int) : Prop where
  box : w5.heap[P]? = some (.cells (pCells pc v5 v6 v7 v9) 75 (0, 0))
  own : w5.ownsRow W.heap.size 3 1 v9 done.length (done.map (Value.int .i64))
  kqP : But P W w5
  st : (i = 0 ∧ pc = p ∧ done = []) ∨ (∃ c, pc = { p with c := c } ∧ i = 4 * (done.length + 1) ∧ by4 v = (by4 (v.drop i)).map fun l => c :: (done ++ l))
  le : i ≤ v.length
theorem Vr.first {W w5 : World} {P : Nat} {p pc : Pv} {v5 v6 v7 v9 : Value} {v done : List Int} (h : Vr W w5 P p v5 v6 v7 v 0 pc v9 done) (hP : P < W.heap.size) (hl : 4 ≤ v.length) :
    Vr W (w5.setCell ⟨P, 8, none⟩ (.int .i64 (bigv (v.take 4) 0))) P p v5 v6 v7 v 4 { p with c := bigv (v.take 4) 0 } v9 [] := by
  have hd : pc = p ∧ done = [] := by
    rcases h.st with ⟨_, h1, h2⟩ | ⟨_, _, h2, _⟩
    · exact ⟨h1, h2⟩
    · omega
  obtain ⟨rfl, rfl⟩ := hd
  refine ⟨heap_setCell_same w5 P 8 _ 75 _ h.box, own_set h.own hP 8 _, h.kqP.trans (But.set w5 P 8 _), .inr ⟨_, rfl, rfl, ?_⟩, hl⟩
  rw [by4_ge hl]; simp
theorem Vr.more {W w5 w6 : World} {P i : Nat} {p pc : Pv} {v5 v6 v7 v9 u9 : Value} {v done : List Int} (h : Vr W w5 P p v5 v6 v7 v i pc v9 done) (hP : P < W.heap.size) (hl : i + 4 ≤ v.length) (hi : ¬ i = 0)
    (hb : Below W.heap.size w5 w6) (ho : w6.ownsRow W.heap.size 3 1 u9 (done.length + 1) ((done ++ [bigv ((v.drop i).take 4) 0]).map (Value.int .i64))) :
    Vr W (w6.setCell ⟨P, 9, none⟩ u9) P p v5 v6 v7 v (i + 4) pc u9 (done ++ [bigv ((v.drop i).take 4) 0]) := by
  obtain ⟨c, hc, hi4, hby⟩ : ∃ c, pc = { p with c := c } ∧ i = 4 * (done.length + 1) ∧ by4 v = (by4 (v.drop i)).map fun l => c :: (done ++ l) := by
    rcases h.st with ⟨h0, _⟩ | h
    · exact absurd h0 hi
    · exact h
  have hbox : w6.heap[P]? = some (.cells (pCells pc v5 v6 v7 v9) 75 (0, 0)) := by rw [hb.block P hP]; exact h.box
  have e := heap_setCell_same w6 P 9 _ 75 u9 hbox
  refine ⟨e, ?_, ?_, .inr ⟨c, hc, ?_, ?_⟩, hl⟩
  · rw [show (done ++ [bigv ((v.drop i).take 4) 0]).length = done.length + 1 from by simp]
    exact own_set ho hP 9 u9
  · exact (⟨hb.os.trans h.kqP.os, hb.tape.trans h.kqP.tape, hb.output.trans h.kqP.output, Nat.le_trans h.kqP.size hb.size, fun k hk hn => (hb.block k hk).trans (h.kqP.block k hk hn)⟩ : But P W w6).trans (But.set w6 P 9 u9)
  · simp; omega
  · rw [hby, by4_ge (v := v.drop i) (by simp; omega), List.drop_drop]
    cases by4 (v.drop (i + 4)) <;> simp
theorem Vr.drewN {W w5 : World} {P i : Nat} {p pc : Pv} {v5 v6 v7 v9 : Value} {v done : List Int} (h : Vr W w5 P p v5 v6 v7 v i pc v9 done) (n : Nat) : Vr W (w5.drewN n) P p v5 v6 v7 v i pc v9 done := by
  have hb : Below w5.heap.size w5 (w5.drewN n) := bl_drT (Below.refl _ _) n
  refine ⟨?_, own_below h.own hb, h.kqP.trans (But.of_below hb), h.st, h.le⟩
  rw [hb.block P (Array.getElem?_eq_some_iff.1 h.box).1]; exact h.box
theorem by4_len : ∀ {v l : List Int}, by4 v = some l → v.length = 4 * l.length := by
  intro v
  induction v using by4.induct with
  | case1 => intro l h; simp [by4] at h; subst h; rfl
  | case2 a b c d r ih =>
    intro l h
    simp only [by4, Option.map_eq_some_iff] at h
    obtain ⟨l', h1, rfl⟩ := h
    have := ih h1
    simp; omega
  | case3 => intro l h; simp_all [by4]
theorem big4 {v : List Int} {i : Nat} (h : i + 4 ≤ v.length) : bigv ((v.drop i).take 4) 0 = ((v.getD i 0 * 256 + v.getD (i + 1) 0) * 256 + v.getD (i + 2) 0) * 256 + v.getD (i + 3) 0 := by
  have e : (v.drop i).take 4 = [v.getD i 0, v.getD (i + 1) 0, v.getD (i + 2) 0, v.getD (i + 3) 0] := by
    have h0 : i < v.length := by omega
    have h1 : i + 1 < v.length := by omega
    have h2 : i + 2 < v.length := by omega
    have h3 : i + 3 < v.length := by omega
    have d0 : v.getD i 0 = v[i] := by simp [h0]
    have d1 : v.getD (i + 1) 0 = v[i + 1] := by simp [h1]
    have d2 : v.getD (i + 2) 0 = v[i + 2] := by simp [h2]
    have d3 : v.getD (i + 3) 0 = v[i + 3] := by simp [h3]
    rw [d0, d1, d2, d3, List.drop_eq_getElem_cons h0, List.drop_eq_getElem_cons h1, List.drop_eq_getElem_cons h2, List.drop_eq_getElem_cons h3]
    rfl
  rw [e]
  simp only [bigv]
  omega
theorem Rd.cellB {w : World} {b off n cap : Nat} {zs : List Int} (h : Rd w (.slice (some ⟨b, off, none⟩) n cap) zs) {j : Nat} (hj : j < zs.length) : w.cell? ⟨b, off + j, none⟩ = some (.int .u8 (zs.getD j 0)) := by
  obtain ⟨ao, c, e, _, _, _, _, hc⟩ := h
  simp only [Value.slice.injEq] at e
  have := hc _ e.1.symm j hj
  rwa [Addr.add_lit] at this
theorem wpList_run_ok {w w' : World} {ops : Array Oper} {rest : List Oper} {o : Oper} {a : Act} {Q : Exit → Act → World → Prop} (s x : Operand) (t : TypeId) {sv xv v' : Value} (hgd : o.guard = none)
    (ho : o.op = .call { callee := .builtin .append, args := #[s, x], argTypes := #[t, t] }) (hs : a.eval s = sv) (hx : a.eval x = xv) (hr : (Builtin.append_ #[t, t] o.type #[sv, xv]).run Tryd.prog w = .ok v' w') (h : wpList Tryd.prog ops Q rest (a.put o.dst v') w') :
    wpList Tryd.prog ops Q (o :: rest) a w := by
  refine wpList_plain hgd fun K hK => ?_
  unfold Oper.wp execOp
  simp only [ho, resolve, invoke, builtin, Sem.run_bind, Sem.run_pure, Result.andThen_ok, List.map_toArray, List.map_cons, List.map_nil, hs, hx, hr]
  exact hK _ _ h
set_option maxRecDepth 20000 in
theorem rread_results (tmps : Array Value) (w : World) (G : Nat) (c0 c1 c2 c3 c4 c5 c6 c7 c8 c9 : Value) (x : Int) (h2 : tmps[2]?.getD undef = .pointer (some ⟨G, 0, none⟩)) (h3 : tmps[3]?.getD undef = .int .i64 x) (hL : w.heap[G]? = some (.cells #[c0, c1, c2, c3, c4, c5, c6, c7, c8, c9] 75 (0, 0))) :
    (results Tryd.f55 tmps).run Tryd.prog w = .ok (.tuple #[.agg #[c0, c1, c2, c3, c4, c5, c6, c7, c8, c9], .int .i64 x]) w := by
  have hcc := fun i => cell_of_row w G i _ 75 (0, 0) hL
  have a0 := hcc 0
  have a1 := hcc 1
  have a2 := hcc 2
  have a3 := hcc 3
  have a4 := hcc 4
  have a5 := hcc 5
  have a6 := hcc 6
  have a7 := hcc 7
  have a8 := hcc 8
  have a9 := hcc 9
  clear hcc
  simp [results, Tryd.results55, h2, h3, asAddr, a0, a1, a2, a3, a4, a5, a6, a7, a8, a9, go_sem]
/-- The result's box holds no params, whatever was stored. -/
theorem Dp.zero {w wr : World} {H : Nat} (hb : Below w.heap.size w wr) (hH : w.heap.size = H) (hq : wr.heap[H]? = some (.cells #[.int .i64 0, .int .i64 0, .bool false, .bool false, .bool false, .slice none 0 0, .slice none 0 0, .slice none 0 0, .int .i64 0, .slice none 0 0] 75 (0, 0))) :
    ((((((((((wr.setCell ⟨H, 0, none⟩ (.int .i64 0)).setCell ⟨H, 1, none⟩ (.int .i64 0)).setCell ⟨H, 2, none⟩ (.bool false)).setCell ⟨H, 3, none⟩ (.bool false)).setCell ⟨H, 4, none⟩ (.bool false)).setCell ⟨H, 5, none⟩ (.slice none 0 0)).setCell ⟨H, 6, none⟩ (.slice none 0 0)).setCell ⟨H, 7, none⟩ (.slice none 0 0)).setCell ⟨H, 8, none⟩ (.int .i64 0)).setCell ⟨H, 9, none⟩ (.slice none 0 0)).heap[H]? = some (.cells #[.int .i64 0, .int .i64 0, .bool false, .bool false, .bool false, .slice none 0 0, .slice none 0 0, .slice none 0 0, .int .i64 0, .slice none 0 0] 75 (0, 0)) ∧ Below w.heap.size w ((((((((((wr.setCell ⟨H, 0, none⟩ (.int .i64 0)).setCell ⟨H, 1, none⟩ (.int .i64 0)).setCell ⟨H, 2, none⟩ (.bool false)).setCell ⟨H, 3, none⟩ (.bool false)).setCell ⟨H, 4, none⟩ (.bool false)).setCell ⟨H, 5, none⟩ (.slice none 0 0)).setCell ⟨H, 6, none⟩ (.slice none 0 0)).setCell ⟨H, 7, none⟩ (.slice none 0 0)).setCell ⟨H, 8, none⟩ (.int .i64 0)).setCell ⟨H, 9, none⟩ (.slice none 0 0)) := by
  obtain ⟨h1, h2⟩ := chain10q (.int .i64 0) (.int .i64 0) (.bool false) (.bool false) (.bool false) (.slice none 0 0) (.slice none 0 0) (.slice none 0 0) (.int .i64 0) (.slice none 0 0) hq
  exact ⟨h1, h2.below hb (by omega)⟩
set_option maxRecDepth 20000 in
set_option maxHeartbeats 8000000 in
theorem rread_any {w : World} {v : Value} {zs : List Int} (hr : Rd w v zs) (_ : zs.length ≤ 1000000) :
    Calls Tryd.prog 55 #[v] w (RPost zs w) := by
  obtain ⟨ao, n, cap, rfl⟩ := hr.shape3P
  have hnl : n = zs.length := by obtain ⟨_, _, e, _⟩ := hr; simp only [Value.slice.injEq] at e; exact e.2.1
  subst hnl
  have hx0 := heap_alloc_new w (.cells #[.int .i64 0, .int .i64 0, .bool false, .bool false, .bool false, .slice none 0 0, .slice none 0 0, .slice none 0 0, .int .i64 0, .slice none 0 0] 75)
  have hbel0 := below_alloc w (.cells #[.int .i64 0, .int .i64 0, .bool false, .bool false, .bool false, .slice none 0 0, .slice none 0 0, .slice none 0 0, .int .i64 0, .slice none 0 0] 75)
  by_cases h5 : 500 < zs.length
  · have HRES : Hid (resP zs = (p0, 4)) := Lib.hid (by unfold resP; rw [if_pos h5])
    go_enter Tryd.func55, Tryd.ntmps55
    go_wp2_with fail
    refine bodyPost_ret (rread_results _ _ w.heap.size _ _ _ _ _ _ _ _ _ _ 4 rfl rfl hx0) rfl ?_
    exact rpost_no HRES.out hbel0
  · have hl : zs.length ≤ 600 := by omega
    have HD0 : Hid (Dp w zs (-1) 0 zs.length p0 (.slice none 0 0) (.slice none 0 0) (.slice none 0 0) (.slice none 0 0) zs ((w.alloc (.cells #[.int .i64 0, .int .i64 0, .bool false, .bool false, .bool false, .slice none 0 0, .slice none 0 0, .slice none 0 0, .int .i64 0, .slice none 0 0] 75)).alloc (.cells #[.int .i64 0, .int .i64 0, .bool false, .bool false, .bool false, .slice none 0 0, .slice none 0 0, .slice none 0 0, .int .i64 0, .slice none 0 0] 75))) := Lib.hid
      ⟨hbel0.alloc (by simp) _, (Below.heap_alloc _ _ w.heap.size (by simp)).trans hx0, heap_alloc2_new w _ _, Rd.nil _, Rd.nil _, Rd.nil _, .inl ⟨rfl, rfl⟩, rfl, Nat.le_refl _, by omega, by omega⟩
    have HR := Lib.hid hr
    have HN : Hid (readF zs.length (-1) 0 p0 zs = none → resP zs = (p0, 3)) := Lib.hid (by
      intro h; unfold resP; rw [if_neg h5, readP_no h])
    clear hx0 hbel0 hr
    go_enter Tryd.func55, Tryd.ntmps55
    go_wp2_with fail
    go_loopw [0, 5, 6] (fun bv lv mv wr => ∃ rest last m k p v5 v6 v7 v9, Hid (Rd wr bv rest) ∧ lv = .int .i64 last ∧ mv = .int .i64 ((m : Nat) : Int) ∧ Hid (Dp w zs last m k p v5 v6 v7 v9 rest wr)) (fun bv _ _ _ => slenP bv)
    case atStart => exact ⟨zs, -1, 0, _, _, _, _, _, _, Lib.hid (HR.out.below (((below_alloc w _).alloc (by simp) _))), rfl, rfl, HD0⟩
    case round =>
      obtain ⟨rest, last, m, k, p, v5, v6, v7, v9, HB, rfl, rfl, HD⟩ := hrel
      have hrd := HB.out
      have hD := HD.out
      have hPC := pcells hD.px
      obtain ⟨x0, x1, x2, x3, x4, x5, x6, x7, x8, x9⟩ := hPC
      have xf : ∀ j, wr.frozen? ⟨w.heap.size + 1, j, none⟩ = false := fun j => by simp [World.frozen?, hD.px]
      have hQc := fun i => cell_of_row wr w.heap.size i _ 75 (0, 0) hD.qx
      have y0 := hQc 0
      have y1 := hQc 1
      have y2 := hQc 2
      have y3 := hQc 3
      have y4 := hQc 4
      have y5 := hQc 5
      have y6 := hQc 6
      have y7 := hQc 7
      have y8 := hQc 8
      have y9 := hQc 9
      have yf : ∀ j, wr.frozen? ⟨w.heap.size, j, none⟩ = false := fun j => by simp [World.frozen?, hD.qx]
      have HZ := Lib.hid (Dp.zero hD.bel rfl hD.qx)
      clear hQc
      obtain ⟨a5, k5, rfl⟩ := hD.g.shape
      obtain ⟨a6, k6, rfl⟩ := hD.o.shape
      obtain ⟨a7, k7, rfl⟩ := hD.r.shape
      have hv9 : ∃ a9 k9, v9 = .slice a9 p.l.length k9 := by
        rcases hD.l9 with ⟨e, e2⟩ | ⟨_, ho⟩
        · exact ⟨none, 0, by rw [e, e2]; rfl⟩
        · exact ho.rd.shape
      obtain ⟨a9, k9, rfl⟩ := hv9
      have hcnt := hD.cnt
      by_cases hz : rest.length = 0
      · obtain rfl := List.eq_nil_of_length_eq_zero hz
        obtain ⟨ab, kb, rfl⟩ := hrd.shape
        have hria : RiA (w.heap.size + 2) wr (.slice a9 p.l.length k9) p.l := by
          rcases hD.l9 with ⟨e, e2⟩ | ⟨_, ho⟩
          · rw [e, e2]; exact RiA.nil _ _
          · exact ho
        have hri := hria.rd
        have HRIA := Lib.hid hria
        have hrun := hD.run
        rw [rf_nil] at hrun
        have hpr : Pr wr p (.slice a5 p.g.length k5) (.slice a6 p.o.length k6) (.slice a7 p.r.length k7) (.slice a9 p.l.length k9) := ⟨hD.g, hD.o, hD.r, hri⟩
        have hright := refright_any hpr
        have HQ3 : Hid (∀ w3, Below wr.heap.size wr w3 → w3.heap[w.heap.size]? = some (.cells #[.int .i64 0, .int .i64 0, .bool false, .bool false, .bool false, .slice none 0 0, .slice none 0 0, .slice none 0 0, .int .i64 0, .slice none 0 0] 75 (0, 0)) ∧ w3.heap[w.heap.size + 1]? = some (.cells (pCells p (.slice a5 p.g.length k5) (.slice a6 p.o.length k6) (.slice a7 p.r.length k7) (.slice a9 p.l.length k9)) 75 (0, 0)) ∧ Below w.heap.size w w3) := Lib.hid fun w3 hb3 =>
          ⟨by rw [hb3.block _ (Array.getElem?_eq_some_iff.1 HD.out.qx).1]; exact HD.out.qx, by rw [hb3.block _ (Array.getElem?_eq_some_iff.1 HD.out.px).1]; exact HD.out.px, HD.out.bel.trans (hb3.mono HD.out.bel.size)⟩
        by_cases hm : m = 3
        · subst hm
          cases hrp : rightP p with
          | true =>
            have HRES : Hid (resP zs = (p, 0)) := Lib.hid (by unfold resP readP; rw [if_neg h5, hrun]; simp [hrp])
            rw [hrp] at hright
            clear hrd hD hri hria hrun hpr hz hrp
            go_wp2_with (go_at_call 68; refine hright.mono ?_; rintro e w3 ⟨rfl, hb3⟩; obtain ⟨hq3, hp3, hbw3⟩ := HQ3.out w3 hb3; obtain ⟨x0, x1, x2, x3, x4, x5, x6, x7, x8, x9⟩ := pcells hp3; have xf : ∀ j, w3.frozen? ⟨w.heap.size + 1, j, none⟩ = false := fun j => (by simp [World.frozen?, hp3]); have hQc := fun i => cell_of_row w3 w.heap.size i _ 75 (0, 0) hq3; have y0 := hQc 0; have y1 := hQc 1; have y2 := hQc 2; have y3 := hQc 3; have y4 := hQc 4; have y5 := hQc 5; have y6 := hQc 6; have y7 := hQc 7; have y8 := hQc 8; have y9 := hQc 9; have yf : ∀ j, w3.frozen? ⟨w.heap.size, j, none⟩ = false := fun j => (by simp [World.frozen?, hq3]); have HB3 := Lib.hid hb3; have HQW := Lib.hid hq3; have HBW := Lib.hid hbw3; clear hQc hq3 hp3 hb3 hbw3)
            obtain ⟨hG, hBt⟩ := chain10q (.int .i64 p.i) (.int .i64 p.d) (.bool p.hg) (.bool p.ho) (.bool p.hr) (.slice a5 p.g.length k5) (.slice a6 p.o.length k6) (.slice a7 p.r.length k7) (.int .i64 p.c) (.slice a9 p.l.length k9) HQW.out
            have hbf := hBt.below HBW.out (Nat.le_refl _)
            refine bodyPost_ret (rread_results _ _ w.heap.size _ _ _ _ _ _ _ _ _ _ 0 rfl rfl hG) rfl ⟨_, _, _, _, by rw [HRES.out], ?_, hbf⟩
            rw [HRES.out]
            have hnq : NoB _ w.heap.size := Dp.noB (p := p0) HQW.out
            exact ⟨(HD.out.g.below HB3.out).but hBt hnq, (HD.out.o.below HB3.out).but hBt hnq, (HD.out.r.below HB3.out).but hBt hnq, (HRIA.out.below HB3.out).but hBt (by omega)⟩
          | false =>
            have HRES : Hid (resP zs = (p0, 3)) := Lib.hid (by unfold resP readP; rw [if_neg h5, hrun]; simp [hrp])
            rw [hrp] at hright
            clear hrd hD hri hria hrun hpr hz hrp
            go_wp2_with (go_at_call 68; refine hright.mono ?_; rintro e w3 ⟨rfl, hb3⟩; obtain ⟨hq3, hp3, hbw3⟩ := HQ3.out w3 hb3; obtain ⟨x0, x1, x2, x3, x4, x5, x6, x7, x8, x9⟩ := pcells hp3; have xf : ∀ j, w3.frozen? ⟨w.heap.size + 1, j, none⟩ = false := fun j => (by simp [World.frozen?, hp3]); have hQc := fun i => cell_of_row w3 w.heap.size i _ 75 (0, 0) hq3; have y0 := hQc 0; have y1 := hQc 1; have y2 := hQc 2; have y3 := hQc 3; have y4 := hQc 4; have y5 := hQc 5; have y6 := hQc 6; have y7 := hQc 7; have y8 := hQc 8; have y9 := hQc 9; have yf : ∀ j, w3.frozen? ⟨w.heap.size, j, none⟩ = false := fun j => (by simp [World.frozen?, hq3]); have HB3 := Lib.hid hb3; have HQW := Lib.hid hq3; have HBW := Lib.hid hbw3; clear hQc hq3 hp3 hb3 hbw3)
            obtain ⟨hG, hBt⟩ := Dp.zero HBW.out rfl HQW.out
            refine bodyPost_ret (rread_results _ _ w.heap.size _ _ _ _ _ _ _ _ _ _ 3 rfl rfl hG) rfl ?_
            exact rpost_no HRES.out hBt
        · have HRES : Hid (resP zs = (p0, 3)) := Lib.hid (by unfold resP readP; rw [if_neg h5, hrun]; simp [hm])
          have hm' : ¬ ((m : Int) = 3) := by omega
          clear hrd hD hri hria hrun hpr hz
          go_wp2_with fail
          refine bodyPost_ret (rread_results _ _ w.heap.size _ _ _ _ _ _ _ _ _ _ 3 rfl rfl HZ.out.1) rfl ?_
          exact rpost_no HRES.out HZ.out.2
      · have hpos : 0 < rest.length := by omega
        have hbyt := hrd.byt
        have hrr := refread_any hrd
        rcases hrd.cases with ⟨e, _⟩ | ⟨b, off, kb, rfl, _, hlc, hcap, _, _⟩
        · rw [e] at hz; exact absurd rfl hz
        rcases rd_size hbyt with ⟨e0, ⟨en1, en2⟩, s1, es, es1, _, hs1⟩ | ⟨e1, e2, e3⟩
        · have HRD := Lib.hid hrd
          have hrd0 : rd rest = ((rd rest).1, (s1 : Int), 0) := by rw [← es, ← e0]
          have HC := Lib.hid (cutP_tk hbyt e0)
          rw [es, Int.toNat_natCast] at HC
          rw [es, e0] at hrr
          by_cases hle : (rd rest).1 ≤ last
          · have HRES : Hid (resP zs = (p0, 3)) := Lib.hid (HN.out (by
              rw [hD.run]
              cases hc : cutP rest with
              | none => exact rf_cut hpos hc
              | some x =>
                obtain ⟨n, v, s⟩ := x
                have en := cut_n hc
                exact rf_low hpos hc (.inl (by omega))))
            generalize (rd rest).1 = n1 at *
            clear hrd hD hz e0 es hrd0 hbyt en1 en2
            go_wp2_with (go_at_call 47; refine hrr.mono ?_; rintro e w1 ⟨rfl, rfl⟩)
            refine bodyPost_ret (rread_results _ _ w.heap.size _ _ _ _ _ _ _ _ _ _ 3 rfl rfl HZ.out.1) rfl ?_
            exact rpost_no HRES.out HZ.out.2
          · have hgap : ¬ ((rd rest).1 ≤ last) := hle
            have HTL : Hid ((tk (rest.drop s1)).2.1.length < rest.length) := Lib.hid (tk_less hs1 es1)
            have hdl : (rest.drop s1).length = rest.length - s1 := by simp
            have HTKL : Hid ((tk (rest.drop s1)).1.length ≤ 1000) := Lib.hid (tk_small1 (by omega))
            have hby1 := hbyt.drop s1
            have HT2 : Hid (∀ w2, Below wr.heap.size wr w2 → w2.heap[w.heap.size]? = some (.cells #[.int .i64 0, .int .i64 0, .bool false, .bool false, .bool false, .slice none 0 0, .slice none 0 0, .slice none 0 0, .int .i64 0, .slice none 0 0] 75 (0, 0)) ∧ w2.heap[w.heap.size + 1]? = some (.cells (pCells p (.slice a5 p.g.length k5) (.slice a6 p.o.length k6) (.slice a7 p.r.length k7) (.slice a9 p.l.length k9)) 75 (0, 0)) ∧ Below w.heap.size w w2 ∧ Rd w2 (.slice a5 p.g.length k5) p.g ∧ Rd w2 (.slice a6 p.o.length k6) p.o ∧ Rd w2 (.slice a7 p.r.length k7) p.r) := Lib.hid fun w2 hb2 =>
              ⟨by rw [hb2.block _ (Array.getElem?_eq_some_iff.1 HD.out.qx).1]; exact HD.out.qx, by rw [hb2.block _ (Array.getElem?_eq_some_iff.1 HD.out.px).1]; exact HD.out.px, HD.out.bel.trans (hb2.mono HD.out.bel.size), HD.out.g.below hb2, HD.out.o.below hb2, HD.out.r.below hb2⟩
            by_cases hcs : kb = s1
            · have hd0 : rest.drop s1 = [] := List.eq_nil_of_length_eq_zero (by omega)
              have htk : tk (rest.drop s1) = ([], [], 2) := by rw [hd0]; rfl
              have HRES : Hid (resP zs = (p0, 3)) := Lib.hid (HN.out (by
                rw [hD.run]
                refine rf_cut hpos ?_
                rw [HC.out, htk]; rfl))
              have h1 := hrd.drop (k := s1) hs1 (some ⟨b, off, none⟩) (by omega) (by simp)
              have htk2 := reftake_any h1 (by omega)
              rw [htk] at htk2
              subst hcs
              rw [show rest.length - kb = 0 by omega] at htk2
              unfold Took at htk2
              dsimp only at htk2
              generalize (rd rest).1 = n1 at *
              clear hrd hD hz e0 es hrd0 hbyt h1 hdl hby1 htk hd0
              simp only [Nat.sub_self] at htk2
              go_wp2_with (first
                | (go_at_call 47; refine hrr.mono ?_; rintro e w1 ⟨rfl, rfl⟩)
                | (go_at_call 64; with_reducible refine htk2.mono ?_; (rintro e w2 ⟨tv, tr, rfl, htv, htr, hb2⟩); obtain ⟨hq2, hp2, hbw2, hg2, ho2, hr2⟩ := HT2.out w2 hb2; have HZ := Lib.hid (Dp.zero hbw2 rfl hq2); have hQc := fun i => cell_of_row w2 w.heap.size i _ 75 (0, 0) hq2; have y0 := hQc 0; have y1 := hQc 1; have y2 := hQc 2; have y3 := hQc 3; have y4 := hQc 4; have y5 := hQc 5; have y6 := hQc 6; have y7 := hQc 7; have y8 := hQc 8; have y9 := hQc 9; have yf : ∀ j, w2.frozen? ⟨w.heap.size, j, none⟩ = false := fun j => (by simp [World.frozen?, hq2]); obtain ⟨tva, tvc, rfl⟩ := htv.shape; obtain ⟨tra, trc, rfl⟩ := htr.shape; clear hQc hq2 hp2 hbw2 hg2 ho2 hr2 htv htr hb2))
              refine bodyPost_ret (rread_results _ _ w.heap.size _ _ _ _ _ _ _ _ _ _ 3 rfl rfl HZ.out.1) rfl ?_
              exact rpost_no HRES.out HZ.out.2
            · have h1 := hrd.drop (k := s1) hs1 (some ⟨b, off + s1, none⟩) (fun _ => rfl) (by simp)
              have htk := reftake_any h1 (by omega)
              have hcapb : s1 ≤ kb := by omega
              generalize hN1 : (rd rest).1 = n1 at *
              generalize hTK : tk (rest.drop s1) = T at *
              obtain ⟨tvs, trs, te⟩ := T
              simp only at HC HTL HTKL
              clear hrd hD hz e0 es hrd0 hbyt h1 hdl hby1 hN1 hTK
              by_cases hte : te = 0
              · subst hte
                rw [if_pos rfl] at HC
                have HCUT := HC
                have HLL : Hid (last < n1) := Lib.hid (by omega)
                unfold Took at htk
                dsimp only at htk
                have hm1 : IntKind.i64.wrap ((m : Int) + 1) = (m : Int) + 1 := wraps_i64 _ (by omega) (by omega)
                by_cases h0 : n1 = 0
                · have H9 : Hid ((.slice a9 p.l.length k9 : Value) = .slice none 0 0 ∧ p.l = []) := Lib.hid (by
                    rcases HD.out.l9 with h | ⟨h, _⟩
                    · exact h
                    · omega)
                  have hn := h0
                  clear h0
                  subst hn
                  go_wp2_with (first
                    | (go_at_call 47; refine hrr.mono ?_; rintro e w1 ⟨rfl, rfl⟩)
                    | (go_at_call 64; with_reducible refine htk.mono ?_; (rintro e w2 ⟨tv, tr, rfl, htv, htr, hb2⟩); obtain ⟨hq2, hp2, hbw2, hg2, ho2, hr2⟩ := HT2.out w2 hb2; obtain ⟨x0, x1, x2, x3, x4, x5, x6, x7, x8, x9⟩ := pcells hp2; have xf : ∀ j, w2.frozen? ⟨w.heap.size + 1, j, none⟩ = false := fun j => (by simp [World.frozen?, hp2]); have HZ := Lib.hid (Dp.zero hbw2 rfl hq2); have hQc := fun i => cell_of_row w2 w.heap.size i _ 75 (0, 0) hq2; have y0 := hQc 0; have y1 := hQc 1; have y2 := hQc 2; have y3 := hQc 3; have y4 := hQc 4; have y5 := hQc 5; have y6 := hQc 6; have y7 := hQc 7; have y8 := hQc 8; have y9 := hQc 9; have yf : ∀ j, w2.frozen? ⟨w.heap.size, j, none⟩ = false := fun j => (by simp [World.frozen?, hq2]); obtain ⟨tva, tvc, rfl⟩ := htv.shape; obtain ⟨tra, trc, rfl⟩ := htr.shape; have H2 := Lib.hid (And.intro hq2 (And.intro hp2 (And.intro hbw2 (And.intro hg2 (And.intro ho2 hr2))))); have HTV := Lib.hid htv; have HTR := Lib.hid htr; have HB2 := Lib.hid hb2; clear hQc hq2 hp2 hbw2 hg2 ho2 hr2 htv htr hb2))
                  have h3 := H2.out
                  have hn3 := Dp.noB h3.2.1
                  have hbt : But (w.heap.size + 1) w2 ((w2.setCell ⟨w.heap.size + 1, 2, none⟩ (.bool true)).setCell ⟨w.heap.size + 1, 5, none⟩ (.slice tva tvs.length tvc)) := (But.set w2 _ 2 _).trans (But.set _ _ 5 _)
                  have e1 := heap_setCell_same w2 (w.heap.size + 1) 2 _ 75 (.bool true) h3.2.1
                  have e2 := heap_setCell_same _ (w.heap.size + 1) 5 _ 75 (.slice tva tvs.length tvc) e1
                  have HST := Lib.hid (HD.out.step hpos HCUT.out HLL.out (p' := { p with hg := true, g := tvs }) (by simp [putP]) HTL.out (hbt.below h3.2.2.1 (Nat.le_succ _)) (by rw [hbt.block _ (Array.getElem?_eq_some_iff.1 h3.1).1 (by omega)]; exact h3.1) e2 (HTV.out.but hbt hn3) (h3.2.2.2.2.1.but hbt hn3) (h3.2.2.2.2.2.but hbt hn3) (.inl H9.out))
                  have HRR := Lib.hid (HTR.out.but hbt hn3)
                  have hsl := HTR.out.slenP
                  go_round
                  case rel => exact ⟨trs, 0, m + manyP 0, k - 1, _, _, _, _, _, HRR, rfl, by simp [manyP], HST⟩
                  case measure => exact HTL.out
                by_cases h1 : n1 = 1
                · have H9 : Hid ((.slice a9 p.l.length k9 : Value) = .slice none 0 0 ∧ p.l = []) := Lib.hid (by
                    rcases HD.out.l9 with h | ⟨h, _⟩
                    · exact h
                    · omega)
                  have hn := h1
                  clear h1
                  subst hn
                  cases hwn : wholeN tvs with
                  | some X =>
                    have hX := whole_fst hwn
                    subst hX
                    have HX := Lib.hid hwn
                    go_wp2_with (first
                      | (go_at_call 47; refine hrr.mono ?_; rintro e w1 ⟨rfl, rfl⟩)
                      | (go_at_call 64; with_reducible refine htk.mono ?_; (rintro e w2 ⟨tv, tr, rfl, htv, htr, hb2⟩); obtain ⟨hq2, hp2, hbw2, hg2, ho2, hr2⟩ := HT2.out w2 hb2; obtain ⟨x0, x1, x2, x3, x4, x5, x6, x7, x8, x9⟩ := pcells hp2; have xf : ∀ j, w2.frozen? ⟨w.heap.size + 1, j, none⟩ = false := fun j => (by simp [World.frozen?, hp2]); have HZ := Lib.hid (Dp.zero hbw2 rfl hq2); have hQc := fun i => cell_of_row w2 w.heap.size i _ 75 (0, 0) hq2; have y0 := hQc 0; have y1 := hQc 1; have y2 := hQc 2; have y3 := hQc 3; have y4 := hQc 4; have y5 := hQc 5; have y6 := hQc 6; have y7 := hQc 7; have y8 := hQc 8; have y9 := hQc 9; have yf : ∀ j, w2.frozen? ⟨w.heap.size, j, none⟩ = false := fun j => (by simp [World.frozen?, hq2]); obtain ⟨tva, tvc, rfl⟩ := htv.shape; obtain ⟨tra, trc, rfl⟩ := htr.shape; have H2 := Lib.hid (And.intro hq2 (And.intro hp2 (And.intro hbw2 (And.intro hg2 (And.intro ho2 hr2))))); have HTV := Lib.hid htv; have HTR := Lib.hid htr; have HB2 := Lib.hid hb2; clear hQc hq2 hp2 hbw2 hg2 ho2 hr2 htv htr hb2)
                      | (go_at_call 67; have cw := refwhole_any HTV.out; rw [hwn] at cw; refine cw.mono ?_; rintro e w4 ⟨rfl, rfl⟩))
                    have h3 := H2.out
                    have hn3 := Dp.noB h3.2.1
                    have hbt : But (w.heap.size + 1) w2 (w2.setCell ⟨w.heap.size + 1, 0, none⟩ (.int .i64 (rd tvs).1)) := But.set w2 _ 0 _
                    have e1 := heap_setCell_same w2 (w.heap.size + 1) 0 _ 75 (.int .i64 (rd tvs).1) h3.2.1
                    have HST := Lib.hid (HD.out.step hpos HCUT.out HLL.out (p' := { p with i := (rd tvs).1 }) (by simp [putP, HX.out]) HTL.out (hbt.below h3.2.2.1 (Nat.le_succ _)) (by rw [hbt.block _ (Array.getElem?_eq_some_iff.1 h3.1).1 (by omega)]; exact h3.1) e1 (h3.2.2.2.1.but hbt hn3) (h3.2.2.2.2.1.but hbt hn3) (h3.2.2.2.2.2.but hbt hn3) (.inl H9.out))
                    have HRR := Lib.hid (HTR.out.but hbt hn3)
                    go_round
                    case rel => exact ⟨trs, 1, m + manyP 1, k - 1, _, _, _, _, _, HRR, rfl, by simp [manyP], HST⟩
                    case measure => exact HTL.out
                  | none =>
                    have HRES : Hid (resP zs = (p0, 3)) := Lib.hid (HN.out (by
                      rw [HD.out.run]
                      exact rf_low hpos HCUT.out (.inr (by simp [putP, hwn]))))
                    go_wp2_with (first
                      | (go_at_call 47; refine hrr.mono ?_; rintro e w1 ⟨rfl, rfl⟩)
                      | (go_at_call 64; with_reducible refine htk.mono ?_; (rintro e w2 ⟨tv, tr, rfl, htv, htr, hb2⟩); obtain ⟨hq2, hp2, hbw2, hg2, ho2, hr2⟩ := HT2.out w2 hb2; obtain ⟨x0, x1, x2, x3, x4, x5, x6, x7, x8, x9⟩ := pcells hp2; have xf : ∀ j, w2.frozen? ⟨w.heap.size + 1, j, none⟩ = false := fun j => (by simp [World.frozen?, hp2]); have HZ := Lib.hid (Dp.zero hbw2 rfl hq2); have hQc := fun i => cell_of_row w2 w.heap.size i _ 75 (0, 0) hq2; have y0 := hQc 0; have y1 := hQc 1; have y2 := hQc 2; have y3 := hQc 3; have y4 := hQc 4; have y5 := hQc 5; have y6 := hQc 6; have y7 := hQc 7; have y8 := hQc 8; have y9 := hQc 9; have yf : ∀ j, w2.frozen? ⟨w.heap.size, j, none⟩ = false := fun j => (by simp [World.frozen?, hq2]); obtain ⟨tva, tvc, rfl⟩ := htv.shape; obtain ⟨tra, trc, rfl⟩ := htr.shape; have H2 := Lib.hid (And.intro hq2 (And.intro hp2 (And.intro hbw2 (And.intro hg2 (And.intro ho2 hr2))))); have HTV := Lib.hid htv; have HTR := Lib.hid htr; have HB2 := Lib.hid hb2; clear hQc hq2 hp2 hbw2 hg2 ho2 hr2 htv htr hb2)
                      | (go_at_call 67; have cw := refwhole_any HTV.out; rw [hwn] at cw; refine cw.mono ?_; rintro e w4 ⟨rfl, rfl⟩))
                    have h3 := H2.out
                    have hbt : But (w.heap.size + 1) w2 (w2.setCell ⟨w.heap.size + 1, 0, none⟩ (.int .i64 (rd tvs).1)) := But.set w2 _ 0 _
                    have HZ := Dp.zero (wr := w2.setCell ⟨w.heap.size + 1, 0, none⟩ (.int .i64 (rd tvs).1)) (hbt.below h3.2.2.1 (Nat.le_succ _)) rfl (by rw [hbt.block _ (Array.getElem?_eq_some_iff.1 h3.1).1 (by omega)]; exact h3.1)
                    refine bodyPost_ret (rread_results _ _ w.heap.size _ _ _ _ _ _ _ _ _ _ 3 rfl rfl HZ.1) rfl ?_
                    exact rpost_no HRES.out HZ.2
                by_cases h4 : n1 = 4
                · have H9 : Hid ((.slice a9 p.l.length k9 : Value) = .slice none 0 0 ∧ p.l = []) := Lib.hid (by
                    rcases HD.out.l9 with h | ⟨h, _⟩
                    · exact h
                    · omega)
                  have hn := h4
                  clear h4
                  subst hn
                  cases hwn : wholeN tvs with
                  | some X =>
                    have hX := whole_fst hwn
                    subst hX
                    have HX := Lib.hid hwn
                    go_wp2_with (first
                      | (go_at_call 47; refine hrr.mono ?_; rintro e w1 ⟨rfl, rfl⟩)
                      | (go_at_call 64; with_reducible refine htk.mono ?_; (rintro e w2 ⟨tv, tr, rfl, htv, htr, hb2⟩); obtain ⟨hq2, hp2, hbw2, hg2, ho2, hr2⟩ := HT2.out w2 hb2; obtain ⟨x0, x1, x2, x3, x4, x5, x6, x7, x8, x9⟩ := pcells hp2; have xf : ∀ j, w2.frozen? ⟨w.heap.size + 1, j, none⟩ = false := fun j => (by simp [World.frozen?, hp2]); have HZ := Lib.hid (Dp.zero hbw2 rfl hq2); have hQc := fun i => cell_of_row w2 w.heap.size i _ 75 (0, 0) hq2; have y0 := hQc 0; have y1 := hQc 1; have y2 := hQc 2; have y3 := hQc 3; have y4 := hQc 4; have y5 := hQc 5; have y6 := hQc 6; have y7 := hQc 7; have y8 := hQc 8; have y9 := hQc 9; have yf : ∀ j, w2.frozen? ⟨w.heap.size, j, none⟩ = false := fun j => (by simp [World.frozen?, hq2]); obtain ⟨tva, tvc, rfl⟩ := htv.shape; obtain ⟨tra, trc, rfl⟩ := htr.shape; have H2 := Lib.hid (And.intro hq2 (And.intro hp2 (And.intro hbw2 (And.intro hg2 (And.intro ho2 hr2))))); have HTV := Lib.hid htv; have HTR := Lib.hid htr; have HB2 := Lib.hid hb2; clear hQc hq2 hp2 hbw2 hg2 ho2 hr2 htv htr hb2)
                      | (go_at_call 67; have cw := refwhole_any HTV.out; rw [hwn] at cw; refine cw.mono ?_; rintro e w4 ⟨rfl, rfl⟩))
                    have h3 := H2.out
                    have hn3 := Dp.noB h3.2.1
                    have hbt : But (w.heap.size + 1) w2 (w2.setCell ⟨w.heap.size + 1, 1, none⟩ (.int .i64 (rd tvs).1)) := But.set w2 _ 1 _
                    have e1 := heap_setCell_same w2 (w.heap.size + 1) 1 _ 75 (.int .i64 (rd tvs).1) h3.2.1
                    have HST := Lib.hid (HD.out.step hpos HCUT.out HLL.out (p' := { p with d := (rd tvs).1 }) (by simp [putP, HX.out]) HTL.out (hbt.below h3.2.2.1 (Nat.le_succ _)) (by rw [hbt.block _ (Array.getElem?_eq_some_iff.1 h3.1).1 (by omega)]; exact h3.1) e1 (h3.2.2.2.1.but hbt hn3) (h3.2.2.2.2.1.but hbt hn3) (h3.2.2.2.2.2.but hbt hn3) (.inl H9.out))
                    have HRR := Lib.hid (HTR.out.but hbt hn3)
                    go_round
                    case rel => exact ⟨trs, 4, m + manyP 4, k - 1, _, _, _, _, _, HRR, rfl, by simp [manyP], HST⟩
                    case measure => exact HTL.out
                  | none =>
                    have HRES : Hid (resP zs = (p0, 3)) := Lib.hid (HN.out (by
                      rw [HD.out.run]
                      exact rf_low hpos HCUT.out (.inr (by simp [putP, hwn]))))
                    go_wp2_with (first
                      | (go_at_call 47; refine hrr.mono ?_; rintro e w1 ⟨rfl, rfl⟩)
                      | (go_at_call 64; with_reducible refine htk.mono ?_; (rintro e w2 ⟨tv, tr, rfl, htv, htr, hb2⟩); obtain ⟨hq2, hp2, hbw2, hg2, ho2, hr2⟩ := HT2.out w2 hb2; obtain ⟨x0, x1, x2, x3, x4, x5, x6, x7, x8, x9⟩ := pcells hp2; have xf : ∀ j, w2.frozen? ⟨w.heap.size + 1, j, none⟩ = false := fun j => (by simp [World.frozen?, hp2]); have HZ := Lib.hid (Dp.zero hbw2 rfl hq2); have hQc := fun i => cell_of_row w2 w.heap.size i _ 75 (0, 0) hq2; have y0 := hQc 0; have y1 := hQc 1; have y2 := hQc 2; have y3 := hQc 3; have y4 := hQc 4; have y5 := hQc 5; have y6 := hQc 6; have y7 := hQc 7; have y8 := hQc 8; have y9 := hQc 9; have yf : ∀ j, w2.frozen? ⟨w.heap.size, j, none⟩ = false := fun j => (by simp [World.frozen?, hq2]); obtain ⟨tva, tvc, rfl⟩ := htv.shape; obtain ⟨tra, trc, rfl⟩ := htr.shape; have H2 := Lib.hid (And.intro hq2 (And.intro hp2 (And.intro hbw2 (And.intro hg2 (And.intro ho2 hr2))))); have HTV := Lib.hid htv; have HTR := Lib.hid htr; have HB2 := Lib.hid hb2; clear hQc hq2 hp2 hbw2 hg2 ho2 hr2 htv htr hb2)
                      | (go_at_call 67; have cw := refwhole_any HTV.out; rw [hwn] at cw; refine cw.mono ?_; rintro e w4 ⟨rfl, rfl⟩))
                    have h3 := H2.out
                    have hbt : But (w.heap.size + 1) w2 (w2.setCell ⟨w.heap.size + 1, 1, none⟩ (.int .i64 (rd tvs).1)) := But.set w2 _ 1 _
                    have HZ := Dp.zero (wr := w2.setCell ⟨w.heap.size + 1, 1, none⟩ (.int .i64 (rd tvs).1)) (hbt.below h3.2.2.1 (Nat.le_succ _)) rfl (by rw [hbt.block _ (Array.getElem?_eq_some_iff.1 h3.1).1 (by omega)]; exact h3.1)
                    refine bodyPost_ret (rread_results _ _ w.heap.size _ _ _ _ _ _ _ _ _ _ 3 rfl rfl HZ.1) rfl ?_
                    exact rpost_no HRES.out HZ.2
                by_cases h15 : n1 = 15
                · have H9 : Hid ((.slice a9 p.l.length k9 : Value) = .slice none 0 0 ∧ p.l = []) := Lib.hid (by
                    rcases HD.out.l9 with h | ⟨h, _⟩
                    · exact h
                    · omega)
                  have hn := h15
                  clear h15
                  subst hn
                  go_wp2_with (first
                    | (go_at_call 47; refine hrr.mono ?_; rintro e w1 ⟨rfl, rfl⟩)
                    | (go_at_call 64; with_reducible refine htk.mono ?_; (rintro e w2 ⟨tv, tr, rfl, htv, htr, hb2⟩); obtain ⟨hq2, hp2, hbw2, hg2, ho2, hr2⟩ := HT2.out w2 hb2; obtain ⟨x0, x1, x2, x3, x4, x5, x6, x7, x8, x9⟩ := pcells hp2; have xf : ∀ j, w2.frozen? ⟨w.heap.size + 1, j, none⟩ = false := fun j => (by simp [World.frozen?, hp2]); have HZ := Lib.hid (Dp.zero hbw2 rfl hq2); have hQc := fun i => cell_of_row w2 w.heap.size i _ 75 (0, 0) hq2; have y0 := hQc 0; have y1 := hQc 1; have y2 := hQc 2; have y3 := hQc 3; have y4 := hQc 4; have y5 := hQc 5; have y6 := hQc 6; have y7 := hQc 7; have y8 := hQc 8; have y9 := hQc 9; have yf : ∀ j, w2.frozen? ⟨w.heap.size, j, none⟩ = false := fun j => (by simp [World.frozen?, hq2]); obtain ⟨tva, tvc, rfl⟩ := htv.shape; obtain ⟨tra, trc, rfl⟩ := htr.shape; have H2 := Lib.hid (And.intro hq2 (And.intro hp2 (And.intro hbw2 (And.intro hg2 (And.intro ho2 hr2))))); have HTV := Lib.hid htv; have HTR := Lib.hid htr; have HB2 := Lib.hid hb2; clear hQc hq2 hp2 hbw2 hg2 ho2 hr2 htv htr hb2))
                  have h3 := H2.out
                  have hn3 := Dp.noB h3.2.1
                  have hbt : But (w.heap.size + 1) w2 ((w2.setCell ⟨w.heap.size + 1, 3, none⟩ (.bool true)).setCell ⟨w.heap.size + 1, 6, none⟩ (.slice tva tvs.length tvc)) := (But.set w2 _ 3 _).trans (But.set _ _ 6 _)
                  have e1 := heap_setCell_same w2 (w.heap.size + 1) 3 _ 75 (.bool true) h3.2.1
                  have e2 := heap_setCell_same _ (w.heap.size + 1) 6 _ 75 (.slice tva tvs.length tvc) e1
                  have HST := Lib.hid (HD.out.step hpos HCUT.out HLL.out (p' := { p with ho := true, o := tvs }) (by simp [putP]) HTL.out (hbt.below h3.2.2.1 (Nat.le_succ _)) (by rw [hbt.block _ (Array.getElem?_eq_some_iff.1 h3.1).1 (by omega)]; exact h3.1) e2 (h3.2.2.2.1.but hbt hn3) (HTV.out.but hbt hn3) (h3.2.2.2.2.2.but hbt hn3) (.inl H9.out))
                  have HRR := Lib.hid (HTR.out.but hbt hn3)
                  have hsl := HTR.out.slenP
                  go_round
                  case rel => exact ⟨trs, 15, m + manyP 15, k - 1, _, _, _, _, _, HRR, rfl, by simp [manyP], HST⟩
                  case measure => exact HTL.out
                by_cases h16 : n1 = 16
                · have H9 : Hid ((.slice a9 p.l.length k9 : Value) = .slice none 0 0 ∧ p.l = []) := Lib.hid (by
                    rcases HD.out.l9 with h | ⟨h, _⟩
                    · exact h
                    · omega)
                  have hn := h16
                  clear h16
                  subst hn
                  go_wp2_with (first
                    | (go_at_call 47; refine hrr.mono ?_; rintro e w1 ⟨rfl, rfl⟩)
                    | (go_at_call 64; with_reducible refine htk.mono ?_; (rintro e w2 ⟨tv, tr, rfl, htv, htr, hb2⟩); obtain ⟨hq2, hp2, hbw2, hg2, ho2, hr2⟩ := HT2.out w2 hb2; obtain ⟨x0, x1, x2, x3, x4, x5, x6, x7, x8, x9⟩ := pcells hp2; have xf : ∀ j, w2.frozen? ⟨w.heap.size + 1, j, none⟩ = false := fun j => (by simp [World.frozen?, hp2]); have HZ := Lib.hid (Dp.zero hbw2 rfl hq2); have hQc := fun i => cell_of_row w2 w.heap.size i _ 75 (0, 0) hq2; have y0 := hQc 0; have y1 := hQc 1; have y2 := hQc 2; have y3 := hQc 3; have y4 := hQc 4; have y5 := hQc 5; have y6 := hQc 6; have y7 := hQc 7; have y8 := hQc 8; have y9 := hQc 9; have yf : ∀ j, w2.frozen? ⟨w.heap.size, j, none⟩ = false := fun j => (by simp [World.frozen?, hq2]); obtain ⟨tva, tvc, rfl⟩ := htv.shape; obtain ⟨tra, trc, rfl⟩ := htr.shape; have H2 := Lib.hid (And.intro hq2 (And.intro hp2 (And.intro hbw2 (And.intro hg2 (And.intro ho2 hr2))))); have HTV := Lib.hid htv; have HTR := Lib.hid htr; have HB2 := Lib.hid hb2; clear hQc hq2 hp2 hbw2 hg2 ho2 hr2 htv htr hb2))
                  have h3 := H2.out
                  have hn3 := Dp.noB h3.2.1
                  have hbt : But (w.heap.size + 1) w2 ((w2.setCell ⟨w.heap.size + 1, 4, none⟩ (.bool true)).setCell ⟨w.heap.size + 1, 7, none⟩ (.slice tva tvs.length tvc)) := (But.set w2 _ 4 _).trans (But.set _ _ 7 _)
                  have e1 := heap_setCell_same w2 (w.heap.size + 1) 4 _ 75 (.bool true) h3.2.1
                  have e2 := heap_setCell_same _ (w.heap.size + 1) 7 _ 75 (.slice tva tvs.length tvc) e1
                  have HST := Lib.hid (HD.out.step hpos HCUT.out HLL.out (p' := { p with hr := true, r := tvs }) (by simp [putP]) HTL.out (hbt.below h3.2.2.1 (Nat.le_succ _)) (by rw [hbt.block _ (Array.getElem?_eq_some_iff.1 h3.1).1 (by omega)]; exact h3.1) e2 (h3.2.2.2.1.but hbt hn3) (h3.2.2.2.2.1.but hbt hn3) (HTV.out.but hbt hn3) (.inl H9.out))
                  have HRR := Lib.hid (HTR.out.but hbt hn3)
                  have hsl := HTR.out.slenP
                  go_round
                  case rel => exact ⟨trs, 16, m + manyP 16, k - 1, _, _, _, _, _, HRR, rfl, by simp [manyP], HST⟩
                  case measure => exact HTL.out
                by_cases h17 : n1 = 17
                · have H9 : Hid ((.slice a9 p.l.length k9 : Value) = .slice none 0 0 ∧ p.l = []) := Lib.hid (by
                    rcases HD.out.l9 with h | ⟨h, _⟩
                    · exact h
                    · omega)
                  have hn := h17
                  clear h17
                  have HLN := HTKL
                  subst hn
                  by_cases hg4 : 4 ≤ tvs.length
                  · cases hq : ((tvs.length : Int) % 4 == 0) with
                    | true =>
                      have HQ := Lib.hid hq
                      go_wp2_with (first
                        | (go_at_call 47; refine hrr.mono ?_; rintro e w1 ⟨rfl, rfl⟩)
                        | (go_at_call 64; with_reducible refine htk.mono ?_; (rintro e w2 ⟨tv, tr, rfl, htv, htr, hb2⟩); obtain ⟨hq2, hp2, hbw2, hg2, ho2, hr2⟩ := HT2.out w2 hb2; obtain ⟨x0, x1, x2, x3, x4, x5, x6, x7, x8, x9⟩ := pcells hp2; have xf : ∀ j, w2.frozen? ⟨w.heap.size + 1, j, none⟩ = false := fun j => (by simp [World.frozen?, hp2]); have HZ := Lib.hid (Dp.zero hbw2 rfl hq2); have hQc := fun i => cell_of_row w2 w.heap.size i _ 75 (0, 0) hq2; have y0 := hQc 0; have y1 := hQc 1; have y2 := hQc 2; have y3 := hQc 3; have y4 := hQc 4; have y5 := hQc 5; have y6 := hQc 6; have y7 := hQc 7; have y8 := hQc 8; have y9 := hQc 9; have yf : ∀ j, w2.frozen? ⟨w.heap.size, j, none⟩ = false := fun j => (by simp [World.frozen?, hq2]); obtain ⟨tva, tvc, rfl⟩ := htv.shape; obtain ⟨tra, trc, rfl⟩ := htr.shape; have H2 := Lib.hid (And.intro hq2 (And.intro hp2 (And.intro hbw2 (And.intro hg2 (And.intro ho2 hr2))))); have HTV := Lib.hid htv; have HTR := Lib.hid htr; have HB2 := Lib.hid hb2; clear hQc hq2 hp2 hbw2 hg2 ho2 hr2 htv htr hb2))
                      have h3 := H2.out
                      have HN3 := Lib.hid (Dp.noB h3.2.1)
                      have hv0 : Vr w2 w2 (w.heap.size + 1) p (.slice a5 p.g.length k5) (.slice a6 p.o.length k6) (.slice a7 p.r.length k7) tvs 0 p (.slice none 0 0) [] := by
                        have hb := h3.2.1
                        rw [H9.out.1] at hb
                        exact ⟨hb, ⟨rfl, .inl ⟨rfl, rfl⟩⟩, But.refl _ _, .inl ⟨rfl, rfl, rfl⟩, Nat.zero_le _⟩
                      have HV0 := Lib.hid hv0
                      rcases HTV.out.cases with ⟨e, _⟩ | ⟨vb, voff, vc, e, _, _, _, _, _⟩
                      · rw [e] at hg4; simp at hg4
                      simp only [Value.slice.injEq] at e
                      obtain ⟨rfl, _, rfl⟩ := e
                      clear h3 hv0 x0 x1 x2 x3 x4 x5 x6 x7 x8 x9 xf y0 y1 y2 y3 y4 y5 y6 y7 y8 y9 yf
                      go_loopw [14] (fun iv w5 => ∃ (i : Nat) (pc : Pv) (u9 : Value) (done : List Int), iv = .int .i64 (i : Int) ∧ Hid (Vr w2 w5 (w.heap.size + 1) p (.slice a5 p.g.length k5) (.slice a6 p.o.length k6) (.slice a7 p.r.length k7) tvs i pc u9 done)) (fun iv _ => tvs.length - (intOf iv).toNat)
                      case atStart => exact ⟨0, _, _, _, rfl, HV0⟩
                      case round =>
                        obtain ⟨i, pc, u9, done, rfl, HV⟩ := hrel
                        have hile := HV.out.le
                        have hlenb := HLN.out
                        have a4 : IntKind.i64.wrap ((i : Int) + 4) = ((i + 4 : Nat) : Int) := wraps_i64 _ (by omega) (by omega)
                        by_cases hlt : i + 4 ≤ tvs.length
                        · have hrv := HTV.out.but HV.out.kqP HN3.out
                          have hbv := HTV.out.byt
                          have q0 := hrv.cellB (j := i) (by omega)
                          have q1 := hrv.cellB (j := i + 1) (by omega)
                          have q2 := hrv.cellB (j := i + 2) (by omega)
                          have q3 := hrv.cellB (j := i + 3) (by omega)
                          have b0 := hbv.get i
                          have b1 := hbv.get (i + 1)
                          have b2 := hbv.get (i + 2)
                          have b3 := hbv.get (i + 3)
                          have HS := Lib.hid (big4 hlt)
                          generalize tvs.getD i 0 = x0' at *
                          generalize tvs.getD (i + 1) 0 = x1' at *
                          generalize tvs.getD (i + 2) 0 = x2' at *
                          generalize tvs.getD (i + 3) 0 = x3' at *
                          have a1 : IntKind.i64.wrap ((i : Int) + 1) = ((i + 1 : Nat) : Int) := wraps_i64 _ (by omega) (by omega)
                          have a2 : IntKind.i64.wrap ((i : Int) + 2) = ((i + 2 : Nat) : Int) := wraps_i64 _ (by omega) (by omega)
                          have a3 : IntKind.i64.wrap ((i : Int) + 3) = ((i + 3 : Nat) : Int) := wraps_i64 _ (by omega) (by omega)
                          have e1 : IntKind.i64.wrap (x0' * 256) = x0' * 256 := wraps_i64 _ (by omega) (by omega)
                          have e2 : IntKind.i64.wrap (x0' * 256 + x1') = x0' * 256 + x1' := wraps_i64 _ (by omega) (by omega)
                          have e3 : IntKind.i64.wrap ((x0' * 256 + x1') * 256) = (x0' * 256 + x1') * 256 := wraps_i64 _ (by omega) (by omega)
                          have e4 : IntKind.i64.wrap ((x0' * 256 + x1') * 256 + x2') = (x0' * 256 + x1') * 256 + x2' := wraps_i64 _ (by omega) (by omega)
                          have e5 : IntKind.i64.wrap (((x0' * 256 + x1') * 256 + x2') * 256) = ((x0' * 256 + x1') * 256 + x2') * 256 := wraps_i64 _ (by omega) (by omega)
                          have e6 : IntKind.i64.wrap (((x0' * 256 + x1') * 256 + x2') * 256 + x3') = ((x0' * 256 + x1') * 256 + x2') * 256 + x3' := wraps_i64 _ (by omega) (by omega)
                          have v0 : IntKind.i64.wrap x0' = x0' := wraps_i64 _ (by omega) (by omega)
                          have v1 : IntKind.i64.wrap x1' = x1' := wraps_i64 _ (by omega) (by omega)
                          have v2 : IntKind.i64.wrap x2' = x2' := wraps_i64 _ (by omega) (by omega)
                          have v3 : IntKind.i64.wrap x3' = x3' := wraps_i64 _ (by omega) (by omega)
                          clear hrv hbv b0 b1 b2 b3 hile hlenb
                          have HVD := Lib.hid HV.out.drewN
                          go_wp2_with fail
                          go_quiet (fail)
                          rw [← HS.out]
                          have HVq := Lib.hid (HVD.out nq)
                          generalize hWq : wr.drewN nq = Wq at *
                          obtain ⟨X, hX⟩ : ∃ X, X = bigv ((tvs.drop i).take 4) 0 := ⟨_, rfl⟩
                          rw [← hX]
                          have HX := Lib.hid hX
                          clear hX
                          obtain ⟨g0, g1, g2, g3, g4, g5, g6, g7, g8, g9⟩ := pcells HVq.out.box
                          have gf : ∀ j, Wq.frozen? ⟨w.heap.size + 1, j, none⟩ = false := fun j => by simp [World.frozen?, HVq.out.box]
                          have hPW : w.heap.size + 1 < w2.heap.size := (Array.getElem?_eq_some_iff.1 H2.out.2.1).1
                          by_cases hi0 : i = 0
                          · subst hi0
                            have HF := Lib.hid (HVq.out.first hPW (by omega))
                            rw [show bigv (tvs.take 4) 0 = X from by rw [HX.out]; rfl] at HF
                            clear q0 q1 q2 q3
                            go_wp2_with fail
                            go_round
                            case rel => exact ⟨4, _, _, _, rfl, HF⟩
                            case measure => simp [intOf]; omega
                          · have hb0 : ((i : Int) == 0) = false := beq_eq_false_iff_ne.2 (by omega)
                            have hdl : done.length ≤ 1000000 := by
                              rcases HVq.out.st with ⟨_, _, h⟩ | ⟨_, _, h, _⟩
                              · rw [h]; exact Nat.zero_le _
                              · have := HLN.out; have := HVq.out.le; omega
                            have hszq : w2.heap.size ≤ Wq.heap.size := HVq.out.kqP.size
                            obtain ⟨v6, w6, hr6, ho6, hg6⟩ := run_onep (World.ownsRow.alloc HVq.out.own (.cells #[.int .i64 X] 3)) Wq.heap.size X (by simp [go_sem]) hdl (by simp; omega)
                            obtain ⟨a6', k6', rfl⟩ := own_shape ho6
                            obtain ⟨a9', k9', hu9⟩ := own_shape HVq.out.own
                            have hb6 : Below w2.heap.size Wq w6 := ((below_alloc Wq _).mono hszq).trans (below_own (World.ownsRow.alloc HVq.out.own (.cells #[.int .i64 X] 3)) (by simp; omega) hg6)
                            have HM := Lib.hid (HVq.out.more hPW hlt hi0 hb6 (by rw [← HX.out]; exact ho6))
                            rw [← HX.out] at HM
                            have hbx6 := HVq.out.box
                            rw [← hb6.block _ hPW] at hbx6
                            have hbA := HVq.out.box
                            rw [← (below_alloc Wq (.cells #[.int .i64 X] 3)).block (w.heap.size + 1) (by omega)] at hbA
                            obtain ⟨_, _, _, _, _, _, _, _, _, gA9⟩ := pcells hbA
                            obtain ⟨_, _, _, _, _, _, _, _, _, g69⟩ := pcells hbx6
                            have g6f : ∀ j, w6.frozen? ⟨w.heap.size + 1, j, none⟩ = false := fun j => by simp [World.frozen?, hbx6]
                            subst hu9
                            clear q0 q1 q2 q3 ho6 hg6 hb6 hbx6 hbA
                            go_wp2_with (at_builtin; refine wpList_run_ok (.tmp 138) (.tmp 140) _ rfl rfl rfl rfl hr6 ?_)
                            go_round
                            case rel => exact ⟨i + 4, _, _, _, rfl, HM⟩
                            case measure => simp [intOf]; omega
                        · have hq4 : (tvs.length : Int) % 4 = 0 := by simpa using HQ.out
                          obtain ⟨c, hpc, hby⟩ : ∃ c, pc = { p with c := c } ∧ by4 tvs = some (c :: done) := by
                            rcases HV.out.st with ⟨h0, _⟩ | ⟨c, h1, h2, h3⟩
                            · omega
                            · refine ⟨c, h1, ?_⟩
                              have hd : tvs.drop i = [] := List.drop_eq_nil_of_le (by omega)
                              rw [h3, hd]; simp [by4]
                          have hbt := HV.out.kqP
                          have hria := (ria_own HV.out.own).mono (lo' := w.heap.size + 2) (by have := (Array.getElem?_eq_some_iff.1 H2.out.2.1).1; omega)
                          have HST := Lib.hid (HD.out.step hpos HCUT.out HLL.out (p' := { p with c := c, l := done }) (by simp [putP, hby]) HTL.out (hbt.below H2.out.2.2.1 (Nat.le_succ _)) (by rw [hbt.block _ (Array.getElem?_eq_some_iff.1 H2.out.1).1 (by omega)]; exact H2.out.1) (by have hb := HV.out.box; rw [hpc] at hb; exact hb) (H2.out.2.2.2.1.but hbt HN3.out) (H2.out.2.2.2.2.1.but hbt HN3.out) (H2.out.2.2.2.2.2.but hbt HN3.out) (.inr ⟨by omega, hria⟩))
                          have HRR := Lib.hid (HTR.out.but hbt HN3.out)
                          clear hbt hria hby hpc
                          go_wp2_with fail
                          go_round
                          case rel => exact ⟨trs, 17, m + manyP 17, k - 1, _, _, _, _, _, HRR, rfl, by simp [manyP], HST⟩
                          case measure => exact HTL.out
                    | false =>
                      have HQ := Lib.hid hq
                      go_wp2_with (first
                        | (go_at_call 47; refine hrr.mono ?_; rintro e w1 ⟨rfl, rfl⟩)
                        | (go_at_call 64; with_reducible refine htk.mono ?_; (rintro e w2 ⟨tv, tr, rfl, htv, htr, hb2⟩); obtain ⟨hq2, hp2, hbw2, hg2, ho2, hr2⟩ := HT2.out w2 hb2; obtain ⟨x0, x1, x2, x3, x4, x5, x6, x7, x8, x9⟩ := pcells hp2; have xf : ∀ j, w2.frozen? ⟨w.heap.size + 1, j, none⟩ = false := fun j => (by simp [World.frozen?, hp2]); have HZ := Lib.hid (Dp.zero hbw2 rfl hq2); have hQc := fun i => cell_of_row w2 w.heap.size i _ 75 (0, 0) hq2; have y0 := hQc 0; have y1 := hQc 1; have y2 := hQc 2; have y3 := hQc 3; have y4 := hQc 4; have y5 := hQc 5; have y6 := hQc 6; have y7 := hQc 7; have y8 := hQc 8; have y9 := hQc 9; have yf : ∀ j, w2.frozen? ⟨w.heap.size, j, none⟩ = false := fun j => (by simp [World.frozen?, hq2]); obtain ⟨tva, tvc, rfl⟩ := htv.shape; obtain ⟨tra, trc, rfl⟩ := htr.shape; have H2 := Lib.hid (And.intro hq2 (And.intro hp2 (And.intro hbw2 (And.intro hg2 (And.intro ho2 hr2))))); have HTV := Lib.hid htv; have HTR := Lib.hid htr; have HB2 := Lib.hid hb2; clear hQc hq2 hp2 hbw2 hg2 ho2 hr2 htv htr hb2))
                      have h3 := H2.out
                      have HN3 := Lib.hid (Dp.noB h3.2.1)
                      have hv0 : Vr w2 w2 (w.heap.size + 1) p (.slice a5 p.g.length k5) (.slice a6 p.o.length k6) (.slice a7 p.r.length k7) tvs 0 p (.slice none 0 0) [] := by
                        have hb := h3.2.1
                        rw [H9.out.1] at hb
                        exact ⟨hb, ⟨rfl, .inl ⟨rfl, rfl⟩⟩, But.refl _ _, .inl ⟨rfl, rfl, rfl⟩, Nat.zero_le _⟩
                      have HV0 := Lib.hid hv0
                      rcases HTV.out.cases with ⟨e, _⟩ | ⟨vb, voff, vc, e, _, _, _, _, _⟩
                      · rw [e] at hg4; simp at hg4
                      simp only [Value.slice.injEq] at e
                      obtain ⟨rfl, _, rfl⟩ := e
                      clear h3 hv0 x0 x1 x2 x3 x4 x5 x6 x7 x8 x9 xf y0 y1 y2 y3 y4 y5 y6 y7 y8 y9 yf
                      go_loopw [14] (fun iv w5 => ∃ (i : Nat) (pc : Pv) (u9 : Value) (done : List Int), iv = .int .i64 (i : Int) ∧ Hid (Vr w2 w5 (w.heap.size + 1) p (.slice a5 p.g.length k5) (.slice a6 p.o.length k6) (.slice a7 p.r.length k7) tvs i pc u9 done)) (fun iv _ => tvs.length - (intOf iv).toNat)
                      case atStart => exact ⟨0, _, _, _, rfl, HV0⟩
                      case round =>
                        obtain ⟨i, pc, u9, done, rfl, HV⟩ := hrel
                        have hile := HV.out.le
                        have hlenb := HLN.out
                        have a4 : IntKind.i64.wrap ((i : Int) + 4) = ((i + 4 : Nat) : Int) := wraps_i64 _ (by omega) (by omega)
                        by_cases hlt : i + 4 ≤ tvs.length
                        · have hrv := HTV.out.but HV.out.kqP HN3.out
                          have hbv := HTV.out.byt
                          have q0 := hrv.cellB (j := i) (by omega)
                          have q1 := hrv.cellB (j := i + 1) (by omega)
                          have q2 := hrv.cellB (j := i + 2) (by omega)
                          have q3 := hrv.cellB (j := i + 3) (by omega)
                          have b0 := hbv.get i
                          have b1 := hbv.get (i + 1)
                          have b2 := hbv.get (i + 2)
                          have b3 := hbv.get (i + 3)
                          have HS := Lib.hid (big4 hlt)
                          generalize tvs.getD i 0 = x0' at *
                          generalize tvs.getD (i + 1) 0 = x1' at *
                          generalize tvs.getD (i + 2) 0 = x2' at *
                          generalize tvs.getD (i + 3) 0 = x3' at *
                          have a1 : IntKind.i64.wrap ((i : Int) + 1) = ((i + 1 : Nat) : Int) := wraps_i64 _ (by omega) (by omega)
                          have a2 : IntKind.i64.wrap ((i : Int) + 2) = ((i + 2 : Nat) : Int) := wraps_i64 _ (by omega) (by omega)
                          have a3 : IntKind.i64.wrap ((i : Int) + 3) = ((i + 3 : Nat) : Int) := wraps_i64 _ (by omega) (by omega)
                          have e1 : IntKind.i64.wrap (x0' * 256) = x0' * 256 := wraps_i64 _ (by omega) (by omega)
                          have e2 : IntKind.i64.wrap (x0' * 256 + x1') = x0' * 256 + x1' := wraps_i64 _ (by omega) (by omega)
                          have e3 : IntKind.i64.wrap ((x0' * 256 + x1') * 256) = (x0' * 256 + x1') * 256 := wraps_i64 _ (by omega) (by omega)
                          have e4 : IntKind.i64.wrap ((x0' * 256 + x1') * 256 + x2') = (x0' * 256 + x1') * 256 + x2' := wraps_i64 _ (by omega) (by omega)
                          have e5 : IntKind.i64.wrap (((x0' * 256 + x1') * 256 + x2') * 256) = ((x0' * 256 + x1') * 256 + x2') * 256 := wraps_i64 _ (by omega) (by omega)
                          have e6 : IntKind.i64.wrap (((x0' * 256 + x1') * 256 + x2') * 256 + x3') = ((x0' * 256 + x1') * 256 + x2') * 256 + x3' := wraps_i64 _ (by omega) (by omega)
                          have v0 : IntKind.i64.wrap x0' = x0' := wraps_i64 _ (by omega) (by omega)
                          have v1 : IntKind.i64.wrap x1' = x1' := wraps_i64 _ (by omega) (by omega)
                          have v2 : IntKind.i64.wrap x2' = x2' := wraps_i64 _ (by omega) (by omega)
                          have v3 : IntKind.i64.wrap x3' = x3' := wraps_i64 _ (by omega) (by omega)
                          clear hrv hbv b0 b1 b2 b3 hile hlenb
                          have HVD := Lib.hid HV.out.drewN
                          go_wp2_with fail
                          go_quiet (fail)
                          rw [← HS.out]
                          have HVq := Lib.hid (HVD.out nq)
                          generalize hWq : wr.drewN nq = Wq at *
                          obtain ⟨X, hX⟩ : ∃ X, X = bigv ((tvs.drop i).take 4) 0 := ⟨_, rfl⟩
                          rw [← hX]
                          have HX := Lib.hid hX
                          clear hX
                          obtain ⟨g0, g1, g2, g3, g4, g5, g6, g7, g8, g9⟩ := pcells HVq.out.box
                          have gf : ∀ j, Wq.frozen? ⟨w.heap.size + 1, j, none⟩ = false := fun j => by simp [World.frozen?, HVq.out.box]
                          have hPW : w.heap.size + 1 < w2.heap.size := (Array.getElem?_eq_some_iff.1 H2.out.2.1).1
                          by_cases hi0 : i = 0
                          · subst hi0
                            have HF := Lib.hid (HVq.out.first hPW (by omega))
                            rw [show bigv (tvs.take 4) 0 = X from by rw [HX.out]; rfl] at HF
                            clear q0 q1 q2 q3
                            go_wp2_with fail
                            go_round
                            case rel => exact ⟨4, _, _, _, rfl, HF⟩
                            case measure => simp [intOf]; omega
                          · have hb0 : ((i : Int) == 0) = false := beq_eq_false_iff_ne.2 (by omega)
                            have hdl : done.length ≤ 1000000 := by
                              rcases HVq.out.st with ⟨_, _, h⟩ | ⟨_, _, h, _⟩
                              · rw [h]; exact Nat.zero_le _
                              · have := HLN.out; have := HVq.out.le; omega
                            have hszq : w2.heap.size ≤ Wq.heap.size := HVq.out.kqP.size
                            obtain ⟨v6, w6, hr6, ho6, hg6⟩ := run_onep (World.ownsRow.alloc HVq.out.own (.cells #[.int .i64 X] 3)) Wq.heap.size X (by simp [go_sem]) hdl (by simp; omega)
                            obtain ⟨a6', k6', rfl⟩ := own_shape ho6
                            obtain ⟨a9', k9', hu9⟩ := own_shape HVq.out.own
                            have hb6 : Below w2.heap.size Wq w6 := ((below_alloc Wq _).mono hszq).trans (below_own (World.ownsRow.alloc HVq.out.own (.cells #[.int .i64 X] 3)) (by simp; omega) hg6)
                            have HM := Lib.hid (HVq.out.more hPW hlt hi0 hb6 (by rw [← HX.out]; exact ho6))
                            rw [← HX.out] at HM
                            have hbx6 := HVq.out.box
                            rw [← hb6.block _ hPW] at hbx6
                            have hbA := HVq.out.box
                            rw [← (below_alloc Wq (.cells #[.int .i64 X] 3)).block (w.heap.size + 1) (by omega)] at hbA
                            obtain ⟨_, _, _, _, _, _, _, _, _, gA9⟩ := pcells hbA
                            obtain ⟨_, _, _, _, _, _, _, _, _, g69⟩ := pcells hbx6
                            have g6f : ∀ j, w6.frozen? ⟨w.heap.size + 1, j, none⟩ = false := fun j => by simp [World.frozen?, hbx6]
                            subst hu9
                            clear q0 q1 q2 q3 ho6 hg6 hb6 hbx6 hbA
                            go_wp2_with (at_builtin; refine wpList_run_ok (.tmp 138) (.tmp 140) _ rfl rfl rfl rfl hr6 ?_)
                            go_round
                            case rel => exact ⟨i + 4, _, _, _, rfl, HM⟩
                            case measure => simp [intOf]; omega
                        · have hbt := HV.out.kqP
                          have hqq : wr.heap[w.heap.size]? = some (.cells #[.int .i64 0, .int .i64 0, .bool false, .bool false, .bool false, .slice none 0 0, .slice none 0 0, .slice none 0 0, .int .i64 0, .slice none 0 0] 75 (0, 0)) := by rw [hbt.block _ (Array.getElem?_eq_some_iff.1 H2.out.1).1 (by omega)]; exact H2.out.1
                          have HZ := Lib.hid (Dp.zero (hbt.below H2.out.2.2.1 (Nat.le_succ _)) rfl hqq)
                          have hQc := fun i => cell_of_row wr w.heap.size i _ 75 (0, 0) hqq
                          have y0 := hQc 0
                          have y1 := hQc 1
                          have y2 := hQc 2
                          have y3 := hQc 3
                          have y4 := hQc 4
                          have y5 := hQc 5
                          have y6 := hQc 6
                          have y7 := hQc 7
                          have y8 := hQc 8
                          have y9 := hQc 9
                          have yf : ∀ j, wr.frozen? ⟨w.heap.size, j, none⟩ = false := fun j => by simp [World.frozen?, hqq]
                          have HRES : Hid (resP zs = (p0, 3)) := Lib.hid (HN.out (by
                            rw [HD.out.run]
                            refine rf_low hpos HCUT.out (.inr ?_)
                            have h4 : by4 tvs = none := by
                              cases hb4 : by4 tvs with
                              | none => rfl
                              | some l =>
                                have := by4_len hb4
                                have hq4 : ¬ (tvs.length : Int) % 4 = 0 := by simpa using HQ.out
                                omega
                            simp [putP, h4]))
                          clear hQc hqq hbt
                          go_wp2_with fail
                          refine bodyPost_ret (rread_results _ _ w.heap.size _ _ _ _ _ _ _ _ _ _ 3 rfl rfl HZ.out.1) rfl ?_
                          exact rpost_no HRES.out HZ.out.2
                  · have HRES : Hid (resP zs = (p0, 3)) := Lib.hid (HN.out (by
                      rw [HD.out.run]
                      refine rf_low hpos HCUT.out (.inr ?_)
                      cases tvs with
                      | nil => simp [putP, by4]
                      | cons a r =>
                        have h4 : by4 (a :: r) = none := by4_few (by simp) (by omega)
                        simp [putP, h4]))
                    have hg4' : ¬ (4 : Int) ≤ (tvs.length : Int) := by omega
                    go_wp2_with (first
                      | (go_at_call 47; refine hrr.mono ?_; rintro e w1 ⟨rfl, rfl⟩)
                      | (go_at_call 64; with_reducible refine htk.mono ?_; (rintro e w2 ⟨tv, tr, rfl, htv, htr, hb2⟩); obtain ⟨hq2, hp2, hbw2, hg2, ho2, hr2⟩ := HT2.out w2 hb2; obtain ⟨x0, x1, x2, x3, x4, x5, x6, x7, x8, x9⟩ := pcells hp2; have xf : ∀ j, w2.frozen? ⟨w.heap.size + 1, j, none⟩ = false := fun j => (by simp [World.frozen?, hp2]); have HZ := Lib.hid (Dp.zero hbw2 rfl hq2); have hQc := fun i => cell_of_row w2 w.heap.size i _ 75 (0, 0) hq2; have y0 := hQc 0; have y1 := hQc 1; have y2 := hQc 2; have y3 := hQc 3; have y4 := hQc 4; have y5 := hQc 5; have y6 := hQc 6; have y7 := hQc 7; have y8 := hQc 8; have y9 := hQc 9; have yf : ∀ j, w2.frozen? ⟨w.heap.size, j, none⟩ = false := fun j => (by simp [World.frozen?, hq2]); obtain ⟨tva, tvc, rfl⟩ := htv.shape; obtain ⟨tra, trc, rfl⟩ := htr.shape; have H2 := Lib.hid (And.intro hq2 (And.intro hp2 (And.intro hbw2 (And.intro hg2 (And.intro ho2 hr2))))); have HTV := Lib.hid htv; have HTR := Lib.hid htr; have HB2 := Lib.hid hb2; clear hQc hq2 hp2 hbw2 hg2 ho2 hr2 htv htr hb2))
                    go_loopw [14] (fun iv w5 => iv = .int .i64 0 ∧ w2 = w5) (fun _ _ => 0)
                    case atStart => exact ⟨rfl, rfl⟩
                    case round =>
                      obtain ⟨rfl, rfl⟩ := hrel
                      go_wp2_with fail
                      refine bodyPost_ret (rread_results _ _ w.heap.size _ _ _ _ _ _ _ _ _ _ 3 rfl rfl HZ.out.1) rfl ?_
                      exact rpost_no HRES.out HZ.out.2
                have HRES : Hid (resP zs = (p0, 3)) := Lib.hid (HN.out (by
                  rw [HD.out.run]
                  exact rf_low hpos HCUT.out (.inr (by simp [putP, h0, h1, h4, h15, h16, h17]))))
                go_wp2_with (first
                  | (go_at_call 47; refine hrr.mono ?_; rintro e w1 ⟨rfl, rfl⟩)
                  | (go_at_call 64; with_reducible refine htk.mono ?_; (rintro e w2 ⟨tv, tr, rfl, htv, htr, hb2⟩); obtain ⟨hq2, hp2, hbw2, hg2, ho2, hr2⟩ := HT2.out w2 hb2; obtain ⟨x0, x1, x2, x3, x4, x5, x6, x7, x8, x9⟩ := pcells hp2; have xf : ∀ j, w2.frozen? ⟨w.heap.size + 1, j, none⟩ = false := fun j => (by simp [World.frozen?, hp2]); have HZ := Lib.hid (Dp.zero hbw2 rfl hq2); have hQc := fun i => cell_of_row w2 w.heap.size i _ 75 (0, 0) hq2; have y0 := hQc 0; have y1 := hQc 1; have y2 := hQc 2; have y3 := hQc 3; have y4 := hQc 4; have y5 := hQc 5; have y6 := hQc 6; have y7 := hQc 7; have y8 := hQc 8; have y9 := hQc 9; have yf : ∀ j, w2.frozen? ⟨w.heap.size, j, none⟩ = false := fun j => (by simp [World.frozen?, hq2]); obtain ⟨tva, tvc, rfl⟩ := htv.shape; obtain ⟨tra, trc, rfl⟩ := htr.shape; have H2 := Lib.hid (And.intro hq2 (And.intro hp2 (And.intro hbw2 (And.intro hg2 (And.intro ho2 hr2))))); have HTV := Lib.hid htv; have HTR := Lib.hid htr; have HB2 := Lib.hid hb2; clear hQc hq2 hp2 hbw2 hg2 ho2 hr2 htv htr hb2))
                refine bodyPost_ret (rread_results _ _ w.heap.size _ _ _ _ _ _ _ _ _ _ 3 rfl rfl HZ.out.1) rfl ?_
                exact rpost_no HRES.out HZ.out.2
              · have HRES : Hid (resP zs = (p0, 3)) := Lib.hid (HN.out (by
                  rw [HD.out.run]
                  refine rf_cut hpos ?_
                  rw [HC.out]; simp [hte]))
                unfold Took at htk
                dsimp only at htk
                go_wp2_with (first
                  | (go_at_call 47; refine hrr.mono ?_; rintro e w1 ⟨rfl, rfl⟩)
                  | (go_at_call 64; with_reducible refine htk.mono ?_; (rintro e w2 ⟨tv, tr, rfl, htv, htr, hb2⟩); obtain ⟨hq2, hp2, hbw2, hg2, ho2, hr2⟩ := HT2.out w2 hb2; obtain ⟨x0, x1, x2, x3, x4, x5, x6, x7, x8, x9⟩ := pcells hp2; have xf : ∀ j, w2.frozen? ⟨w.heap.size + 1, j, none⟩ = false := fun j => (by simp [World.frozen?, hp2]); have HZ := Lib.hid (Dp.zero hbw2 rfl hq2); have hQc := fun i => cell_of_row w2 w.heap.size i _ 75 (0, 0) hq2; have y0 := hQc 0; have y1 := hQc 1; have y2 := hQc 2; have y3 := hQc 3; have y4 := hQc 4; have y5 := hQc 5; have y6 := hQc 6; have y7 := hQc 7; have y8 := hQc 8; have y9 := hQc 9; have yf : ∀ j, w2.frozen? ⟨w.heap.size, j, none⟩ = false := fun j => (by simp [World.frozen?, hq2]); obtain ⟨tva, tvc, rfl⟩ := htv.shape; obtain ⟨tra, trc, rfl⟩ := htr.shape; have H2 := Lib.hid (And.intro hq2 (And.intro hp2 (And.intro hbw2 (And.intro hg2 (And.intro ho2 hr2))))); have HTV := Lib.hid htv; have HTR := Lib.hid htr; have HB2 := Lib.hid hb2; clear hQc hq2 hp2 hbw2 hg2 ho2 hr2 htv htr hb2))
                refine bodyPost_ret (rread_results _ _ w.heap.size _ _ _ _ _ _ _ _ _ _ 3 rfl rfl HZ.out.1) rfl ?_
                exact rpost_no HRES.out HZ.out.2
        · have hrd2 : rd rest = (0, 0, (rd rest).2.2) := Prod.ext e1 (Prod.ext e2 rfl)
          have HRES : Hid (resP zs = (p0, 3)) := Lib.hid (HN.out (by rw [hD.run]; exact rf_cut hpos (cut_no1 (by omega))))
          have hne : ¬ ((rd rest).2.2 = 0) := by omega
          rw [e1, e2] at hrr
          generalize (rd rest).2.2 = E at *
          clear hrd hD hz e1 e2 e3 hrd2 hbyt
          go_wp2_with (go_at_call 47; refine hrr.mono ?_; rintro e w1 ⟨rfl, rfl⟩)
          refine bodyPost_ret (rread_results _ _ w.heap.size _ _ _ _ _ _ _ _ _ _ 3 rfl rfl HZ.out.1) rfl ?_
          exact rpost_no HRES.out HZ.out.2
end Go.Proofs.YtefcjggmlhoebaaDoor
