/- law 6: of: a frame of the document as a frame of the program, with rows of its own. -/
import Derived.Test.YtgcgmgcgbnepeaaDoorGRd8
namespace Go.Proofs.YtgcgmgcgbnepeaaDoor
open Go Go.RowKit

/-- Where of's loop stands: k spans are taken over. -/
structure OfG (w : World) (X lo : Nat) (f : Fv) (sv dv du : Value) (k : Nat) (u : Value) (wr : World) : Prop where
  box : wr.heap[X]? = some (.cells (fCells f u du) 29 (0, 0))
  own : wr.ownsRow lo 56 2 u k (sc (f.sp.take k))
  dk : ∀ w', w'.heap.size ≥ wr.heap.size → (∀ b, b < lo → b ≠ X → w'.heap[b]? = wr.heap[b]?) → Ra (w.heap.size + 2) w' du f.d
  pl : Plain du
  bel : Below w.heap.size w wr
  src : wr.heap[w.heap.size]? = some (.cells (fCells f sv dv) 33 (0, 0))
  res : wr.heap[w.heap.size + 1]? = some (.cells (fCells ⟨0, 0, [], 0, [], 0⟩ (.slice none 0 0) (.slice none 0 0)) 29 (0, 0))
  ord : w.heap.size + 2 ≤ X ∧ X < lo ∧ lo ≤ wr.heap.size
  kl : k ≤ f.sp.length
theorem fcells_of {w : World} {g : Nat} {f : Fv} {sv dv : Value} {T : TypeId} (h : w.heap[g]? = some (.cells (fCells f sv dv) T (0, 0))) :
    w.cell? ⟨g, 0, none⟩ = some (.int .i64 f.k) ∧ w.cell? ⟨g, 1, none⟩ = some (.int .i64 f.c) ∧ w.cell? ⟨g, 2, none⟩ = some sv ∧ w.cell? ⟨g, 3, none⟩ = some (.int .i64 f.a) ∧ w.cell? ⟨g, 4, none⟩ = some dv ∧ w.cell? ⟨g, 5, none⟩ = some (.int .i64 f.t) ∧ ∀ j, w.frozen? ⟨g, j, none⟩ = false := by
  have hc := fun i => cell_of_row w g i _ _ (0, 0) h
  exact ⟨(hc 0).trans rfl, (hc 1).trans rfl, (hc 2).trans rfl, (hc 3).trans rfl, (hc 4).trans rfl, (hc 5).trans rfl, fun j => by simp [World.frozen?, h]⟩
/-- Six cells are stored. -/
def chain6 (w : World) (G : Nat) (c0 c1 c2 c3 c4 c5 : Value) : World := (((((w.setCell ⟨G, 0, none⟩ c0).setCell ⟨G, 1, none⟩ c1).setCell ⟨G, 2, none⟩ c2).setCell ⟨G, 3, none⟩ c3).setCell ⟨G, 4, none⟩ c4).setCell ⟨G, 5, none⟩ c5
theorem chain6_but (w : World) (G : Nat) (c0 c1 c2 c3 c4 c5 : Value) : But G w (chain6 w G c0 c1 c2 c3 c4 c5) :=
  (((((But.set w G 0 _).trans (But.set _ G 1 _)).trans (But.set _ G 2 _)).trans (But.set _ G 3 _)).trans (But.set _ G 4 _)).trans (But.set _ G 5 _)
theorem chain6_size (w : World) (G : Nat) (c0 c1 c2 c3 c4 c5 : Value) : (chain6 w G c0 c1 c2 c3 c4 c5).heap.size = w.heap.size := by simp [chain6, World.setCell]
theorem chain6_row {w : World} {G : Nat} {f : Fv} {sv dv : Value} {T : TypeId} (h : w.heap[G]? = some (.cells (fCells f sv dv) T (0, 0))) (f' : Fv) (su du : Value) : (chain6 w G (.int .i64 f'.k) (.int .i64 f'.c) su (.int .i64 f'.a) du (.int .i64 f'.t)).heap[G]? = some (.cells (fCells f' su du) T (0, 0)) := by
  have e0 := heap_setCell_same w G 0 _ T (.int .i64 f'.k) h
  have e1 := heap_setCell_same _ G 1 _ T (.int .i64 f'.c) e0
  have e2 := heap_setCell_same _ G 2 _ T su e1
  have e3 := heap_setCell_same _ G 3 _ T (.int .i64 f'.a) e2
  have e4 := heap_setCell_same _ G 4 _ T du e3
  exact heap_setCell_same _ G 5 _ T (.int .i64 f'.t) e4
theorem of_start {w W : World} {X : Nat} {f : Fv} {sv dv du : Value} (hx : W.heap[X]? = some (.cells (fCells ⟨0, 0, [], 0, [], 0⟩ (.slice none 0 0) (.slice none 0 0)) 29 (0, 0))) (hd : Ra (w.heap.size + 2) W du f.d) (hf : FarB X du f.d) (hp : Plain du) (hb : Below w.heap.size w W)
    (hs : W.heap[w.heap.size]? = some (.cells (fCells f sv dv) 33 (0, 0))) (hr : W.heap[w.heap.size + 1]? = some (.cells (fCells ⟨0, 0, [], 0, [], 0⟩ (.slice none 0 0) (.slice none 0 0)) 29 (0, 0))) (ho : w.heap.size + 2 ≤ X) :
    OfG w X W.heap.size f sv dv du 0 (.slice none 0 0) (chain6 W X (.int .i64 f.k) (.int .i64 f.c) (.slice none 0 0) (.int .i64 f.a) du (.int .i64 f.t)) := by
  have hbut := chain6_but W X (.int .i64 f.k) (.int .i64 f.c) (.slice none 0 0) (.int .i64 f.a) du (.int .i64 f.t)
  have hz := chain6_size W X (.int .i64 f.k) (.int .i64 f.c) (.slice none 0 0) (.int .i64 f.a) du (.int .i64 f.t)
  have hrow := chain6_row hx f (.slice none 0 0) du
  generalize chain6 W X (.int .i64 f.k) (.int .i64 f.c) (.slice none 0 0) (.int .i64 f.a) du (.int .i64 f.t) = W1 at *
  have hsz := hb.size
  have hxl : X < W.heap.size := (Array.getElem?_eq_some_iff.1 hx).1
  have hrl : w.heap.size + 1 < W.heap.size := (Array.getElem?_eq_some_iff.1 hr).1
  refine ⟨hrow, World.ownsRow_nil _ _ _ _, fun w' _ h' => ?_, hp, hbut.below hb (by omega), by rw [hbut.block _ (by omega) (by omega)]; exact hs, by rw [hbut.block _ (by omega) (by omega)]; exact hr, ⟨ho, hxl, by omega⟩, Nat.zero_le _⟩
  exact hd.keepG hf fun k hk hne => by rw [h' k hk hne, hbut.block k hk hne]
theorem of_start2 {w W : World} {X : Nat} {f : Fv} {sv dv du : Value} (hx : W.heap[X]? = some (.cells (fCells f (.slice none 0 0) du) 29 (0, 0))) (hd : Ra (w.heap.size + 2) W du f.d) (hf : FarB X du f.d) (hp : Plain du) (hb : Below w.heap.size w W)
    (hs : W.heap[w.heap.size]? = some (.cells (fCells f sv dv) 33 (0, 0))) (hr : W.heap[w.heap.size + 1]? = some (.cells (fCells ⟨0, 0, [], 0, [], 0⟩ (.slice none 0 0) (.slice none 0 0)) 29 (0, 0))) (ho : w.heap.size + 2 ≤ X) :
    OfG w X W.heap.size f sv dv du 0 (.slice none 0 0) W := by
  have hxl : X < W.heap.size := (Array.getElem?_eq_some_iff.1 hx).1
  exact ⟨hx, World.ownsRow_nil _ _ _ _, fun w' _ h' => hd.keepG hf fun k hk hne => h' k hk hne, hp, hb, hs, hr, ⟨ho, hxl, Nat.le_refl _⟩, Nat.zero_le _⟩
theorem OfG.step {w wr W W2 : World} {X lo : Nat} {f : Fv} {sv dv du u : Value} {k : Nat} (h : OfG w X lo f sv dv du k u wr) (hk : k < f.sp.length) (hW : Below wr.heap.size wr W) {u2 : Value} (ho : W2.ownsRow lo 56 2 u2 (k + 1) (sc (f.sp.take k ++ [f.sp.getD k (0, 0)]))) (hb : Below lo W W2) : OfG w X lo f sv dv du (k + 1) u2 (W2.setCell ⟨X, 2, none⟩ u2) := by
  obtain ⟨o1, o2, o3⟩ := h.ord
  have hws := hW.size
  have hz2 := hb.size
  have hall : ∀ b, b < lo → W2.heap[b]? = wr.heap[b]? := fun b hl => by rw [hb.block b hl, hW.block b (by omega)]
  have hbut := But.set W2 X 2 u2
  have hsz : (W2.setCell ⟨X, 2, none⟩ u2).heap.size = W2.heap.size := by simp [World.setCell]
  have hx2 : W2.heap[X]? = some (.cells (fCells f u du) 29 (0, 0)) := by rw [hall X o2]; exact h.box
  refine ⟨heap_setCell_same W2 X 2 _ _ u2 hx2, ?_, fun w' hs' h' => h.dk w' (by omega) fun b hl hne => by rw [h' b hl hne, hbut.block b (by omega) hne, hall b hl], h.pl, ?_, ?_, ?_, ⟨o1, o2, by omega⟩, hk⟩
  · have e : f.sp.take (k + 1) = f.sp.take k ++ [f.sp.getD k (0, 0)] := by
      rw [List.take_succ_eq_append_getElem hk]; simp [List.getD, List.getElem?_eq_getElem hk]
    rw [e]
    exact own_keepG ho fun b hb1 hl => hbut.block b hb1 (by omega)
  · exact hbut.below ((h.bel.trans (hW.mono (by omega))).trans (hb.mono (by omega))) (by omega)
  · rw [hbut.block _ (by omega) (by omega), hall _ (by omega)]; exact h.src
  · rw [hbut.block _ (by omega) (by omega), hall _ (by omega)]; exact h.res
/-- What of hands back. -/
def OfPost (w : World) (f : Fv) (e : Ending) (w' : World) : Prop := ∃ su du, e = .returned (fAgg f su du) ∧ RsA w.heap.size w' su f.sp ∧ Ra w.heap.size w' du f.d ∧ Plain du ∧ Below w.heap.size w w'
theorem OfG.fin {w wr : World} {X lo : Nat} {f : Fv} {sv dv du u : Value} (h : OfG w X lo f sv dv du f.sp.length u wr) : OfPost w f (.returned (fAgg f u du)) (chain6 wr (w.heap.size + 1) (.int .i64 f.k) (.int .i64 f.c) u (.int .i64 f.a) du (.int .i64 f.t)) := by
  obtain ⟨o1, o2, o3⟩ := h.ord
  have hbut := chain6_but wr (w.heap.size + 1) (.int .i64 f.k) (.int .i64 f.c) u (.int .i64 f.a) du (.int .i64 f.t)
  have hz := chain6_size wr (w.heap.size + 1) (.int .i64 f.k) (.int .i64 f.c) u (.int .i64 f.a) du (.int .i64 f.t)
  generalize chain6 wr (w.heap.size + 1) (.int .i64 f.k) (.int .i64 f.c) u (.int .i64 f.a) du (.int .i64 f.t) = W1 at *
  have hown := h.own
  rw [List.take_length] at hown
  have hdu := h.dk wr (Nat.le_refl _) fun _ _ _ => rfl
  refine ⟨u, du, rfl, (rsa_own (own_keepG hown fun b hb hl => hbut.block b hb (by omega))).mono (by omega), ?_, h.pl, hbut.below h.bel (by omega)⟩
  exact (hdu.keep fun b hb hl => hbut.block b hb (by omega)).mono (by omega)
/-- append of bytes onto a row of no room: what comes reads as they do. -/
theorem wp_append_fresh2 {w : World} {o : Oper} {a : Act} {K : Act → World → Prop} {Q : Exit → Act → World → Prop} (s x : Operand)
    (ho : o.op = .call { callee := .builtin .append, args := #[s, x], argTypes := #[26, 26] }) (g : Nat) (hs : a.eval s = .slice (some ⟨g, 0, none⟩) 0 0)
    (xv : Value) (zs : List Int) (hx : a.eval x = xv) (hr : Rd w xv zs) (hl : zs.length ≤ 1000000) {lo : Nat} (hlo : lo ≤ w.heap.size)
    (h : ∀ v' w', Ra lo w' v' zs → Plain v' → Below w.heap.size w w' → K (a.put o.dst v') w') : o.wp Tryd.prog a w K Q := by
  obtain ⟨i, hi, hz0, hz1, hz2⟩ := info_row5
  obtain ⟨ao, cap, rfl, h1, h2, h3, hbt, hc⟩ := hr
  have key : ∃ v' w', (Builtin.append_ #[26, 26] o.type #[.slice (some ⟨g, 0, none⟩) 0 0, .slice ao zs.length cap]).run Tryd.prog w = .ok v' w' ∧ Ra w.heap.size w' v' zs ∧ Plain v' ∧ Below w.heap.size w w' := by
    by_cases hzs : zs.length = 0
    · refine ⟨.slice (some ⟨g, 0, none⟩) 0 0, w, ?_, ?_, .inr ⟨_, _, _, _, rfl⟩, Below.refl _ _⟩
      · rw [hzs]
        cases ao <;> simp [Builtin.append_, run_underlying Tryd.underlying26, sizeOf, typeInfo, hi, Builtin.lenOf, Builtin.firstCells, storeCells, loadCells, loadCellsFrom]
      · obtain rfl := List.eq_nil_of_length_eq_zero hzs
        exact ⟨⟨_, 0, rfl, Nat.le_refl _, by simp [maxLen], (fun _ => rfl), Byt.nil, fun a _ j hj => by simp at hj⟩, fun _ _ _ _ hz => absurd rfl hz⟩
    · cases ao with
      | none => have := h3 rfl; omega
      | some ad =>
        obtain ⟨v', w', hrun, hown, hg⟩ := run_append_arg_grows (P := Tryd.prog) (w := w) 26 o.type 5 i (.int .u8 0) 1 1 Tryd.underlying26 hi hz0 hz1 hz2 rfl (by decide) ⟨g, 0, none⟩ 0 0 [] rfl (fun j u hu => by cases hu) ad zs.length cap (by8 zs) (by simp [by8_len])
          (fun j u hu => by
            have hj : j < zs.length := by
              have := (List.getElem?_eq_some_iff.1 hu).1
              simpa [by8_len] using this
            rw [by8_get zs j hj] at hu
            cases hu
            exact hc ad rfl j hj) (by omega) (by unfold maxLen; omega) (by omega)
        refine ⟨v', w', hrun, ⟨(Rd.of_own hown hbt).1, fun a n cap' e _ => ?_⟩, ?_, below_made hg⟩
        · subst e
          rcases hown.2 with ⟨e2, _⟩ | ⟨g2, cap2, cur, e2, hg2, _⟩
          · cases e2
          · cases e2; exact hg2
        · rcases hown.2 with ⟨e2, _⟩ | ⟨g2, cap2, cur, e2, hg2, _⟩
          · exact .inl e2
          · exact .inr ⟨_, _, _, _, e2⟩
  obtain ⟨v', w', hrun, hrd, hpl, hb⟩ := key
  unfold Oper.wp execOp
  simp only [ho, resolve, invoke, builtin, Sem.run_bind, Sem.run_pure, Result.andThen_ok, List.map_toArray, List.map_cons, List.map_nil, hs, hx, hrun]
  exact h v' w' (hrd.mono hlo) hpl hb
theorem step_append_fresh2 {w : World} {ops : Array Oper} {o : Oper} {a : Act} {K : Act → World → Prop} {Q : Exit → Act → World → Prop} {E : Prop} (hgd : o.guard = none) (s x : Operand)
    (ho : o.op = .call { callee := .builtin .append, args := #[s, x], argTypes := #[26, 26] }) (g : Nat) (hs : a.eval s = .slice (some ⟨g, 0, none⟩) 0 0)
    (xv : Value) (zs : List Int) (hx : a.eval x = xv) (hr : Rd w xv zs) (hl : zs.length ≤ 1000000) {lo : Nat} (hlo : lo ≤ w.heap.size)
    (h : ∀ v' w', Ra lo w' v' zs → Plain v' → Below w.heap.size w w' → K (a.put o.dst v') w') :
    if Region.wanted o (yielded ops a.tmps) = true then Oper.wp Tryd.prog o a w K Q else E := by
  have hw : Region.wanted o (yielded ops a.tmps) = true := by simp [Region.wanted, hgd]
  rw [if_pos hw]
  exact wp_append_fresh2 s x ho g hs xv zs hx hr hl hlo h

def zeroFr : Obj := .cells (fCells ⟨0, 0, [], 0, [], 0⟩ (.slice none 0 0) (.slice none 0 0)) 29
/-- The world behind region 0. -/
def of0 (w : World) (f : Fv) (sv dv : Value) : World := (w.alloc (.cells (fCells f sv dv) 33)).alloc zeroFr
theorem of0_size (w : World) (f : Fv) (sv dv : Value) : (of0 w f sv dv).heap.size = w.heap.size + 2 := by simp [of0]
theorem of0_below (w : World) (f : Fv) (sv dv : Value) : Below w.heap.size w (of0 w f sv dv) := (below_alloc w _).alloc (by simp) _
theorem of0_src (w : World) (f : Fv) (sv dv : Value) : (of0 w f sv dv).heap[w.heap.size]? = some (.cells (fCells f sv dv) 33 (0, 0)) := by
  have h := heap_alloc_new w (.cells (fCells f sv dv) 33)
  rw [of0, (below_alloc (w.alloc _) zeroFr).block _ (by simp)]
  exact h
theorem of0_res (w : World) (f : Fv) (sv dv : Value) : (of0 w f sv dv).heap[w.heap.size + 1]? = some (.cells (fCells ⟨0, 0, [], 0, [], 0⟩ (.slice none 0 0) (.slice none 0 0)) 29 (0, 0)) := by
  have h := heap_alloc_new (w.alloc (.cells (fCells f sv dv) 33)) zeroFr
  rw [World.size_alloc] at h
  exact h
/-- What holds of a world in region 1. -/
structure OfS (w : World) (f : Fv) (sv dv : Value) (W : World) : Prop where
  bel : Below w.heap.size w W
  src : W.heap[w.heap.size]? = some (.cells (fCells f sv dv) 33 (0, 0))
  res : W.heap[w.heap.size + 1]? = some (.cells (fCells ⟨0, 0, [], 0, [], 0⟩ (.slice none 0 0) (.slice none 0 0)) 29 (0, 0))
theorem OfS.size {w W : World} {f : Fv} {sv dv : Value} (h : OfS w f sv dv W) : w.heap.size + 2 ≤ W.heap.size := (Array.getElem?_eq_some_iff.1 h.res).1
theorem OfS.below {w W W' : World} {f : Fv} {sv dv : Value} (h : OfS w f sv dv W) (hb : Below W.heap.size W W') : OfS w f sv dv W' := by
  have := h.size
  exact ⟨h.bel.trans (hb.mono (by omega)), by rw [hb.block _ (by omega)]; exact h.src, by rw [hb.block _ (by omega)]; exact h.res⟩
theorem results11 {tmps : Array Value} {w : World} {G : Nat} {cs : Array Value} (hp : tmps.getD 2 undef = .pointer (some ⟨G, 0, none⟩)) (hg : w.heap[G]? = some (.cells cs 29 (0, 0))) (hs : cs.size = 6) :
    (results Tryd.f11 tmps).run Tryd.prog w = .ok (.agg cs) w := by
  obtain ⟨i, hi, hz⟩ : ∃ i, Tryd.prog.info? 29 = some i ∧ (i.zero.map (·.cells.size), i.size, i.bytes) = (some 6, 6, 80) := by
    have hinfo := info_frame
    cases he : Tryd.prog.info? 29 with
    | none => rw [he] at hinfo; cases hinfo
    | some i => rw [he] at hinfo; exact ⟨i, rfl, by simpa using hinfo⟩
  exact results_cell_row (fn := Tryd.f11) (p := 2) (ty := 29) Tryd.results11 tmps w G 29 cs (0, 0) _ hp hg Tryd.underlying29 rfl (by rw [hi, hs]; simp only [Prod.mk.injEq] at hz; simp [hz.2.1])

set_option maxRecDepth 20000 in
set_option maxHeartbeats 8000000 in
theorem gof_any {w : World} {k c a t : Int} {sp : List Sp} {d : List Int} {sv dv : Value} (hs : Rs w sv sp) (hd : Rd w dv d) (h1 : sp.length ≤ 50) (h2 : d.length ≤ 1100) :
    Calls Tryd.prog 11 #[fAgg ⟨k, c, sp, a, d, t⟩ sv dv] w (OfPost w ⟨k, c, sp, a, d, t⟩) := by
  have HSV := Lib.hid hs
  have HD := Lib.hid hd
  obtain ⟨sa, sn, rfl⟩ := rs_shape hs
  obtain ⟨da, dn, rfl⟩ := hd.shape
  have hw0 : (w.alloc (.cells #[.int .i64 k, .int .i64 c, .slice sa sp.length sn, .int .i64 a, .slice da d.length dn, .int .i64 t] 33)).alloc (.cells #[.int .i64 0, .int .i64 0, .slice none 0 0, .int .i64 0, .slice none 0 0, .int .i64 0] 29) = of0 w ⟨k, c, sp, a, d, t⟩ (.slice sa sp.length sn) (.slice da d.length dn) := rfl
  have HS0 : Hid (OfS w ⟨k, c, sp, a, d, t⟩ (.slice sa sp.length sn) (.slice da d.length dn) (of0 w ⟨k, c, sp, a, d, t⟩ (.slice sa sp.length sn) (.slice da d.length dn)).drew) := Lib.hid ⟨(of0_below _ _ _ _).drew, of0_src _ _ _ _, of0_res _ _ _ _⟩
  unfold fAgg
  clear hs hd
  go_enter Tryd.func11, Tryd.ntmps11
  go_wp2_with fail
  clear hw0
  generalize (of0 w ⟨k, c, sp, a, d, t⟩ (.slice sa sp.length sn) (.slice da d.length dn)) = V0 at *
  rename_i K hK
  have tail : ∀ (X lo gL : Nat) (d1 : Option Addr) (d2 : Nat) (W : World), OfG w X lo ⟨k, c, sp, a, d, t⟩ (.slice sa sp.length sn) (.slice da d.length dn) (.slice d1 d.length d2) 0 (.slice none 0 0) W → Exit.then K (bodyPost Tryd.prog Tryd.f11 (OfPost w ⟨k, c, sp, a, d, t⟩)) Exit.normal ⟨#[.agg #[.int .i64 k, .int .i64 c, .slice sa sp.length sn, .int .i64 a, .slice da d.length dn, .int .i64 t], .pointer (some ⟨w.heap.size, 0, none⟩), .pointer (some ⟨w.heap.size + 1, 0, none⟩), .pointer (some ⟨X, 0, none⟩), undef, .pointer (some ⟨w.heap.size, 0, none⟩), .int .i64 k, .pointer (some ⟨w.heap.size, 1, none⟩), .int .i64 c, .pointer (some ⟨w.heap.size, 3, none⟩), .int .i64 a, .slice (some ⟨gL, 0, none⟩) 0 0, .pointer (some ⟨w.heap.size, 4, none⟩), .slice da d.length dn, .slice d1 d.length d2, .pointer (some ⟨w.heap.size, 5, none⟩), .int .i64 t, .agg #[.int .i64 k, .int .i64 c, .slice none 0 0, .int .i64 a, .slice d1 d.length d2, .int .i64 t], undef, undef, undef, undef, undef, undef, undef, undef, undef, undef, undef, undef, undef, undef, undef, undef, undef, undef, undef, undef, undef, undef, undef, undef, undef, undef], []⟩ W := by
    intro X lo gL d1 d2 W hG
    have HG := Lib.hid hG
    have hl63 : sp.length ≤ 9223372036854775807 := by omega
    clear hG HS0
    go_wp2_with fail
    go_loopw [4] (fun i wr => ∃ (j : Nat) (u : Value), i = .int .i64 j ∧ Hid (OfG w X lo ⟨k, c, sp, a, d, t⟩ (.slice sa sp.length sn) (.slice da d.length dn) (.slice d1 d.length d2) j u wr)) (fun i _ => sp.length - (intOf i).toNat)
    case atStart => exact ⟨0, _, rfl, HG⟩
    case round =>
      rename_i wr
      obtain ⟨j, u, rfl, HGR⟩ := hrel
      have hjl := HGR.out.kl
      simp only at hjl
      have hj' : (j : Int) ≤ (sp.length : Int) := by omega
      obtain ⟨s0, s1, s2, s3, s4, s5, sf⟩ := fcells_of HGR.out.src
      obtain ⟨ua, uc, rfl⟩ := own_shape HGR.out.own
      clear s0 s1 s3 s4 s5 sf hjl
      by_cases hlt : j < sp.length
      · have hlt' : (j : Int) < (sp.length : Int) := by omega
        obtain ⟨b, off, cap, e0, hb, hat⟩ := HSV.out.at (by omega)
        simp only [Value.slice.injEq] at e0
        obtain ⟨rfl, _, rfl⟩ := e0
        obtain ⟨z1, z2⟩ := hat.below HGR.out.bel j hlt
        clear hat
        have HPP : Hid (sp.take j ++ [((sp.getD j (0, 0)).1, (sp.getD j (0, 0)).2)] = sp.take j ++ [sp.getD j (0, 0)]) := Lib.hid rfl
        generalize (sp.getD j (0, 0)).1 = p1 at *
        generalize (sp.getD j (0, 0)).2 = p2 at *
        obtain ⟨x0, x1, x2, x3, x4, x5, xf⟩ := fcells_of HGR.out.box
        have hown := HGR.out.own
        have HBX := HGR
        have HL : Hid (X < lo ∧ lo ≤ wr.heap.size ∧ w.heap.size < lo ∧ b < lo) := Lib.hid (by obtain ⟨o1, o2, o3⟩ := HGR.out.ord; omega)
        have HC := Lib.hid (And.intro x2 (And.intro s2 (And.intro z1 z2)))
        have HCL : Hid (∀ W W' : World, Below wr.heap.size wr W → Below lo W W' → (W'.cell? ⟨X, 2, none⟩ = some (.slice ua j uc) ∧ W'.cell? ⟨w.heap.size, 2, none⟩ = some (.slice (some ⟨b, off, none⟩) sp.length sn) ∧ W'.cell? ⟨b, off + j * 2, none⟩ = some (.int .i64 p1) ∧ W'.cell? ⟨b, off + j * 2 + 1, none⟩ = some (.int .i64 p2)) ∧ ∀ i, W'.frozen? ⟨X, i, none⟩ = false) := Lib.hid (by
          obtain ⟨l1, l2, l3, l4⟩ := HL.out
          intro W W' h1 h2
          refine ⟨⟨keepT h2 l1 (keepT h1 (by omega) x2), keepT h2 l3 (keepT h1 (by omega) s2), keepT h2 l4 (keepT h1 (by omega) z1), keepT h2 l4 (keepT h1 (by omega) z2)⟩, fun i => ?_⟩
          have e : W'.heap[X]? = wr.heap[X]? := by rw [h2.block X l1, h1.block X (by omega)]
          simp [World.frozen?, e, HGR.out.box])
        clear x0 x1 x2 x3 x4 x5 xf z1 z2
        obtain ⟨l1, l2, l3, l4⟩ := HL.out
        go_wp2_with fail
        clear s2
        refine wp_region_end 18 (fun w' => w'.cell? ⟨X, 2, none⟩ = some (.slice ua j uc) ∧ w'.cell? ⟨w.heap.size, 2, none⟩ = some (.slice (some ⟨b, off, none⟩) sp.length sn) ∧ w'.cell? ⟨b, off + j * 2, none⟩ = some (.int .i64 p1) ∧ w'.cell? ⟨b, off + j * 2 + 1, none⟩ = some (.int .i64 p2)) (by kernel_rfl) ?_
        refine wpAnyE_take [0] (i := 0) (oi := { dst := some 25, op := Op.fieldAddr 29 (Operand.tmp 3) 2, type := 0, pos := "law.go:14", after := #[], guard := none }) (v := ?_) rfl (by kernel_rfl) (by kernel_rfl) (by kernel_rfl) (by kernel_rfl) rfl rfl (by kernel_rfl) (by kernel_rfl) (fun _ _ _ h => h) (Or.inl ⟨by rfl, ?_⟩) (by exact HC.out) ?_
        rotate_left
        · intro w hSw; (try dsimp only at hSw); obtain ⟨r0, r1, r2, r3⟩ := hSw; go_simp; try (with_reducible rfl)
        repeat (first | simp only [Act.put] | simp only [List.setIfInBounds_toArray] | simp only [List.set_cons_zero] | simp only [List.set_cons_succ])
        refine wpAnyE_take [1] (i := 1) (oi := { dst := some 26, op := Op.load 25 (Operand.tmp 25), type := 25, pos := "law.go:14", after := #[{ on := 0, ground := Ground.data }], guard := none }) (v := ?_) rfl (by kernel_rfl) (by kernel_rfl) (by kernel_rfl) (by kernel_rfl) rfl rfl (by kernel_rfl) (by kernel_rfl) (fun _ _ _ h => h) (Or.inl ⟨by rfl, ?_⟩) (by exact HC.out) ?_
        rotate_left
        · intro w hSw; (try dsimp only at hSw); obtain ⟨r0, r1, r2, r3⟩ := hSw; go_simp; try (with_reducible rfl)
        repeat (first | simp only [Act.put] | simp only [List.setIfInBounds_toArray] | simp only [List.set_cons_zero] | simp only [List.set_cons_succ])
        refine wpAnyE_take [2] (i := 2) (oi := { dst := some 27, op := Op.fieldAddr 33 (Operand.tmp 1) 2, type := 0, pos := "law.go:14", after := #[], guard := none }) (v := ?_) rfl (by kernel_rfl) (by kernel_rfl) (by kernel_rfl) (by kernel_rfl) rfl rfl (by kernel_rfl) (by kernel_rfl) (fun _ _ _ h => h) (Or.inl ⟨by rfl, ?_⟩) (by exact HC.out) ?_
        rotate_left
        · intro w hSw; (try dsimp only at hSw); obtain ⟨r0, r1, r2, r3⟩ := hSw; go_simp; try (with_reducible rfl)
        repeat (first | simp only [Act.put] | simp only [List.setIfInBounds_toArray] | simp only [List.set_cons_zero] | simp only [List.set_cons_succ])
        refine wpAnyE_take [3] (i := 3) (oi := { dst := some 28, op := Op.load 31 (Operand.tmp 27), type := 31, pos := "law.go:14", after := #[{ on := 2, ground := Ground.data }], guard := none }) (v := ?_) rfl (by kernel_rfl) (by kernel_rfl) (by kernel_rfl) (by kernel_rfl) rfl rfl (by kernel_rfl) (by kernel_rfl) (fun _ _ _ h => h) (Or.inl ⟨by rfl, ?_⟩) (by exact HC.out) ?_
        rotate_left
        · intro w hSw; (try dsimp only at hSw); obtain ⟨r0, r1, r2, r3⟩ := hSw; go_simp; try (with_reducible rfl)
        repeat (first | simp only [Act.put] | simp only [List.setIfInBounds_toArray] | simp only [List.set_cons_zero] | simp only [List.set_cons_succ])
        refine wpAnyE_take [4] (i := 4) (oi := { dst := some 29, op := Op.move (Operand.tmp 4), type := 3, pos := "law.go:14", after := #[], guard := none }) (v := ?_) rfl (by kernel_rfl) (by kernel_rfl) (by kernel_rfl) (by kernel_rfl) rfl rfl (by kernel_rfl) (by kernel_rfl) (fun _ _ _ h => h) (Or.inl ⟨by rfl, ?_⟩) (by exact HC.out) ?_
        rotate_left
        · intro w hSw; (try dsimp only at hSw); obtain ⟨r0, r1, r2, r3⟩ := hSw; go_simp; try (with_reducible rfl)
        repeat (first | simp only [Act.put] | simp only [List.setIfInBounds_toArray] | simp only [List.set_cons_zero] | simp only [List.set_cons_succ])
        refine wpAnyE_take [5] (i := 5) (oi := { dst := some 30, op := Op.indexAddr 31 (Operand.tmp 28) (Operand.tmp 29), type := 0, pos := "law.go:14", after := #[{ on := 3, ground := Ground.data }, { on := 4, ground := Ground.data }], guard := none }) (v := ?_) rfl (by kernel_rfl) (by kernel_rfl) (by kernel_rfl) (by kernel_rfl) rfl rfl (by kernel_rfl) (by kernel_rfl) (fun _ _ _ h => h) (Or.inl ⟨by rfl, ?_⟩) (by exact HC.out) ?_
        rotate_left
        · intro w hSw; (try dsimp only at hSw); obtain ⟨r0, r1, r2, r3⟩ := hSw; go_simp; try (with_reducible rfl)
        repeat (first | simp only [Act.put] | simp only [List.setIfInBounds_toArray] | simp only [List.set_cons_zero] | simp only [List.set_cons_succ])
        refine wpAnyE_take [6] (i := 6) (oi := { dst := some 31, op := Op.fieldAddr 55 (Operand.tmp 30) 0, type := 0, pos := "law.go:14", after := #[{ on := 5, ground := Ground.data }], guard := none }) (v := ?_) rfl (by kernel_rfl) (by kernel_rfl) (by kernel_rfl) (by kernel_rfl) rfl rfl (by kernel_rfl) (by kernel_rfl) (fun _ _ _ h => h) (Or.inl ⟨by rfl, ?_⟩) (by exact HC.out) ?_
        rotate_left
        · intro w hSw; (try dsimp only at hSw); obtain ⟨r0, r1, r2, r3⟩ := hSw; go_simp; try (with_reducible rfl)
        repeat (first | simp only [Act.put] | simp only [List.setIfInBounds_toArray] | simp only [List.set_cons_zero] | simp only [List.set_cons_succ])
        refine wpAnyE_take [7] (i := 7) (oi := { dst := some 32, op := Op.load 3 (Operand.tmp 31), type := 3, pos := "law.go:14", after := #[{ on := 6, ground := Ground.data }], guard := none }) (v := ?_) rfl (by kernel_rfl) (by kernel_rfl) (by kernel_rfl) (by kernel_rfl) rfl rfl (by kernel_rfl) (by kernel_rfl) (fun _ _ _ h => h) (Or.inl ⟨by rfl, ?_⟩) (by exact HC.out) ?_
        rotate_left
        · intro w hSw; (try dsimp only at hSw); obtain ⟨r0, r1, r2, r3⟩ := hSw; go_simp; try (with_reducible rfl)
        repeat (first | simp only [Act.put] | simp only [List.setIfInBounds_toArray] | simp only [List.set_cons_zero] | simp only [List.set_cons_succ])
        refine wpAnyE_take [8] (i := 8) (oi := { dst := some 33, op := Op.fieldAddr 33 (Operand.tmp 1) 2, type := 0, pos := "law.go:14", after := #[], guard := none }) (v := ?_) rfl (by kernel_rfl) (by kernel_rfl) (by kernel_rfl) (by kernel_rfl) rfl rfl (by kernel_rfl) (by kernel_rfl) (fun _ _ _ h => h) (Or.inl ⟨by rfl, ?_⟩) (by exact HC.out) ?_
        rotate_left
        · intro w hSw; (try dsimp only at hSw); obtain ⟨r0, r1, r2, r3⟩ := hSw; go_simp; try (with_reducible rfl)
        repeat (first | simp only [Act.put] | simp only [List.setIfInBounds_toArray] | simp only [List.set_cons_zero] | simp only [List.set_cons_succ])
        refine wpAnyE_take [9] (i := 9) (oi := { dst := some 34, op := Op.load 31 (Operand.tmp 33), type := 31, pos := "law.go:14", after := #[{ on := 8, ground := Ground.data }], guard := none }) (v := ?_) rfl (by kernel_rfl) (by kernel_rfl) (by kernel_rfl) (by kernel_rfl) rfl rfl (by kernel_rfl) (by kernel_rfl) (fun _ _ _ h => h) (Or.inl ⟨by rfl, ?_⟩) (by exact HC.out) ?_
        rotate_left
        · intro w hSw; (try dsimp only at hSw); obtain ⟨r0, r1, r2, r3⟩ := hSw; go_simp; try (with_reducible rfl)
        repeat (first | simp only [Act.put] | simp only [List.setIfInBounds_toArray] | simp only [List.set_cons_zero] | simp only [List.set_cons_succ])
        refine wpAnyE_take [10] (i := 10) (oi := { dst := some 35, op := Op.move (Operand.tmp 4), type := 3, pos := "law.go:14", after := #[], guard := none }) (v := ?_) rfl (by kernel_rfl) (by kernel_rfl) (by kernel_rfl) (by kernel_rfl) rfl rfl (by kernel_rfl) (by kernel_rfl) (fun _ _ _ h => h) (Or.inl ⟨by rfl, ?_⟩) (by exact HC.out) ?_
        rotate_left
        · intro w hSw; (try dsimp only at hSw); obtain ⟨r0, r1, r2, r3⟩ := hSw; go_simp; try (with_reducible rfl)
        repeat (first | simp only [Act.put] | simp only [List.setIfInBounds_toArray] | simp only [List.set_cons_zero] | simp only [List.set_cons_succ])
        refine wpAnyE_take [11] (i := 11) (oi := { dst := some 36, op := Op.indexAddr 31 (Operand.tmp 34) (Operand.tmp 35), type := 0, pos := "law.go:14", after := #[{ on := 9, ground := Ground.data }, { on := 10, ground := Ground.data }], guard := none }) (v := ?_) rfl (by kernel_rfl) (by kernel_rfl) (by kernel_rfl) (by kernel_rfl) rfl rfl (by kernel_rfl) (by kernel_rfl) (fun _ _ _ h => h) (Or.inl ⟨by rfl, ?_⟩) (by exact HC.out) ?_
        rotate_left
        · intro w hSw; (try dsimp only at hSw); obtain ⟨r0, r1, r2, r3⟩ := hSw; go_simp; try (with_reducible rfl)
        repeat (first | simp only [Act.put] | simp only [List.setIfInBounds_toArray] | simp only [List.set_cons_zero] | simp only [List.set_cons_succ])
        refine wpAnyE_take [12] (i := 12) (oi := { dst := some 37, op := Op.fieldAddr 55 (Operand.tmp 36) 1, type := 0, pos := "law.go:14", after := #[{ on := 11, ground := Ground.data }], guard := none }) (v := ?_) rfl (by kernel_rfl) (by kernel_rfl) (by kernel_rfl) (by kernel_rfl) rfl rfl (by kernel_rfl) (by kernel_rfl) (fun _ _ _ h => h) (Or.inl ⟨by rfl, ?_⟩) (by exact HC.out) ?_
        rotate_left
        · intro w hSw; (try dsimp only at hSw); obtain ⟨r0, r1, r2, r3⟩ := hSw; go_simp; try (with_reducible rfl)
        repeat (first | simp only [Act.put] | simp only [List.setIfInBounds_toArray] | simp only [List.set_cons_zero] | simp only [List.set_cons_succ])
        refine wpAnyE_take [13] (i := 13) (oi := { dst := some 38, op := Op.load 3 (Operand.tmp 37), type := 3, pos := "law.go:14", after := #[{ on := 12, ground := Ground.data }], guard := none }) (v := ?_) rfl (by kernel_rfl) (by kernel_rfl) (by kernel_rfl) (by kernel_rfl) rfl rfl (by kernel_rfl) (by kernel_rfl) (fun _ _ _ h => h) (Or.inl ⟨by rfl, ?_⟩) (by exact HC.out) ?_
        rotate_left
        · intro w hSw; (try dsimp only at hSw); obtain ⟨r0, r1, r2, r3⟩ := hSw; go_simp; try (with_reducible rfl)
        repeat (first | simp only [Act.put] | simp only [List.setIfInBounds_toArray] | simp only [List.set_cons_zero] | simp only [List.set_cons_succ])
        refine wpAnyE_take [14] (i := 14) (oi := { dst := some 39, op := Op.build 56 #[(0, Operand.tmp 32), (1, Operand.tmp 38)], type := 56, pos := "law.go:14", after := #[{ on := 7, ground := Ground.data }, { on := 13, ground := Ground.data }], guard := none }) (v := ?_) rfl (by kernel_rfl) (by kernel_rfl) (by kernel_rfl) (by kernel_rfl) rfl rfl (by kernel_rfl) (by kernel_rfl) (fun _ _ _ h => h) (Or.inl ⟨by rfl, ?_⟩) (by exact HC.out) ?_
        rotate_left
        · intro w hSw; (try dsimp only at hSw); obtain ⟨r0, r1, r2, r3⟩ := hSw; go_simp; try (with_reducible rfl)
        repeat (first | simp only [Act.put] | simp only [List.setIfInBounds_toArray] | simp only [List.set_cons_zero] | simp only [List.set_cons_succ])
        refine wpAnyE_one (i := 15) (o := { dst := some 40, op := Op.buildSlice 25 1 #[(0, Operand.tmp 39)], type := 25, pos := "law.go:14", after := #[{ on := 14, ground := Ground.data }], guard := none }) (by kernel_rfl) rfl (fun K hK => ?_)
        go_simp
        have HW : Hid (Below wr.heap.size wr (wr.alloc (.cells #[.int .i64 p1, .int .i64 p2] 56)).drew) := Lib.hid (below_alloc wr (.cells #[.int .i64 p1, .int .i64 p2] 56)).drew
        have hrs := lit_span wr p1 p2
        have HC2 := Lib.hid (HCL.out _ _ HW.out (Below.refl _ _)).1
        refine hK.out _ _ (fun hL => ?_) ?_
        · exact HC2.out
        clear hK K
        repeat (first | simp only [Act.put] | simp only [List.setIfInBounds_toArray] | simp only [List.set_cons_zero] | simp only [List.set_cons_succ])
        refine wpAnyE_one (i := 16) (o := { dst := some 41, op := Op.call { callee := Callee.builtin Builtin.append, args := #[Operand.tmp 26, Operand.tmp 40], argTypes := #[25, 25] }, type := 25, pos := "law.go:14", after := #[{ on := 1, ground := Ground.data }, { on := 15, ground := Ground.data }], guard := none }) (by kernel_rfl) rfl (fun K hK => ?_)
        refine step_append_spans (w := (wr.alloc (.cells #[.int .i64 p1, .int .i64 p2] 56)).drew) (by rfl) _ _ (by rfl) Tryd.underlying25 lo (.slice ua j uc) j (sp.take j) (by rfl) (own_keepG hown fun b0 h0 _ => HW.out.block b0 h0) _ [(p1, p2)] (by rfl) hrs (by simp; omega) (by have := HW.out.size; omega) ?_
        intro v5 w5 hown5 hb5 hgr5
        have HC5 := Lib.hid (HCL.out _ _ HW.out hb5).1
        have jf := (HCL.out _ _ HW.out hb5).2
        have HST := Lib.hid (HGR.out.step hlt HW.out (HPP.out ▸ hown5) hb5)
        obtain ⟨a5, k5, rfl⟩ := own_shape hown5
        refine hK.out _ _ (fun hL => ?_) ?_
        · exact HC5.out
        clear hK K
        repeat (first | simp only [Act.put] | simp only [List.setIfInBounds_toArray] | simp only [List.set_cons_zero] | simp only [List.set_cons_succ])
        refine wpAnyE_take [17] (i := 17) (oi := { dst := some 42, op := Op.fieldAddr 29 (Operand.tmp 3) 2, type := 0, pos := "law.go:14", after := #[{ on := 0, ground := Ground.phase }, { on := 1, ground := Ground.phase }, { on := 2, ground := Ground.phase }, { on := 3, ground := Ground.phase }, { on := 4, ground := Ground.phase }, { on := 5, ground := Ground.phase }, { on := 6, ground := Ground.phase }, { on := 7, ground := Ground.phase }, { on := 8, ground := Ground.phase }, { on := 9, ground := Ground.phase }, { on := 10, ground := Ground.phase }, { on := 11, ground := Ground.phase }, { on := 12, ground := Ground.phase }, { on := 13, ground := Ground.phase }, { on := 14, ground := Ground.phase }, { on := 15, ground := Ground.phase }, { on := 16, ground := Ground.phase }], guard := none }) (v := ?_) rfl (by kernel_rfl) (by kernel_rfl) (by kernel_rfl) (by kernel_rfl) rfl rfl (by kernel_rfl) (by kernel_rfl) (fun _ _ _ h => h) (Or.inl ⟨by rfl, ?_⟩) (by exact HC5.out) ?_
        rotate_left
        · intro w hSw; (try dsimp only at hSw); obtain ⟨r0, r1, r2, r3⟩ := hSw; go_simp; try (with_reducible rfl)
        repeat (first | simp only [Act.put] | simp only [List.setIfInBounds_toArray] | simp only [List.set_cons_zero] | simp only [List.set_cons_succ])
        refine wpAnyE_one (i := 18) (o := { dst := none, op := Op.store 25 (Operand.tmp 42) (Operand.tmp 41), type := 0, pos := "law.go:14", after := #[{ on := 17, ground := Ground.data }, { on := 16, ground := Ground.data }, { on := 16, ground := Ground.chain }, { on := 0, ground := Ground.phase }, { on := 1, ground := Ground.phase }, { on := 2, ground := Ground.phase }, { on := 3, ground := Ground.phase }, { on := 4, ground := Ground.phase }, { on := 5, ground := Ground.phase }, { on := 6, ground := Ground.phase }, { on := 7, ground := Ground.phase }, { on := 8, ground := Ground.phase }, { on := 9, ground := Ground.phase }, { on := 10, ground := Ground.phase }, { on := 11, ground := Ground.phase }, { on := 12, ground := Ground.phase }, { on := 13, ground := Ground.phase }, { on := 14, ground := Ground.phase }, { on := 15, ground := Ground.phase }, { on := 16, ground := Ground.phase }], guard := none }) (by kernel_rfl) rfl (fun K hK => ?_)
        obtain ⟨r0, r1, r2, r3⟩ := HC5.out
        go_simp
        refine hK.out _ _ (fun hL => absurd hL (by decide)) ?_
        clear hK K
        repeat (first | simp only [Act.put] | simp only [List.setIfInBounds_toArray] | simp only [List.set_cons_zero] | simp only [List.set_cons_succ])
        refine wpAnyE_done (by kernel_rfl) ?_ _
        go_wp2_with fail
        go_roundw
        case rel => exact ⟨j + 1, _, by go_num, HST⟩
        case measure => simp [intOf]; omega

      · obtain rfl : j = sp.length := by omega
        obtain ⟨x0, x1, x2, x3, x4, x5, xf⟩ := fcells_of HGR.out.box
        obtain ⟨y0, y1, y2, y3, y4, y5, yf⟩ := fcells_of HGR.out.res
        go_wp2_with fail
        clear x0 x1 x2 x3 x4 x5 xf y0 y1 y2 y3 y4 y5 yf
        exact bodyPost_ret (v := fAgg ⟨k, c, sp, a, d, t⟩ (.slice ua sp.length uc) (.slice d1 d.length d2)) (results11 rfl (chain6_row HGR.out.res ⟨k, c, sp, a, d, t⟩ _ _) rfl) rfl HGR.out.fin
  have HTL := Lib.hid tail
  clear tail
  refine wp_region_end 14 (fun w' => OfS w ⟨k, c, sp, a, d, t⟩ (.slice sa sp.length sn) (.slice da d.length dn) w') (by kernel_rfl) ?_
  refine wpAnyE_take [0] (i := 0) (oi := { dst := some 5, op := Op.fieldAddr 33 (Operand.tmp 1) 0, type := 0, pos := "law.go:12", after := #[], guard := none }) (v := ?_) rfl (by kernel_rfl) (by kernel_rfl) (by kernel_rfl) (by kernel_rfl) rfl rfl (by kernel_rfl) (by kernel_rfl) (fun _ _ _ h => h) (Or.inl ⟨by rfl, ?_⟩) (by exact HS0.out) ?_
  rotate_left
  · intro w hSw; (try dsimp only at hSw); obtain ⟨r0, r1, r2, r3, r4, r5, rf⟩ := fcells_of hSw.src; go_simp; try (with_reducible rfl)
  repeat (first | simp only [Act.put] | simp only [List.setIfInBounds_toArray] | simp only [List.set_cons_zero] | simp only [List.set_cons_succ])
  refine wpAnyE_take [1] (i := 1) (oi := { dst := some 6, op := Op.load 3 (Operand.tmp 5), type := 3, pos := "law.go:12", after := #[{ on := 0, ground := Ground.data }], guard := none }) (v := ?_) rfl (by kernel_rfl) (by kernel_rfl) (by kernel_rfl) (by kernel_rfl) rfl rfl (by kernel_rfl) (by kernel_rfl) (fun _ _ _ h => h) (Or.inl ⟨by rfl, ?_⟩) (by exact HS0.out) ?_
  rotate_left
  · intro w hSw; (try dsimp only at hSw); obtain ⟨r0, r1, r2, r3, r4, r5, rf⟩ := fcells_of hSw.src; go_simp; try (with_reducible rfl)
  repeat (first | simp only [Act.put] | simp only [List.setIfInBounds_toArray] | simp only [List.set_cons_zero] | simp only [List.set_cons_succ])
  refine wpAnyE_take [2] (i := 2) (oi := { dst := some 7, op := Op.fieldAddr 33 (Operand.tmp 1) 1, type := 0, pos := "law.go:12", after := #[], guard := none }) (v := ?_) rfl (by kernel_rfl) (by kernel_rfl) (by kernel_rfl) (by kernel_rfl) rfl rfl (by kernel_rfl) (by kernel_rfl) (fun _ _ _ h => h) (Or.inl ⟨by rfl, ?_⟩) (by exact HS0.out) ?_
  rotate_left
  · intro w hSw; (try dsimp only at hSw); obtain ⟨r0, r1, r2, r3, r4, r5, rf⟩ := fcells_of hSw.src; go_simp; try (with_reducible rfl)
  repeat (first | simp only [Act.put] | simp only [List.setIfInBounds_toArray] | simp only [List.set_cons_zero] | simp only [List.set_cons_succ])
  refine wpAnyE_take [3] (i := 3) (oi := { dst := some 8, op := Op.load 3 (Operand.tmp 7), type := 3, pos := "law.go:12", after := #[{ on := 2, ground := Ground.data }], guard := none }) (v := ?_) rfl (by kernel_rfl) (by kernel_rfl) (by kernel_rfl) (by kernel_rfl) rfl rfl (by kernel_rfl) (by kernel_rfl) (fun _ _ _ h => h) (Or.inl ⟨by rfl, ?_⟩) (by exact HS0.out) ?_
  rotate_left
  · intro w hSw; (try dsimp only at hSw); obtain ⟨r0, r1, r2, r3, r4, r5, rf⟩ := fcells_of hSw.src; go_simp; try (with_reducible rfl)
  repeat (first | simp only [Act.put] | simp only [List.setIfInBounds_toArray] | simp only [List.set_cons_zero] | simp only [List.set_cons_succ])
  refine wpAnyE_take [4] (i := 4) (oi := { dst := some 9, op := Op.fieldAddr 33 (Operand.tmp 1) 3, type := 0, pos := "law.go:12", after := #[], guard := none }) (v := ?_) rfl (by kernel_rfl) (by kernel_rfl) (by kernel_rfl) (by kernel_rfl) rfl rfl (by kernel_rfl) (by kernel_rfl) (fun _ _ _ h => h) (Or.inl ⟨by rfl, ?_⟩) (by exact HS0.out) ?_
  rotate_left
  · intro w hSw; (try dsimp only at hSw); obtain ⟨r0, r1, r2, r3, r4, r5, rf⟩ := fcells_of hSw.src; go_simp; try (with_reducible rfl)
  repeat (first | simp only [Act.put] | simp only [List.setIfInBounds_toArray] | simp only [List.set_cons_zero] | simp only [List.set_cons_succ])
  refine wpAnyE_take [5] (i := 5) (oi := { dst := some 10, op := Op.load 3 (Operand.tmp 9), type := 3, pos := "law.go:12", after := #[{ on := 4, ground := Ground.data }], guard := none }) (v := ?_) rfl (by kernel_rfl) (by kernel_rfl) (by kernel_rfl) (by kernel_rfl) rfl rfl (by kernel_rfl) (by kernel_rfl) (fun _ _ _ h => h) (Or.inl ⟨by rfl, ?_⟩) (by exact HS0.out) ?_
  rotate_left
  · intro w hSw; (try dsimp only at hSw); obtain ⟨r0, r1, r2, r3, r4, r5, rf⟩ := fcells_of hSw.src; go_simp; try (with_reducible rfl)
  repeat (first | simp only [Act.put] | simp only [List.setIfInBounds_toArray] | simp only [List.set_cons_zero] | simp only [List.set_cons_succ])
  refine wpAnyE_take [7] (i := 7) (oi := { dst := some 12, op := Op.fieldAddr 33 (Operand.tmp 1) 4, type := 0, pos := "law.go:12", after := #[], guard := none }) (v := ?_) rfl (by kernel_rfl) (by kernel_rfl) (by kernel_rfl) (by kernel_rfl) rfl rfl (by kernel_rfl) (by kernel_rfl) (fun _ _ _ h => h) (Or.inl ⟨by rfl, ?_⟩) (by exact HS0.out) ?_
  rotate_left
  · intro w hSw; (try dsimp only at hSw); obtain ⟨r0, r1, r2, r3, r4, r5, rf⟩ := fcells_of hSw.src; go_simp; try (with_reducible rfl)
  repeat (first | simp only [Act.put] | simp only [List.setIfInBounds_toArray] | simp only [List.set_cons_zero] | simp only [List.set_cons_succ])
  refine wpAnyE_take [8] (i := 8) (oi := { dst := some 13, op := Op.load 26 (Operand.tmp 12), type := 26, pos := "law.go:12", after := #[{ on := 7, ground := Ground.data }], guard := none }) (v := ?_) rfl (by kernel_rfl) (by kernel_rfl) (by kernel_rfl) (by kernel_rfl) rfl rfl (by kernel_rfl) (by kernel_rfl) (fun _ _ _ h => h) (Or.inl ⟨by rfl, ?_⟩) (by exact HS0.out) ?_
  rotate_left
  · intro w hSw; (try dsimp only at hSw); obtain ⟨r0, r1, r2, r3, r4, r5, rf⟩ := fcells_of hSw.src; go_simp; try (with_reducible rfl)
  repeat (first | simp only [Act.put] | simp only [List.setIfInBounds_toArray] | simp only [List.set_cons_zero] | simp only [List.set_cons_succ])
  refine wpAnyE_take [10] (i := 10) (oi := { dst := some 15, op := Op.fieldAddr 33 (Operand.tmp 1) 5, type := 0, pos := "law.go:12", after := #[], guard := none }) (v := ?_) rfl (by kernel_rfl) (by kernel_rfl) (by kernel_rfl) (by kernel_rfl) rfl rfl (by kernel_rfl) (by kernel_rfl) (fun _ _ _ h => h) (Or.inl ⟨by rfl, ?_⟩) (by exact HS0.out) ?_
  rotate_left
  · intro w hSw; (try dsimp only at hSw); obtain ⟨r0, r1, r2, r3, r4, r5, rf⟩ := fcells_of hSw.src; go_simp; try (with_reducible rfl)
  repeat (first | simp only [Act.put] | simp only [List.setIfInBounds_toArray] | simp only [List.set_cons_zero] | simp only [List.set_cons_succ])
  refine wpAnyE_take [11] (i := 11) (oi := { dst := some 16, op := Op.load 3 (Operand.tmp 15), type := 3, pos := "law.go:12", after := #[{ on := 10, ground := Ground.data }], guard := none }) (v := ?_) rfl (by kernel_rfl) (by kernel_rfl) (by kernel_rfl) (by kernel_rfl) rfl rfl (by kernel_rfl) (by kernel_rfl) (fun _ _ _ h => h) (Or.inl ⟨by rfl, ?_⟩) (by exact HS0.out) ?_
  rotate_left
  · intro w hSw; (try dsimp only at hSw); obtain ⟨r0, r1, r2, r3, r4, r5, rf⟩ := fcells_of hSw.src; go_simp; try (with_reducible rfl)
  repeat (first | simp only [Act.put] | simp only [List.setIfInBounds_toArray] | simp only [List.set_cons_zero] | simp only [List.set_cons_succ])
  refine wpAnyE_ready (rs := [6, 13]) (by kernel_rfl) (by simp) ?_
  refine (AllReadyE.cons (o := { dst := some 11, op := Op.buildSlice 26 0 #[], type := 26, pos := "law.go:12", after := #[], guard := none }) rfl (fun K hK => ?_) (AllReadyE.cons (o := { dst := some 3, op := Op.alloc 29, type := 0, pos := "law.go:12", after := #[], guard := none }) rfl (fun K hK => ?_) AllReadyE.nil))
  · go_simp
    have HS1 := Lib.hid (HS0.out.below (below_alloc _ (.cells #[] 5)))
    refine hK.out _ _ (fun hL => ?_) ?_
    · exact HS1.out
    clear hK K
    repeat (first | simp only [Act.put] | simp only [List.setIfInBounds_toArray] | simp only [List.set_cons_zero] | simp only [List.set_cons_succ])
    refine wpAnyE_ready (rs := [9, 13]) (by kernel_rfl) (by simp) ?_
    refine (AllReadyE.cons (o := { dst := some 14, op := Op.call { callee := Callee.builtin Builtin.append, args := #[Operand.tmp 11, Operand.tmp 13], argTypes := #[26, 26] }, type := 26, pos := "law.go:12", after := #[{ on := 6, ground := Ground.data }, { on := 8, ground := Ground.data }], guard := none }) rfl (fun K hK => ?_) (AllReadyE.cons (o := { dst := some 3, op := Op.alloc 29, type := 0, pos := "law.go:12", after := #[], guard := none }) rfl (fun K hK => ?_) AllReadyE.nil))
    · refine step_append_fresh2 (by rfl) _ _ (by rfl) _ (by rfl) (.slice da d.length dn) d (by rfl) (HD.out.below (HS1.out.bel)) (by omega) (lo := _) (Nat.le_refl _) ?_
      intro du w2 hdu hpl hb2
      have HS2 := Lib.hid (HS1.out.below hb2)
      have HDU := Lib.hid hdu
      have HPL := Lib.hid hpl
      have HB2 := Lib.hid hb2
      obtain ⟨du1, du2, rfl⟩ := hdu.rd.shape
      clear hdu hpl hb2
      refine hK.out _ _ (fun hL => ?_) ?_
      · exact HS2.out
      clear hK K
      repeat (first | simp only [Act.put] | simp only [List.setIfInBounds_toArray] | simp only [List.set_cons_zero] | simp only [List.set_cons_succ])
      refine wpAnyE_take [12] (i := 12) (oi := { dst := some 17, op := Op.build 29 #[(0, Operand.tmp 6), (1, Operand.tmp 8), (3, Operand.tmp 10), (4, Operand.tmp 14), (5, Operand.tmp 16)], type := 29, pos := "law.go:12", after := #[{ on := 1, ground := Ground.data }, { on := 3, ground := Ground.data }, { on := 5, ground := Ground.data }, { on := 9, ground := Ground.data }, { on := 11, ground := Ground.data }], guard := none }) (v := ?_) rfl (by kernel_rfl) (by kernel_rfl) (by kernel_rfl) (by kernel_rfl) rfl rfl (by kernel_rfl) (by kernel_rfl) (fun _ _ _ h => h) (Or.inl ⟨by rfl, ?_⟩) (by exact HS2.out) ?_
      rotate_left
      · intro w hSw; (try dsimp only at hSw); obtain ⟨r0, r1, r2, r3, r4, r5, rf⟩ := fcells_of hSw.src; go_simp; try (with_reducible rfl)
      repeat (first | simp only [Act.put] | simp only [List.setIfInBounds_toArray] | simp only [List.set_cons_zero] | simp only [List.set_cons_succ])
      refine wpAnyE_one (i := 13) (o := { dst := some 3, op := Op.alloc 29, type := 0, pos := "law.go:12", after := #[], guard := none }) (by kernel_rfl) rfl (fun K hK => ?_)
      go_simp
      have HX := Lib.hid (heap_alloc_new w2 zeroFr)
      have HSX := Lib.hid (HS2.out.below (below_alloc w2 zeroFr))
      have HDX := Lib.hid ((HDU.out.mono HS1.out.size).alloc zeroFr)
      have HFX := Lib.hid (HDU.out.new)
      have HXO := Lib.hid (HS2.out.size)
      unfold zeroFr fCells at HX
      refine hK.out _ _ (fun hL => ?_) ?_
      · exact HSX.out
      clear hK K
      repeat (first | simp only [Act.put] | simp only [List.setIfInBounds_toArray] | simp only [List.set_cons_zero] | simp only [List.set_cons_succ])
      refine wpAnyE_one (i := 14) (o := { dst := none, op := Op.store 29 (Operand.tmp 3) (Operand.tmp 17), type := 0, pos := "law.go:12", after := #[{ on := 13, ground := Ground.data }, { on := 12, ground := Ground.data }, { on := 9, ground := Ground.chain }, { on := 0, ground := Ground.phase }, { on := 1, ground := Ground.phase }, { on := 2, ground := Ground.phase }, { on := 3, ground := Ground.phase }, { on := 4, ground := Ground.phase }, { on := 5, ground := Ground.phase }, { on := 6, ground := Ground.phase }, { on := 7, ground := Ground.phase }, { on := 8, ground := Ground.phase }, { on := 9, ground := Ground.phase }, { on := 10, ground := Ground.phase }, { on := 11, ground := Ground.phase }, { on := 12, ground := Ground.phase }, { on := 13, ground := Ground.phase }], guard := none }) (by kernel_rfl) rfl (fun K hK => ?_)
      obtain ⟨y0, y1, y2, y3, y4, y5, yf⟩ := fcells_of HX.out
      go_simp
      refine hK.out _ _ (fun hL => absurd hL (by decide)) ?_
      clear hK K y0 y1 y2 y3 y4 y5 yf
      repeat (first | simp only [Act.put] | simp only [List.setIfInBounds_toArray] | simp only [List.set_cons_zero] | simp only [List.set_cons_succ])
      refine wpAnyE_done (by kernel_rfl) ?_ _
      have HG := Lib.hid (of_start2 (sv := .slice sa sp.length sn) (dv := .slice da d.length dn) (f := ⟨k, c, sp, a, d, t⟩) (heap_alloc_new w2 (.cells #[.int .i64 k, .int .i64 c, .slice none 0 0, .int .i64 a, .slice du1 d.length du2, .int .i64 t] 29)) (((HDU.out.mono HS1.out.size).alloc (.cells #[.int .i64 k, .int .i64 c, .slice none 0 0, .int .i64 a, .slice du1 d.length du2, .int .i64 t] 29))) HFX.out HPL.out (HS2.out.below (below_alloc w2 (.cells #[.int .i64 k, .int .i64 c, .slice none 0 0, .int .i64 a, .slice du1 d.length du2, .int .i64 t] 29))).bel (HS2.out.below (below_alloc w2 (.cells #[.int .i64 k, .int .i64 c, .slice none 0 0, .int .i64 a, .slice du1 d.length du2, .int .i64 t] 29))).src (HS2.out.below (below_alloc w2 (.cells #[.int .i64 k, .int .i64 c, .slice none 0 0, .int .i64 a, .slice du1 d.length du2, .int .i64 t] 29))).res HXO.out)
      (with_reducible refine HTL.out _ (w2.alloc (.cells #[.int .i64 k, .int .i64 c, .slice none 0 0, .int .i64 a, .slice du1 d.length du2, .int .i64 t] 29)).heap.size _ _ _ _ ?_); exact HG.out
    · go_simp
      have HX0 := Lib.hid (heap_alloc_new (V0.alloc (.cells #[] 5)) zeroFr)
      have HSY := Lib.hid (HS1.out.below (below_alloc _ zeroFr))
      have HZ := Lib.hid (HS1.out.size)
      refine hK.out _ _ (fun hL => ?_) ?_
      · exact HSY.out
      clear hK K
      repeat (first | simp only [Act.put] | simp only [List.setIfInBounds_toArray] | simp only [List.set_cons_zero] | simp only [List.set_cons_succ])
      refine wpAnyE_one (i := 9) (o := { dst := some 14, op := Op.call { callee := Callee.builtin Builtin.append, args := #[Operand.tmp 11, Operand.tmp 13], argTypes := #[26, 26] }, type := 26, pos := "law.go:12", after := #[{ on := 6, ground := Ground.data }, { on := 8, ground := Ground.data }], guard := none }) (by kernel_rfl) rfl (fun K hK => ?_)
      refine step_append_fresh2 (by rfl) _ _ (by rfl) _ (by rfl) (.slice da d.length dn) d (by rfl) (HD.out.below (HSY.out.bel)) (by omega) (lo := _) (Nat.le_refl _) ?_
      intro du w2 hdu hpl hb2
      have HS2 := Lib.hid (HSY.out.below hb2)
      have HDU := Lib.hid hdu
      have HPL := Lib.hid hpl
      have HB2 := Lib.hid hb2
      obtain ⟨du1, du2, rfl⟩ := hdu.rd.shape
      clear hdu hpl hb2
      have HX : Hid (w2.heap[(V0.heap.size + 1)]? = some (.cells (fCells ⟨0, 0, [], 0, [], 0⟩ (.slice none 0 0) (.slice none 0 0)) 29 (0, 0))) := Lib.hid (by refine (HB2.out.block _ (by first | (simp; done) | (simp; omega))).trans ?_; have hx0 := HX0.out; rw [World.size_alloc] at hx0; exact hx0)
      have HSX := HS2
      have HDX := Lib.hid (HDU.out.mono HSY.out.size)
      have HFX : Hid (FarB (V0.heap.size + 1) _ d) := Lib.hid (fun aa nn cc ee zz => by have h0 := HDU.out.far aa nn cc ee zz; intro e0; simp at h0; omega)
      have HXO : Hid (w.heap.size + 2 ≤ (V0.heap.size + 1)) := Lib.hid (by have h0 := HZ.out; have h1 := HS0.out.size; simp at h0 h1; omega)
      refine hK.out _ _ (fun hL => ?_) ?_
      · exact HS2.out
      clear hK K
      repeat (first | simp only [Act.put] | simp only [List.setIfInBounds_toArray] | simp only [List.set_cons_zero] | simp only [List.set_cons_succ])
      refine wpAnyE_take [12] (i := 12) (oi := { dst := some 17, op := Op.build 29 #[(0, Operand.tmp 6), (1, Operand.tmp 8), (3, Operand.tmp 10), (4, Operand.tmp 14), (5, Operand.tmp 16)], type := 29, pos := "law.go:12", after := #[{ on := 1, ground := Ground.data }, { on := 3, ground := Ground.data }, { on := 5, ground := Ground.data }, { on := 9, ground := Ground.data }, { on := 11, ground := Ground.data }], guard := none }) (v := ?_) rfl (by kernel_rfl) (by kernel_rfl) (by kernel_rfl) (by kernel_rfl) rfl rfl (by kernel_rfl) (by kernel_rfl) (fun _ _ _ h => h) (Or.inl ⟨by rfl, ?_⟩) (by exact HS2.out) ?_
      rotate_left
      · intro w hSw; (try dsimp only at hSw); obtain ⟨r0, r1, r2, r3, r4, r5, rf⟩ := fcells_of hSw.src; go_simp; try (with_reducible rfl)
      repeat (first | simp only [Act.put] | simp only [List.setIfInBounds_toArray] | simp only [List.set_cons_zero] | simp only [List.set_cons_succ])
      refine wpAnyE_one (i := 14) (o := { dst := none, op := Op.store 29 (Operand.tmp 3) (Operand.tmp 17), type := 0, pos := "law.go:12", after := #[{ on := 13, ground := Ground.data }, { on := 12, ground := Ground.data }, { on := 9, ground := Ground.chain }, { on := 0, ground := Ground.phase }, { on := 1, ground := Ground.phase }, { on := 2, ground := Ground.phase }, { on := 3, ground := Ground.phase }, { on := 4, ground := Ground.phase }, { on := 5, ground := Ground.phase }, { on := 6, ground := Ground.phase }, { on := 7, ground := Ground.phase }, { on := 8, ground := Ground.phase }, { on := 9, ground := Ground.phase }, { on := 10, ground := Ground.phase }, { on := 11, ground := Ground.phase }, { on := 12, ground := Ground.phase }, { on := 13, ground := Ground.phase }], guard := none }) (by kernel_rfl) rfl (fun K hK => ?_)
      obtain ⟨y0, y1, y2, y3, y4, y5, yf⟩ := fcells_of HX.out
      go_simp
      refine hK.out _ _ (fun hL => absurd hL (by decide)) ?_
      clear hK K y0 y1 y2 y3 y4 y5 yf
      repeat (first | simp only [Act.put] | simp only [List.setIfInBounds_toArray] | simp only [List.set_cons_zero] | simp only [List.set_cons_succ])
      refine wpAnyE_done (by kernel_rfl) ?_ _
      have HG := Lib.hid (of_start HX.out HDX.out HFX.out HPL.out HSX.out.bel HSX.out.src HSX.out.res HXO.out)
      unfold chain6 at HG
      try (unfold zeroFr at HG; unfold fCells at HG)
      dsimp only at HG
      (with_reducible refine HTL.out _ w2.heap.size _ _ _ _ ?_); with_reducible exact HG.out
  · go_simp
    have HX0 := Lib.hid (heap_alloc_new V0 zeroFr)
    have HSY0 := Lib.hid (HS0.out.below (below_alloc _ zeroFr))
    have HZ := Lib.hid (HS0.out.size)
    refine hK.out _ _ (fun hL => ?_) ?_
    · exact HSY0.out
    clear hK K
    repeat (first | simp only [Act.put] | simp only [List.setIfInBounds_toArray] | simp only [List.set_cons_zero] | simp only [List.set_cons_succ])
    refine wpAnyE_one (i := 6) (o := { dst := some 11, op := Op.buildSlice 26 0 #[], type := 26, pos := "law.go:12", after := #[], guard := none }) (by kernel_rfl) rfl (fun K hK => ?_)
    go_simp
    have HSY := Lib.hid (HSY0.out.below (below_alloc _ (.cells #[] 5)))
    refine hK.out _ _ (fun hL => ?_) ?_
    · exact HSY.out
    clear hK K
    repeat (first | simp only [Act.put] | simp only [List.setIfInBounds_toArray] | simp only [List.set_cons_zero] | simp only [List.set_cons_succ])
    refine wpAnyE_one (i := 9) (o := { dst := some 14, op := Op.call { callee := Callee.builtin Builtin.append, args := #[Operand.tmp 11, Operand.tmp 13], argTypes := #[26, 26] }, type := 26, pos := "law.go:12", after := #[{ on := 6, ground := Ground.data }, { on := 8, ground := Ground.data }], guard := none }) (by kernel_rfl) rfl (fun K hK => ?_)
    refine step_append_fresh2 (by rfl) _ _ (by rfl) _ (by rfl) (.slice da d.length dn) d (by rfl) (HD.out.below (HSY.out.bel)) (by omega) (lo := _) (Nat.le_refl _) ?_
    intro du w2 hdu hpl hb2
    have HS2 := Lib.hid (HSY.out.below hb2)
    have HDU := Lib.hid hdu
    have HPL := Lib.hid hpl
    have HB2 := Lib.hid hb2
    obtain ⟨du1, du2, rfl⟩ := hdu.rd.shape
    clear hdu hpl hb2
    have HX : Hid (w2.heap[V0.heap.size]? = some (.cells (fCells ⟨0, 0, [], 0, [], 0⟩ (.slice none 0 0) (.slice none 0 0)) 29 (0, 0))) := Lib.hid (by refine (HB2.out.block _ (by first | (simp; done) | (simp; omega))).trans ?_; refine ((below_alloc (V0.alloc zeroFr) (.cells #[] 5)).block _ (by simp)).trans ?_; have hx0 := HX0.out; exact hx0)
    have HSX := HS2
    have HDX := Lib.hid (HDU.out.mono HSY.out.size)
    have HFX : Hid (FarB V0.heap.size _ d) := Lib.hid (fun aa nn cc ee zz => by have h0 := HDU.out.far aa nn cc ee zz; intro e0; simp at h0; omega)
    have HXO : Hid (w.heap.size + 2 ≤ V0.heap.size) := Lib.hid (by have h0 := HZ.out; have h1 := HS0.out.size; simp at h0 h1; omega)
    refine hK.out _ _ (fun hL => ?_) ?_
    · exact HS2.out
    clear hK K
    repeat (first | simp only [Act.put] | simp only [List.setIfInBounds_toArray] | simp only [List.set_cons_zero] | simp only [List.set_cons_succ])
    refine wpAnyE_take [12] (i := 12) (oi := { dst := some 17, op := Op.build 29 #[(0, Operand.tmp 6), (1, Operand.tmp 8), (3, Operand.tmp 10), (4, Operand.tmp 14), (5, Operand.tmp 16)], type := 29, pos := "law.go:12", after := #[{ on := 1, ground := Ground.data }, { on := 3, ground := Ground.data }, { on := 5, ground := Ground.data }, { on := 9, ground := Ground.data }, { on := 11, ground := Ground.data }], guard := none }) (v := ?_) rfl (by kernel_rfl) (by kernel_rfl) (by kernel_rfl) (by kernel_rfl) rfl rfl (by kernel_rfl) (by kernel_rfl) (fun _ _ _ h => h) (Or.inl ⟨by rfl, ?_⟩) (by exact HS2.out) ?_
    rotate_left
    · intro w hSw; (try dsimp only at hSw); obtain ⟨r0, r1, r2, r3, r4, r5, rf⟩ := fcells_of hSw.src; go_simp; try (with_reducible rfl)
    repeat (first | simp only [Act.put] | simp only [List.setIfInBounds_toArray] | simp only [List.set_cons_zero] | simp only [List.set_cons_succ])
    refine wpAnyE_one (i := 14) (o := { dst := none, op := Op.store 29 (Operand.tmp 3) (Operand.tmp 17), type := 0, pos := "law.go:12", after := #[{ on := 13, ground := Ground.data }, { on := 12, ground := Ground.data }, { on := 9, ground := Ground.chain }, { on := 0, ground := Ground.phase }, { on := 1, ground := Ground.phase }, { on := 2, ground := Ground.phase }, { on := 3, ground := Ground.phase }, { on := 4, ground := Ground.phase }, { on := 5, ground := Ground.phase }, { on := 6, ground := Ground.phase }, { on := 7, ground := Ground.phase }, { on := 8, ground := Ground.phase }, { on := 9, ground := Ground.phase }, { on := 10, ground := Ground.phase }, { on := 11, ground := Ground.phase }, { on := 12, ground := Ground.phase }, { on := 13, ground := Ground.phase }], guard := none }) (by kernel_rfl) rfl (fun K hK => ?_)
    obtain ⟨y0, y1, y2, y3, y4, y5, yf⟩ := fcells_of HX.out
    go_simp
    refine hK.out _ _ (fun hL => absurd hL (by decide)) ?_
    clear hK K y0 y1 y2 y3 y4 y5 yf
    repeat (first | simp only [Act.put] | simp only [List.setIfInBounds_toArray] | simp only [List.set_cons_zero] | simp only [List.set_cons_succ])
    refine wpAnyE_done (by kernel_rfl) ?_ _
    have HG := Lib.hid (of_start HX.out HDX.out HFX.out HPL.out HSX.out.bel HSX.out.src HSX.out.res HXO.out)
    unfold chain6 at HG
    try (unfold zeroFr at HG; unfold fCells at HG)
    dsimp only at HG
    (with_reducible refine HTL.out _ w2.heap.size _ _ _ _ ?_); with_reducible exact HG.out

#print axioms gof_any
end Go.Proofs.YtgcgmgcgbnepeaaDoor
