/- The statement's own functions list and retry: a list, a retry, its rows in new memory. -/
import Derived.Test.YtkmjdpnbakcgcaaQRRetry
namespace Go.Proofs.Ytkmjdpnbakcgcaa
open Go Go.RowKit

/-- A row of numbers that reads, away from what lies below lo. -/
structure Rai (lo : Nat) (w : World) (v : Value) (zs : List Int) : Prop where
  rd : Ri w v zs
  far : ∀ a n cap, v = .slice (some a) n cap → zs ≠ [] → lo ≤ a.block
theorem Rai.below {lo : Nat} {w w' : World} {v : Value} {zs : List Int} (h : Rai lo w v zs) (hb : Below w.heap.size w w') : Rai lo w' v zs := ⟨h.rd.below hb, h.far⟩
theorem Rai.set {lo : Nat} {w : World} {v : Value} {zs : List Int} (h : Rai lo w v zs) {p : Addr} (hp : p.block < lo) (u : Value) : Rai lo (w.setCell p u) v zs := by
  refine ⟨?_, h.far⟩
  obtain ⟨ao, cap, hv, h1, h2, h3, hc⟩ := h.rd
  refine ⟨ao, cap, hv, h1, h2, h3, fun a ha j hj => ?_⟩
  have hz : zs ≠ [] := fun e => by rw [e] at hj; simp at hj
  have hne : a.block ≠ p.block := by
    have := h.far a zs.length cap (by rw [hv, ha]) hz
    omega
  obtain ⟨b, off, spot⟩ := a
  have hs : spot = none := by simpa [Addr.add] using World.cell?_spot (hc _ ha 0 (by omega))
  subst hs
  have hcell := hc _ ha j hj
  have e : (w.setCell p u).cell? (Addr.add ⟨b, off, none⟩ j) = w.cell? (Addr.add ⟨b, off, none⟩ j) := by
    rw [Addr.add_lit]
    unfold World.cell?
    rw [Below.heap_setCell w p u b hne]
  rw [e]; exact hcell
theorem Ri.of_own {w : World} {base : Nat} {v : Value} {n : Nat} {zs : List Int} (h : w.ownsRow base 3 1 v n (zs.map (Value.int .i64))) : Ri w v zs := by
  have hn : zs.length = n := by have := h.1; simpa using this
  subst hn
  have hcell := fun g (hg : v.ownBlock = some g) => World.ownsRow.cells h hg
  rcases h.2 with ⟨rfl, h0⟩ | ⟨g, cap, cur, rfl, _, hh, h1, h2, h3, h4⟩
  · have : zs = [] := List.eq_nil_of_length_eq_zero h0
    subst this; exact Ri.nil w
  · refine ⟨some ⟨g, 0, none⟩, cap, rfl, h1, h2, (fun h => by cases h), fun a ha j hj => ?_⟩
    cases ha
    exact hcell g rfl j _ (by simp [hj])
theorem info3 : (Try.prog.info? 3).map (fun i => (i.zero, i.size, i.bytes)) = some (some (.int .i64 0), 1, 8) := by kernel_rfl
theorem info_row3 : ∃ i, Try.prog.info? 3 = some i ∧ i.zero = some (.int .i64 0) ∧ i.size = 1 ∧ i.bytes = 8 := info_parts info3
/-- append of numbers onto a row of no room: what comes reads as they do. -/
theorem wp_append_freshi {w : World} {o : Oper} {a : Act} {K : Act → World → Prop} {Q : Exit → Act → World → Prop} (s x : Operand)
    (ho : o.op = .call { callee := .builtin .append, args := #[s, x], argTypes := #[50, 50] }) (g : Nat) (hs : a.eval s = .slice (some ⟨g, 0, none⟩) 0 0)
    (xv : Value) (zs : List Int) (hx : a.eval x = xv) (hr : Ri w xv zs) (hl : zs.length ≤ 1000000) {lo : Nat} (hlo : lo ≤ w.heap.size)
    (h : ∀ v' w', Rai lo w' v' zs → Below w.heap.size w w' → K (a.put o.dst v') w') : o.wp Try.prog a w K Q := by
  obtain ⟨i, hi, hz0, hz1, hz2⟩ := info_row3
  obtain ⟨ao, cap, rfl, h1, h2, h3, hc⟩ := hr
  have key : ∃ v' w', (Builtin.append_ #[50, 50] o.type #[.slice (some ⟨g, 0, none⟩) 0 0, .slice ao zs.length cap]).run Try.prog w = .ok v' w' ∧ Rai w.heap.size w' v' zs ∧ Below w.heap.size w w' := by
    by_cases hzs : zs.length = 0
    · refine ⟨.slice (some ⟨g, 0, none⟩) 0 0, w, ?_, ?_, Below.refl _ _⟩
      · rw [hzs]
        cases ao <;> simp [Builtin.append_, run_underlying Try.underlying50, sizeOf, typeInfo, hi, Builtin.lenOf, Builtin.firstCells, storeCells, loadCells, loadCellsFrom]
      · obtain rfl := List.eq_nil_of_length_eq_zero hzs
        exact ⟨⟨_, 0, rfl, Nat.le_refl _, by simp [maxLen], (fun _ => rfl), fun a _ j hj => by simp at hj⟩, fun _ _ _ _ hz => absurd rfl hz⟩
    · cases ao with
      | none => have := h3 rfl; omega
      | some ad =>
        obtain ⟨v', w', hrun, hown, hg⟩ := run_append_arg_grows (P := Try.prog) (w := w) 50 o.type 3 i (.int .i64 0) 1 8 Try.underlying50 hi hz0 hz1 hz2 rfl (by decide) ⟨g, 0, none⟩ 0 0 [] rfl (fun j u hu => by cases hu) ad zs.length cap (zs.map (Value.int .i64)) (by simp)
          (fun j u hu => by
            have hj : j < zs.length := by
              have := (List.getElem?_eq_some_iff.1 hu).1
              simpa using this
            have e : (zs.map (Value.int .i64))[j]? = some (.int .i64 (zs.getD j 0)) := by simp [hj]
            rw [e] at hu
            cases hu
            exact hc ad rfl j hj) (by omega) (by unfold maxLen; omega) (by omega)
        refine ⟨v', w', hrun, ⟨Ri.of_own hown, fun a n cap' e _ => ?_⟩, below_made hg⟩
        subst e
        rcases hown.2 with ⟨e2, _⟩ | ⟨g2, cap2, cur, e2, hg2, _⟩
        · cases e2
        · cases e2; exact hg2
  obtain ⟨v', w', hrun, hrd, hb⟩ := key
  unfold Oper.wp execOp
  simp only [ho, resolve, invoke, builtin, Sem.run_bind, Sem.run_pure, Result.andThen_ok, List.map_toArray, List.map_cons, List.map_nil, hs, hx, hrun]
  exact h v' w' ⟨hrd.rd, fun a n cap e hz => Nat.le_trans hlo (hrd.far a n cap e hz)⟩ hb
theorem step_append_freshi {w : World} {ops : Array Oper} {o : Oper} {a : Act} {K : Act → World → Prop} {Q : Exit → Act → World → Prop} {E : Prop} (hgd : o.guard = none) (s x : Operand)
    (ho : o.op = .call { callee := .builtin .append, args := #[s, x], argTypes := #[50, 50] }) (g : Nat) (hs : a.eval s = .slice (some ⟨g, 0, none⟩) 0 0)
    (xv : Value) (zs : List Int) (hx : a.eval x = xv) (hr : Ri w xv zs) (hl : zs.length ≤ 1000000) {lo : Nat} (hlo : lo ≤ w.heap.size)
    (h : ∀ v' w', Rai lo w' v' zs → Below w.heap.size w w' → K (a.put o.dst v') w') :
    if Region.wanted o (yielded ops a.tmps) = true then Oper.wp Try.prog o a w K Q else E := by
  have hw : Region.wanted o (yielded ops a.tmps) = true := by simp [Region.wanted, hgd]
  rw [if_pos hw]
  exact wp_append_freshi s x ho g hs xv zs hx hr hl hlo h

/-- The box G is there, a row of so many cells. -/
def Yn (T n G : Nat) (w : World) : Prop := G + 1 ≤ w.heap.size ∧ ∃ cs : Array Value, cs.size = n ∧ w.heap[G]? = some (.cells cs T (0, 0))
theorem Yn.below {T n G : Nat} {w w' : World} (h : Yn T n G w) (hb : Below w.heap.size w w') : Yn T n G w' := by
  obtain ⟨h1, cs, h2, h3⟩ := h
  exact ⟨Nat.le_trans h1 hb.size, cs, h2, by rw [hb.block _ (by omega)]; exact h3⟩
theorem Yn.set {T n G : Nat} {w : World} (h : Yn T n G w) (i : Nat) (v : Value) : Yn T n G (w.setCell ⟨G, i, none⟩ v) := by
  obtain ⟨h1, c, h2, h3⟩ := h
  refine ⟨by simpa [World.setCell] using h1, c.setIfInBounds i v, by simpa using h2, ?_⟩
  rw [heap_setCell_same w G i _ T _ h3]
theorem Yn.cells {T n G : Nat} {w : World} (h : Yn T n G w) : (∀ i, i < n → ∃ z, w.cell? ⟨G, i, none⟩ = some z) ∧ ∀ j, w.frozen? ⟨G, j, none⟩ = false := by
  obtain ⟨_, c, h2, h3⟩ := h
  exact ⟨fun i hi => ⟨c[i]'(by omega), (cell_of_row w G i _ T (0, 0) h3).trans (by simp [h2, hi])⟩, fun j => by simp [World.frozen?, h3]⟩
theorem cell_set {w : World} {G b o i : Nat} {v u : Value} (hne : b ≠ G) (h : w.cell? ⟨b, o, none⟩ = some v) : (w.setCell ⟨G, i, none⟩ u).cell? ⟨b, o, none⟩ = some v := by
  unfold World.cell? at h ⊢
  rw [Below.heap_setCell w ⟨G, i, none⟩ u b hne]; exact h
theorem keepS {w w' : World} {b o : Nat} {v : Value} (hb : Below w.heap.size w w') (h : w.cell? ⟨b, o, none⟩ = some v) : w'.cell? ⟨b, o, none⟩ = some v := by
  rw [hb.cell (p := ⟨b, o, none⟩) (cell_lt h)]; exact h

/-- What holds as a list's parts come up. -/
theorem keepL {w W W' : World} {v2 v3 vi : Value} {T G : Nat} (hb : Below W.heap.size W W') (hS : W.cell? ⟨w.heap.size, 0, none⟩ = some v2 ∧ W.cell? ⟨w.heap.size, 1, none⟩ = some v3 ∧ W.cell? ⟨w.heap.size, 2, none⟩ = some vi ∧ Yn T 3 G W ∧ Below w.heap.size w W) :
    W'.cell? ⟨w.heap.size, 0, none⟩ = some v2 ∧ W'.cell? ⟨w.heap.size, 1, none⟩ = some v3 ∧ W'.cell? ⟨w.heap.size, 2, none⟩ = some vi ∧ Yn T 3 G W' ∧ Below w.heap.size w W' := by
  obtain ⟨x0, x1, x2, hY, hB⟩ := hS
  exact ⟨keepS hb x0, keepS hb x1, keepS hb x2, hY.below hb, hB.trans (hb.mono hB.size)⟩
theorem keepL3 {w W : World} {v2 v3 vi c0 c1 c2 : Value} {T G : Nat} (hG : Hid (w.heap.size + 1 = G)) (hS : W.cell? ⟨w.heap.size, 0, none⟩ = some v2 ∧ W.cell? ⟨w.heap.size, 1, none⟩ = some v3 ∧ W.cell? ⟨w.heap.size, 2, none⟩ = some vi ∧ Yn T 3 G W ∧ Below w.heap.size w W) :
    (((W.setCell ⟨G, 0, none⟩ c0).setCell ⟨G, 1, none⟩ c1).setCell ⟨G, 2, none⟩ c2).cell? ⟨w.heap.size, 0, none⟩ = some v2 ∧ (((W.setCell ⟨G, 0, none⟩ c0).setCell ⟨G, 1, none⟩ c1).setCell ⟨G, 2, none⟩ c2).cell? ⟨w.heap.size, 1, none⟩ = some v3 ∧ (((W.setCell ⟨G, 0, none⟩ c0).setCell ⟨G, 1, none⟩ c1).setCell ⟨G, 2, none⟩ c2).cell? ⟨w.heap.size, 2, none⟩ = some vi ∧ Yn T 3 G (((W.setCell ⟨G, 0, none⟩ c0).setCell ⟨G, 1, none⟩ c1).setCell ⟨G, 2, none⟩ c2) ∧ Below w.heap.size w (((W.setCell ⟨G, 0, none⟩ c0).setCell ⟨G, 1, none⟩ c1).setCell ⟨G, 2, none⟩ c2) := by
  obtain ⟨x0, x1, x2, hY, hB⟩ := hS
  have hne : w.heap.size ≠ G := by have := hG.out; omega
  have hle : w.heap.size ≤ G := by have := hG.out; omega
  exact ⟨cell_set hne (cell_set hne (cell_set hne x0)), cell_set hne (cell_set hne (cell_set hne x1)), cell_set hne (cell_set hne (cell_set hne x2)), ((hY.set 0 c0).set 1 c1).set 2 c2, ((hB.setCell hle c0).setCell hle c1).setCell hle c2⟩
theorem chain3 {W : World} {G T : Nat} (hY : Yn T 3 G W) (c0 c1 c2 : Value) : (((W.setCell ⟨G, 0, none⟩ c0).setCell ⟨G, 1, none⟩ c1).setCell ⟨G, 2, none⟩ c2).heap[G]? = some (.cells #[c0, c1, c2] T (0, 0)) := by
  obtain ⟨_, ⟨l⟩, h2, h3⟩ := hY
  match l, h2 with
  | [z0, z1, z2], _ =>
    have e0 := heap_setCell_same W G 0 _ T c0 h3
    simp only [List.setIfInBounds_toArray, List.set_cons_zero] at e0
    have e1 := heap_setCell_same _ G 1 _ T c1 e0
    simp only [List.setIfInBounds_toArray, List.set_cons_zero, List.set_cons_succ] at e1
    have e2 := heap_setCell_same _ G 2 _ T c2 e1
    simp only [List.setIfInBounds_toArray, List.set_cons_zero, List.set_cons_succ] at e2
    exact e2
theorem keepB {w W : World} {v2 v3 vi : Value} {T G : Nat} (hS : W.cell? ⟨w.heap.size, 0, none⟩ = some v2 ∧ W.cell? ⟨w.heap.size, 1, none⟩ = some v3 ∧ W.cell? ⟨w.heap.size, 2, none⟩ = some vi ∧ Yn T 3 G W ∧ Below w.heap.size w W) : Below w.heap.size w W := hS.2.2.2.2
theorem keepY {w W : World} {v2 v3 vi : Value} {T G : Nat} (hS : W.cell? ⟨w.heap.size, 0, none⟩ = some v2 ∧ W.cell? ⟨w.heap.size, 1, none⟩ = some v3 ∧ W.cell? ⟨w.heap.size, 2, none⟩ = some vi ∧ Yn T 3 G W ∧ Below w.heap.size w W) : G + 1 ≤ W.heap.size := hS.2.2.2.1.1
theorem Rd.shape {w : World} {v : Value} {zs : List Int} (h : Rd w v zs) : ∃ ao cap, v = .slice ao zs.length cap := by obtain ⟨ao, cap, hv, _⟩ := h; exact ⟨ao, cap, hv⟩
theorem Ri.shape {w : World} {v : Value} {zs : List Int} (h : Ri w v zs) : ∃ ao cap, v = .slice ao zs.length cap := by obtain ⟨ao, cap, hv, _⟩ := h; exact ⟨ao, cap, hv⟩
theorem Rai.alloc {lo : Nat} {w : World} {v : Value} {zs : List Int} (h : Rai lo w v zs) (o : Obj) : Rai lo (w.alloc o) v zs := h.below (below_alloc w o)
theorem set3 {W : World} {G : Nat} {v : Value} {zs : List Int} (h : Ra (G + 1) W v zs) {c0 c1 c2 : Value} : Ra (G + 1) (((W.setCell ⟨G, 0, none⟩ c0).setCell ⟨G, 1, none⟩ c1).setCell ⟨G, 2, none⟩ c2) v zs :=
  ((h.set (p := ⟨G, 0, none⟩) (Nat.lt_succ_self _) c0).set (p := ⟨G, 1, none⟩) (Nat.lt_succ_self _) c1).set (p := ⟨G, 2, none⟩) (Nat.lt_succ_self _) c2
theorem set3i {W : World} {G : Nat} {v : Value} {zs : List Int} (h : Rai (G + 1) W v zs) {c0 c1 c2 : Value} : Rai (G + 1) (((W.setCell ⟨G, 0, none⟩ c0).setCell ⟨G, 1, none⟩ c1).setCell ⟨G, 2, none⟩ c2) v zs :=
  ((h.set (p := ⟨G, 0, none⟩) (Nat.lt_succ_self _) c0).set (p := ⟨G, 1, none⟩) (Nat.lt_succ_self _) c1).set (p := ⟨G, 2, none⟩) (Nat.lt_succ_self _) c2
theorem infoL : (Try.prog.info? 52).map (·.size) = some 3 := by kernel_rfl
/-- What holds as a retry's parts come up. -/
theorem keepR {w W W' : World} {va v2 v3 vb vc : Value} {T G : Nat} (hb : Below W.heap.size W W') (hS : W.cell? ⟨w.heap.size, 0, none⟩ = some va ∧ W.cell? ⟨w.heap.size, 1, none⟩ = some v2 ∧ W.cell? ⟨w.heap.size, 2, none⟩ = some v3 ∧ W.cell? ⟨w.heap.size, 3, none⟩ = some vb ∧ W.cell? ⟨w.heap.size, 4, none⟩ = some vc ∧ Yn T 5 G W ∧ Below w.heap.size w W) :
    W'.cell? ⟨w.heap.size, 0, none⟩ = some va ∧ W'.cell? ⟨w.heap.size, 1, none⟩ = some v2 ∧ W'.cell? ⟨w.heap.size, 2, none⟩ = some v3 ∧ W'.cell? ⟨w.heap.size, 3, none⟩ = some vb ∧ W'.cell? ⟨w.heap.size, 4, none⟩ = some vc ∧ Yn T 5 G W' ∧ Below w.heap.size w W' := by
  obtain ⟨x0, x1, x2, x3, x4, hY, hB⟩ := hS
  exact ⟨keepS hb x0, keepS hb x1, keepS hb x2, keepS hb x3, keepS hb x4, hY.below hb, hB.trans (hb.mono hB.size)⟩
theorem keepR5 {w W : World} {va v2 v3 vb vc c0 c1 c2 c3 c4 : Value} {T G : Nat} (hG : Hid (w.heap.size + 1 = G)) (hS : W.cell? ⟨w.heap.size, 0, none⟩ = some va ∧ W.cell? ⟨w.heap.size, 1, none⟩ = some v2 ∧ W.cell? ⟨w.heap.size, 2, none⟩ = some v3 ∧ W.cell? ⟨w.heap.size, 3, none⟩ = some vb ∧ W.cell? ⟨w.heap.size, 4, none⟩ = some vc ∧ Yn T 5 G W ∧ Below w.heap.size w W) :
    (((((W.setCell ⟨G, 0, none⟩ c0).setCell ⟨G, 1, none⟩ c1).setCell ⟨G, 2, none⟩ c2).setCell ⟨G, 3, none⟩ c3).setCell ⟨G, 4, none⟩ c4).cell? ⟨w.heap.size, 0, none⟩ = some va ∧ (((((W.setCell ⟨G, 0, none⟩ c0).setCell ⟨G, 1, none⟩ c1).setCell ⟨G, 2, none⟩ c2).setCell ⟨G, 3, none⟩ c3).setCell ⟨G, 4, none⟩ c4).cell? ⟨w.heap.size, 1, none⟩ = some v2 ∧ (((((W.setCell ⟨G, 0, none⟩ c0).setCell ⟨G, 1, none⟩ c1).setCell ⟨G, 2, none⟩ c2).setCell ⟨G, 3, none⟩ c3).setCell ⟨G, 4, none⟩ c4).cell? ⟨w.heap.size, 2, none⟩ = some v3 ∧
    (((((W.setCell ⟨G, 0, none⟩ c0).setCell ⟨G, 1, none⟩ c1).setCell ⟨G, 2, none⟩ c2).setCell ⟨G, 3, none⟩ c3).setCell ⟨G, 4, none⟩ c4).cell? ⟨w.heap.size, 3, none⟩ = some vb ∧ (((((W.setCell ⟨G, 0, none⟩ c0).setCell ⟨G, 1, none⟩ c1).setCell ⟨G, 2, none⟩ c2).setCell ⟨G, 3, none⟩ c3).setCell ⟨G, 4, none⟩ c4).cell? ⟨w.heap.size, 4, none⟩ = some vc ∧ Yn T 5 G (((((W.setCell ⟨G, 0, none⟩ c0).setCell ⟨G, 1, none⟩ c1).setCell ⟨G, 2, none⟩ c2).setCell ⟨G, 3, none⟩ c3).setCell ⟨G, 4, none⟩ c4) ∧ Below w.heap.size w (((((W.setCell ⟨G, 0, none⟩ c0).setCell ⟨G, 1, none⟩ c1).setCell ⟨G, 2, none⟩ c2).setCell ⟨G, 3, none⟩ c3).setCell ⟨G, 4, none⟩ c4) := by
  obtain ⟨x0, x1, x2, x3, x4, hY, hB⟩ := hS
  have hne : w.heap.size ≠ G := by have := hG.out; omega
  have hle : w.heap.size ≤ G := by have := hG.out; omega
  exact ⟨cell_set hne (cell_set hne (cell_set hne (cell_set hne (cell_set hne x0)))), cell_set hne (cell_set hne (cell_set hne (cell_set hne (cell_set hne x1)))), cell_set hne (cell_set hne (cell_set hne (cell_set hne (cell_set hne x2)))), cell_set hne (cell_set hne (cell_set hne (cell_set hne (cell_set hne x3)))), cell_set hne (cell_set hne (cell_set hne (cell_set hne (cell_set hne x4)))),
    ((((hY.set 0 c0).set 1 c1).set 2 c2).set 3 c3).set 4 c4, ((((hB.setCell hle c0).setCell hle c1).setCell hle c2).setCell hle c3).setCell hle c4⟩
theorem keepRB {w W : World} {va v2 v3 vb vc : Value} {T G : Nat} (hS : W.cell? ⟨w.heap.size, 0, none⟩ = some va ∧ W.cell? ⟨w.heap.size, 1, none⟩ = some v2 ∧ W.cell? ⟨w.heap.size, 2, none⟩ = some v3 ∧ W.cell? ⟨w.heap.size, 3, none⟩ = some vb ∧ W.cell? ⟨w.heap.size, 4, none⟩ = some vc ∧ Yn T 5 G W ∧ Below w.heap.size w W) : Below w.heap.size w W := hS.2.2.2.2.2.2
theorem keepRY {w W : World} {va v2 v3 vb vc : Value} {T G : Nat} (hS : W.cell? ⟨w.heap.size, 0, none⟩ = some va ∧ W.cell? ⟨w.heap.size, 1, none⟩ = some v2 ∧ W.cell? ⟨w.heap.size, 2, none⟩ = some v3 ∧ W.cell? ⟨w.heap.size, 3, none⟩ = some vb ∧ W.cell? ⟨w.heap.size, 4, none⟩ = some vc ∧ Yn T 5 G W ∧ Below w.heap.size w W) : G + 1 ≤ W.heap.size := hS.2.2.2.2.2.1.1
theorem chain5 {W : World} {G T : Nat} (hY : Yn T 5 G W) (c0 c1 c2 c3 c4 : Value) : (((((W.setCell ⟨G, 0, none⟩ c0).setCell ⟨G, 1, none⟩ c1).setCell ⟨G, 2, none⟩ c2).setCell ⟨G, 3, none⟩ c3).setCell ⟨G, 4, none⟩ c4).heap[G]? = some (.cells #[c0, c1, c2, c3, c4] T (0, 0)) := by
  obtain ⟨_, ⟨l⟩, h2, h3⟩ := hY
  match l, h2 with
  | [z0, z1, z2, z3, z4], _ =>
    have e0 := heap_setCell_same W G 0 _ T c0 h3
    simp only [List.setIfInBounds_toArray, List.set_cons_zero] at e0
    have e1 := heap_setCell_same _ G 1 _ T c1 e0
    simp only [List.setIfInBounds_toArray, List.set_cons_zero, List.set_cons_succ] at e1
    have e2 := heap_setCell_same _ G 2 _ T c2 e1
    simp only [List.setIfInBounds_toArray, List.set_cons_zero, List.set_cons_succ] at e2
    have e3 := heap_setCell_same _ G 3 _ T c3 e2
    simp only [List.setIfInBounds_toArray, List.set_cons_zero, List.set_cons_succ] at e3
    have e4 := heap_setCell_same _ G 4 _ T c4 e3
    simp only [List.setIfInBounds_toArray, List.set_cons_zero, List.set_cons_succ] at e4
    exact e4
theorem set5 {W : World} {G : Nat} {v : Value} {zs : List Int} (h : Ra (G + 1) W v zs) {c0 c1 c2 c3 c4 : Value} : Ra (G + 1) (((((W.setCell ⟨G, 0, none⟩ c0).setCell ⟨G, 1, none⟩ c1).setCell ⟨G, 2, none⟩ c2).setCell ⟨G, 3, none⟩ c3).setCell ⟨G, 4, none⟩ c4) v zs :=
  ((((h.set (p := ⟨G, 0, none⟩) (Nat.lt_succ_self _) c0).set (p := ⟨G, 1, none⟩) (Nat.lt_succ_self _) c1).set (p := ⟨G, 2, none⟩) (Nat.lt_succ_self _) c2).set (p := ⟨G, 3, none⟩) (Nat.lt_succ_self _) c3).set (p := ⟨G, 4, none⟩) (Nat.lt_succ_self _) c4
theorem infoR : (Try.prog.info? 32).map (·.size) = some 5 := by kernel_rfl
theorem resultsR {tmps : Array Value} {w : World} {G : Nat} {cs : Array Value} (hp : tmps.getD 2 undef = .pointer (some ⟨G, 0, none⟩)) (hg : w.heap[G]? = some (.cells cs 32 (0, 0))) (hs : cs.size = 5) :
    (results Try.f7 tmps).run Try.prog w = .ok (.agg cs) w := by
  exact results_cell_row (fn := Try.f7) (p := 2) (ty := 32) Try.results7 tmps w G 32 cs (0, 0) _ hp hg Try.underlying32 rfl (by rw [infoR, hs])

set_option maxRecDepth 20000 in
set_option maxHeartbeats 8000000 in
theorem retry_any {w : World} {v2 v3 : Value} {to fr : List Int} {ver tok tag : Int} (h2 : Rd w v2 to) (h3 : Rd w v3 fr) (l2 : to.length ≤ 1000) (l3 : fr.length ≤ 1000) :
    Calls Try.prog 7 #[.agg #[.int .i64 ver, v2, v3, .int .i64 tok, .int .i64 tag]] w fun e w' => ∃ u2 u3, e = .returned (.agg #[.int .i64 ver, u2, u3, .int .i64 tok, .int .i64 tag]) ∧ (Rd w' u2 to ∧ Rd w' u3 fr) ∧ Below w.heap.size w w' := by
  obtain ⟨W2, hW2⟩ : ∃ W2, (w.alloc (.cells #[.int .i64 ver, v2, v3, .int .i64 tok, .int .i64 tag] 24)).alloc (.cells #[.int .i64 0, .slice none 0 0, .slice none 0 0, .int .i64 0, .int .i64 0] 32) = W2 := ⟨_, rfl⟩
  obtain ⟨G, hG⟩ : ∃ G, w.heap.size + 1 = G := ⟨_, rfl⟩
  have hbx : W2.heap[w.heap.size]? = some (.cells #[.int .i64 ver, v2, v3, .int .i64 tok, .int .i64 tag] 24 (0, 0)) := by
    rw [← hW2]
    exact ((below_alloc (w.alloc (.cells #[.int .i64 ver, v2, v3, .int .i64 tok, .int .i64 tag] 24)) _).block _ (by simp)).trans (heap_alloc_new w _)
  have hYd : Yn 32 5 G W2.drew := by
    rw [← hW2, ← hG]
    refine ⟨by simp, #[.int .i64 0, .slice none 0 0, .slice none 0 0, .int .i64 0, .int .i64 0], rfl, ?_⟩
    have := heap_alloc_new (w.alloc (.cells #[.int .i64 ver, v2, v3, .int .i64 tok, .int .i64 tag] 24)) (.cells #[.int .i64 0, .slice none 0 0, .slice none 0 0, .int .i64 0, .int .i64 0] 32)
    rw [World.size_alloc] at this
    exact this
  have hBd : Below w.heap.size w W2.drew := by rw [← hW2]; exact (((Below.refl _ _).alloc (Nat.le_refl _) _).alloc (by simp) _).drew
  have x0 : W2.drew.cell? ⟨w.heap.size, 0, none⟩ = some (.int .i64 ver) := (cell_of_row _ w.heap.size 0 _ _ (0, 0) hbx).trans rfl
  have x1 : W2.drew.cell? ⟨w.heap.size, 1, none⟩ = some v2 := (cell_of_row _ w.heap.size 1 _ _ (0, 0) hbx).trans rfl
  have x2 : W2.drew.cell? ⟨w.heap.size, 2, none⟩ = some v3 := (cell_of_row _ w.heap.size 2 _ _ (0, 0) hbx).trans rfl
  have x3 : W2.drew.cell? ⟨w.heap.size, 3, none⟩ = some (.int .i64 tok) := (cell_of_row _ w.heap.size 3 _ _ (0, 0) hbx).trans rfl
  have x4 : W2.drew.cell? ⟨w.heap.size, 4, none⟩ = some (.int .i64 tag) := (cell_of_row _ w.heap.size 4 _ _ (0, 0) hbx).trans rfl
  have HR := Lib.hid (And.intro h2 h3)
  have HG := Lib.hid hG
  have HW := Lib.hid hW2
  clear hbx h2 h3
  go_enter Try.func7, Try.ntmps7
  go_wp2_with fail
  clear hG hW2
  go_region_held3 (fun w' => w'.cell? ⟨w.heap.size, 0, none⟩ = some (.int .i64 ver) ∧ w'.cell? ⟨w.heap.size, 1, none⟩ = some v2 ∧ w'.cell? ⟨w.heap.size, 2, none⟩ = some v3 ∧ w'.cell? ⟨w.heap.size, 3, none⟩ = some (.int .i64 tok) ∧ w'.cell? ⟨w.heap.size, 4, none⟩ = some (.int .i64 tag) ∧ Yn 32 5 G w' ∧ Below w.heap.size w w')
    (first | (have _t := tok3; first | with_reducible exact keepR5 HG (by assumption) | with_reducible exact keepR hb3 (by assumption)) | with_reducible exact ⟨x0, x1, x2, x3, x4, hYd, hBd⟩ | with_reducible exact keepR (below_alloc _ _) (by assumption) | with_reducible exact keepR hb2 (by assumption))
    (first
      | (refine step_append_fresh (by rfl) _ _ (by rfl) _ (by rfl) v2 to (by rfl) (HR.out.1.below ?_) ?_ (lo := G + 1) ?_ ?_; exact keepRB (by assumption); omega; exact keepRY (by assumption); intro ut w2 hrt hb2; obtain ⟨at2, ct2, rfl⟩ := Rd.shape hrt.rd)
      | (refine step_append_fresh (by rfl) _ _ (by rfl) _ (by rfl) v3 fr (by rfl) (HR.out.2.below ?_) ?_ (lo := G + 1) ?_ ?_; exact keepRB (by assumption); omega; exact keepRY (by assumption); intro uf w3 hrf hb3; obtain ⟨at3, ct3, rfl⟩ := Rd.shape hrf.rd; have hrt3 : Ra (G + 1) w3 (.slice at2 to.length ct2) to := (by first | exact hrt.below hb3 | exact (hrt.alloc _).below hb3); have hS4 := keepR hb3 (by assumption); have hY4 := hS4.2.2.2.2.2.1; obtain ⟨hz, hzf⟩ := hY4.cells; obtain ⟨z0, e0⟩ := hz 0 (by decide); obtain ⟨z1, e1⟩ := hz 1 (by decide); obtain ⟨z2, e2⟩ := hz 2 (by decide); obtain ⟨z3, e3⟩ := hz 3 (by decide); obtain ⟨z4, e4⟩ := hz 4 (by decide); have HY4 := Lib.hid hY4; have HRT4 := Lib.hid hrt3; have HRF4 := Lib.hid hrf; have tok3 : True := trivial; clear hz hS4 hrf hrt hrt3 hb2 hY4 x0 x1 x2 x3 x4 hYd hBd l2 l3))
  all_goals
    go_wp2_with fail
    refine bodyPost_ret (v := .agg #[.int .i64 ver, .slice at2 to.length ct2, .slice at3 fr.length ct3, .int .i64 tok, .int .i64 tag]) (resultsR rfl (chain5 HY4.out _ _ _ _ _) rfl) rfl ⟨_, _, rfl, ⟨(set5 HRT4.out).rd, (set5 HRF4.out).rd⟩, keepRB (by assumption)⟩
end Go.Proofs.Ytkmjdpnbakcgcaa
