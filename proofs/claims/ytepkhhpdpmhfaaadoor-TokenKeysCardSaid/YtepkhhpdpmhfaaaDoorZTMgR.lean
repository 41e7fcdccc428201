/- A mind learns. -/
import Derived.Test.YtepkhhpdpmhfaaaDoorZClone
import Derived.OrdersHeld
import Derived.ArgAppend
import Derived.Deep.RegionHeld3
import Derived.Deep.DrawnRows
import Derived.Test.YtepkhhpdpmhfaaaDoorZTMgT
import Derived.Test.YtepkhhpdpmhfaaaDoorZTPkI
import Derived.Deep.LoopGhost
namespace Go.Proofs.YtepkhhpdpmhfaaaDoor
open Go Go.RowKit

/-- How many have not come up. -/
def unl (n : Nat) (listed : Array Bool) : Nat := ((List.range n).filter fun i => !listed.getD i true).length
theorem filter_lt {l : List Nat} {p q : Nat → Bool} (h : ∀ i ∈ l, q i = true → p i = true) {k : Nat} (hk : k ∈ l) (hp : p k = true) (hq : q k = false) : (l.filter q).length < (l.filter p).length := by
  induction l with
  | nil => cases hk
  | cons a r ih =>
    have hle : (r.filter q).length ≤ (r.filter p).length := by
      have : ∀ (r : List Nat), (∀ i ∈ r, q i = true → p i = true) → (r.filter q).length ≤ (r.filter p).length := by
        intro r
        induction r with
        | nil => intro _; exact Nat.le_refl _
        | cons b s ih2 =>
          intro hs
          have := ih2 fun i hi => hs i (List.mem_cons_of_mem _ hi)
          have hb := hs b List.mem_cons_self
          simp only [List.filter_cons]
          cases hqb : q b <;> cases hpb : p b <;> simp_all
          omega
      exact this r fun i hi => h i (List.mem_cons_of_mem _ hi)
    rcases List.mem_cons.1 hk with rfl | hk
    · simp only [List.filter_cons, hp, hq, if_true]
      simp
      omega
    · have := ih (fun i hi => h i (List.mem_cons_of_mem _ hi)) hk
      have ha := h a List.mem_cons_self
      simp only [List.filter_cons]
      cases hqa : q a <;> cases hpa : p a <;> simp_all
      omega
theorem unl_set {n : Nat} {listed : Array Bool} {i : Nat} (hi : i < n) (h : listed.getD i true = false) : unl n (listed.setIfInBounds i true) < unl n listed := by
  refine filter_lt (k := i) (fun j _ hj => ?_) (List.mem_range.2 hi) (by simp [h]) ?_
  · by_cases hji : i = j
    · subst hji; simp [h]
    · rw [getD_set_ne true hji] at hj
      exact hj
  · have hlt : i < listed.size := by
      rcases Nat.lt_or_ge i listed.size with h' | h'
      · exact h'
      · have e : listed.getD i true = true := by simp [Array.getD, Nat.not_lt.2 h']
        rw [e] at h; cases h
    simp [Array.getD, hlt]
/-- By what holds as they come up. -/
theorem wpAnyH_inv {P : Program} {md : Region.Mode} {ops : Array Oper} {Q : Exit → Act → World → Prop} {S : World → Prop} (I : Array Bool → Act → World → Prop)
    (step : ∀ (listed : Array Bool) (a : Act) (w : World), I listed a w → ∀ i ∈ Region.ready md ops listed, wpOp P ops Q i (fun a' w' => S w' ∧ I (listed.setIfInBounds i true) a' w') a w)
    (done : ∀ (listed : Array Bool) (a : Act) (w : World), I listed a w → Region.ready md ops listed = [] → Q .normal a w) :
    ∀ (fuel : Nat) (listed : Array Bool) (a : Act) (w : World), unl ops.size listed ≤ fuel → I listed a w → wpAnyH P md ops Q S fuel listed a w := by
  intro fuel
  induction fuel with
  | zero =>
    intro listed a w hf hI
    have hr : Region.ready md ops listed = [] := by
      cases h : Region.ready md ops listed with
      | nil => rfl
      | cons i r =>
        exfalso
        have hm : i ∈ Region.ready md ops listed := by rw [h]; exact List.mem_cons_self
        have h2 := mem_ready.1 hm
        have h0 : unl ops.size listed = 0 := by omega
        unfold unl at h0
        have h3 := List.eq_nil_of_length_eq_zero h0
        have h4 : i ∈ ((List.range ops.size).filter fun i => !listed.getD i true) := by
          unfold Region.ready at hm
          have h5 := List.mem_filter.1 hm
          refine List.mem_filter.2 ⟨h5.1, ?_⟩
          have h6 := h5.2
          simp only [Bool.and_eq_true] at h6
          exact h6.1
        rw [h3] at h4
        cases h4
    exact ⟨hr, done listed a w hI hr⟩
  | succ fuel ih =>
    intro listed a w hf hI
    refine ⟨fun hr => done listed a w hI hr, fun i hi => ?_⟩
    have h5 : i < ops.size ∧ listed.getD i true = false := by
      unfold Region.ready at hi
      have h5 := List.mem_filter.1 hi
      have h6 := h5.2
      simp only [Bool.and_eq_true] at h6
      exact ⟨List.mem_range.1 h5.1, by simpa using h6.1⟩
    refine wpOp_mono (fun a' w' ⟨h1, h2⟩ => ⟨h1, ih _ _ _ ?_ h2⟩) (step listed a w hI i hi)
    have := unl_set h5.1 h5.2
    omega

theorem info_row5 : ∃ i, Tryd.prog.info? 5 = some i ∧ i.zero = some (.int .u8 0) ∧ i.size = 1 ∧ i.bytes = 1 := info_parts info5

/-- It reads, and where it has cells they lie from block lo on. -/
structure Ra (lo : Nat) (w : World) (v : Value) (zs : List Int) : Prop where
  rd : Rd w v zs
  far : ∀ (a : Addr) (n cap : Nat), v = .slice (some a) n cap → zs ≠ [] → lo ≤ a.block
theorem Ra.below {lo : Nat} {w w' : World} {v : Value} {zs : List Int} (h : Ra lo w v zs) (hb : Below w.heap.size w w') : Ra lo w' v zs := ⟨h.rd.below hb, h.far⟩
theorem Ra.alloc {lo : Nat} {w : World} {v : Value} {zs : List Int} (h : Ra lo w v zs) (o : Obj) : Ra lo (w.alloc o) v zs := ⟨h.rd.alloc o, h.far⟩
theorem Ra.mono {lo lo' : Nat} {w : World} {v : Value} {zs : List Int} (h : Ra lo w v zs) (hl : lo' ≤ lo) : Ra lo' w v zs := ⟨h.rd, fun a n cap e hz => Nat.le_trans hl (h.far a n cap e hz)⟩
theorem Ra.set {lo : Nat} {w : World} {v : Value} {zs : List Int} (h : Ra lo w v zs) {p : Addr} (hp : p.block < lo) (u : Value) : Ra lo (w.setCell p u) v zs := by
  refine ⟨?_, h.far⟩
  obtain ⟨ao, cap, hv, h1, h2, h3, h4, hc⟩ := h.rd
  refine ⟨ao, cap, hv, h1, h2, h3, h4, fun a ha j hj => ?_⟩
  have hz : zs ≠ [] := fun e => by rw [e] at hj; simp at hj
  have hne : a.block ≠ p.block := by
    have := h.far a zs.length cap (by rw [hv, ha]) hz
    omega
  obtain ⟨b, off, spot⟩ := a
  have hs : spot = none := by simpa [Addr.add] using World.cell?_spot (hc _ ha 0 (by omega))
  subst hs
  have hcell := hc _ ha j hj
  have e : (w.setCell p u).cell? (Addr.add ⟨b, off, none⟩ j) = w.cell? (Addr.add ⟨b, off, none⟩ j) := by
    rw [Addr.add_lit]
    unfold World.cell?
    rw [Below.heap_setCell w p u b hne]
  rw [e]; exact hcell
/-- append of bytes onto a row of no room: what comes reads as they do. -/
theorem wp_append_fresh {w : World} {o : Oper} {a : Act} {K : Act → World → Prop} {Q : Exit → Act → World → Prop} (s x : Operand)
    (ho : o.op = .call { callee := .builtin .append, args := #[s, x], argTypes := #[22, 22] }) (g : Nat) (hs : a.eval s = .slice (some ⟨g, 0, none⟩) 0 0)
    (xv : Value) (zs : List Int) (hx : a.eval x = xv) (hr : Rd w xv zs) (hl : zs.length ≤ 1000000) {lo : Nat} (hlo : lo ≤ w.heap.size)
    (h : ∀ v' w', Ra lo w' v' zs → Below w.heap.size w w' → K (a.put o.dst v') w') : o.wp Tryd.prog a w K Q := by
  obtain ⟨i, hi, hz0, hz1, hz2⟩ := info_row5
  obtain ⟨ao, cap, rfl, h1, h2, h3, hbt, hc⟩ := hr
  have key : ∃ v' w', (Builtin.append_ #[22, 22] o.type #[.slice (some ⟨g, 0, none⟩) 0 0, .slice ao zs.length cap]).run Tryd.prog w = .ok v' w' ∧ Ra w.heap.size w' v' zs ∧ Below w.heap.size w w' := by
    by_cases hzs : zs.length = 0
    · refine ⟨.slice (some ⟨g, 0, none⟩) 0 0, w, ?_, ?_, Below.refl _ _⟩
      · rw [hzs]
        cases ao <;> simp [Builtin.append_, run_underlying Tryd.underlying22, sizeOf, typeInfo, hi, Builtin.lenOf, Builtin.firstCells, storeCells, loadCells, loadCellsFrom]
      · obtain rfl := List.eq_nil_of_length_eq_zero hzs
        exact ⟨⟨_, 0, rfl, Nat.le_refl _, by simp [maxLen], (fun _ => rfl), Byt.nil, fun a _ j hj => by simp at hj⟩, fun _ _ _ _ hz => absurd rfl hz⟩
    · cases ao with
      | none => have := h3 rfl; omega
      | some ad =>
        obtain ⟨v', w', hrun, hown, hg⟩ := run_append_arg_grows (P := Tryd.prog) (w := w) 22 o.type 5 i (.int .u8 0) 1 1 Tryd.underlying22 hi hz0 hz1 hz2 rfl (by decide) ⟨g, 0, none⟩ 0 0 [] rfl (fun j u hu => by cases hu) ad zs.length cap (by8 zs) (by simp [by8_len])
          (fun j u hu => by
            have hj : j < zs.length := by
              have := (List.getElem?_eq_some_iff.1 hu).1
              simpa [by8_len] using this
            rw [by8_get zs j hj] at hu
            cases hu
            exact hc ad rfl j hj) (by omega) (by unfold maxLen; omega) (by omega)
        refine ⟨v', w', hrun, ⟨(Rd.of_own hown hbt).1, fun a n cap' e _ => ?_⟩, below_made hg⟩
        subst e
        rcases hown.2 with ⟨e2, _⟩ | ⟨g2, cap2, cur, e2, hg2, _⟩
        · cases e2
        · cases e2; exact hg2
  obtain ⟨v', w', hrun, hrd, hb⟩ := key
  unfold Oper.wp execOp
  simp only [ho, resolve, invoke, builtin, Sem.run_bind, Sem.run_pure, Result.andThen_ok, List.map_toArray, List.map_cons, List.map_nil, hs, hx, hrun]
  exact h v' w' (hrd.mono hlo) hb
theorem step_append_fresh {w : World} {ops : Array Oper} {o : Oper} {a : Act} {K : Act → World → Prop} {Q : Exit → Act → World → Prop} {E : Prop} (hgd : o.guard = none) (s x : Operand)
    (ho : o.op = .call { callee := .builtin .append, args := #[s, x], argTypes := #[22, 22] }) (g : Nat) (hs : a.eval s = .slice (some ⟨g, 0, none⟩) 0 0)
    (xv : Value) (zs : List Int) (hx : a.eval x = xv) (hr : Rd w xv zs) (hl : zs.length ≤ 1000000) {lo : Nat} (hlo : lo ≤ w.heap.size)
    (h : ∀ v' w', Ra lo w' v' zs → Below w.heap.size w w' → K (a.put o.dst v') w') :
    if Region.wanted o (yielded ops a.tmps) = true then Oper.wp Tryd.prog o a w K Q else E := by
  have hw : Region.wanted o (yielded ops a.tmps) = true := by simp [Region.wanted, hgd]
  rw [if_pos hw]
  exact wp_append_fresh s x ho g hs xv zs hx hr hl hlo h
#print axioms wpAnyH_inv
#print axioms wp_append_fresh
end Go.Proofs.YtepkhhpdpmhfaaaDoor
namespace Go.Proofs.YtepkhhpdpmhfaaaDoor.T
open Go Go.RowKit

theorem own_last {w : World} {e : TypeId} {a : Option Addr} {n cap : Nat} {xs : List Value} {x : Value} (h : w.ownsRow 0 e 1 (.slice a (n + 1) cap) (n + 1) (xs ++ [x])) :
    w.ownsRow 0 e 1 (.slice a n cap) n xs ∧ ∃ g, a = some ⟨g, 0, none⟩ ∧ n + 1 ≤ cap ∧ cap ≤ maxLen := by
  obtain ⟨h1, h2⟩ := h
  have hl : xs.length = n := by simp at h1; omega
  rcases h2 with ⟨_, h2⟩ | ⟨g, cap', cur, hv, hb, hg, hc, hm, hs, ht⟩
  · omega
  · cases hv
    refine ⟨⟨by omega, .inr ⟨g, cap, cur, rfl, hb, hg, by omega, hm, hs, ?_⟩⟩, g, rfl, hc, hm⟩
    have h3 : (cur.toList.take ((n + 1) * 1)).take (n * 1) = (xs ++ [x]).take (n * 1) := by rw [ht]
    rw [List.take_take] at h3
    rw [show min (n * 1) ((n + 1) * 1) = n * 1 by omega] at h3
    rw [h3]
    simp [← hl]
def Fx.re (c : Fx) (X NB : Nat) : Fx := { c with X := X, NB := NB }
theorem lst_at {S : MS} {b : Nat} {k : Int} (hb : b ≠ 2 ∨ k ≠ 0) (l : List Int) : lst { S with news := l } b k = lst S b k := by
  unfold lst
  by_cases e : b = 2
  · subst e
    have hk : k ≠ 0 := by rcases hb with e | e; exact absurd rfl e; exact e
    simp [hk]
  · simp [e]
/-- The boxes that Learn makes. -/
theorem LW.enter {c : Fx} {N : List Nd} {w w2 : World} {F : Nat → Prop} {r : Nat → Int → Option Value} {S : MS} (h : Mnd c w F r S) (hT : Tp w F c.tp N) (hi : Inr N.length S) (hN : Wf N) (hn : S.news = []) (hb : Below w.heap.size w w2) {X NB : Nat}
    (hX : w2.heap[X]? = some (.cells #[.pointer (some ⟨c.M, 0, none⟩)] 66 (0, 0))) (hX0 : w.heap.size ≤ X) (hNX : NB ≠ X) (hB : w2.heap[NB]? = some (.cells #[.slice none 0 0] 38 (0, 0))) (hB0 : w.heap.size ≤ NB) :
    LW (c.re X NB) N w2 (fun k => F k ∨ k = NB) (rset r 2 0 none) S ∧ Stp F w (fun k => F k ∨ k = NB) w2 := by
  have s1 : Stp F w (fun k => F k ∨ k = NB) w2 := ⟨hb.os, hb.tape, hb.output, hb.size, fun k hk _ => hb.block k hk, fun k hk => hk.imp id fun e => by omega⟩
  have h2 := h.below hb
  have hM := blk_lt h.cell
  refine ⟨⟨?_, hX, ?_, ?_, .inr rfl, hT.step s1, hi, hN⟩, s1⟩
  · exact
    { lt := fun k hk => hk.elim (h2.lt k) fun e => e ▸ blk_lt hB
      cell := h2.cell
      out := fun e => e.elim h2.out fun e => by have e' : c.M = NB := e; omega
      f1 := .inl h2.f1, f2 := .inl h2.f2, f3 := .inl h2.f3, f4 := .inl h2.f4, ne := h2.ne
      states := h2.states, shown := h2.shown
      shut := h2.shut.congr fun k => by simp [rset], waits := h2.waits.congr fun k => by simp [rset]
      rows := fun b k => by
        by_cases e : b = 2 ∧ k = 0
        · obtain ⟨rfl, rfl⟩ := e
          rw [val_del, show lst S 2 0 = [] by simp [lst, hn]]
          exact .nil _ _
        · have e' : b ≠ 2 ∨ k ≠ 0 := Classical.byContradiction fun e1 => e ⟨Classical.byContradiction fun e2 => e1 (.inl e2), Classical.byContradiction fun e2 => e1 (.inr e2)⟩
          rw [val_not r none e']
          exact ⟨(h2.rows b k).1, fun g hg => .inl ((h2.rows b k).2 g hg)⟩
      apart := fun b k b' k' g h1 h3 => by
        have key : ∀ b k, (val (rset r 2 0 none) b k).ownBlock = some g → (val r b k).ownBlock = some g := fun b k hk => by
          by_cases e : b = 2 ∧ k = 0
          · obtain ⟨rfl, rfl⟩ := e
            rw [val_del] at hk; cases hk
          · have e' : b ≠ 2 ∨ k ≠ 0 := Classical.byContradiction fun e1 => e ⟨Classical.byContradiction fun e2 => e1 (.inl e2), Classical.byContradiction fun e2 => e1 (.inr e2)⟩
            rw [val_not r none e'] at hk; exact hk
        exact h.apart b k b' k' g (key _ _ h1) (key _ _ h3) }
  · rintro (e | e)
    · have e' : F X := e
      have := h.lt _ e'; omega
    · exact hNX e.symm
  · rw [val_del]; exact hB
/-- What has risen loses its last. -/
theorem LW.cut {c : Fx} {N : List Nd} {w : World} {F : Nat → Prop} {r : Nat → Int → Option Value} {S : MS} (h : LW c N w F r S) {rest : List Int} {x : Int} (hn : S.news = rest ++ [x]) {a : Option Addr} {cap : Nat} (hv : val r 2 0 = .slice a (rest.length + 1) cap) :
    LW c N (w.setCell ⟨c.NB, 0, none⟩ (.slice a rest.length cap)) F (rset r 2 0 (some (.slice a rest.length cap))) { S with news := rest } ∧ Stp F w F (w.setCell ⟨c.NB, 0, none⟩ (.slice a rest.length cap)) := by
  have hN := h.nb_ne
  have hg3 : w.grownBy (w.setCell ⟨c.NB, 0, none⟩ (.slice a rest.length cap)) (some c.NB) := grownBy_setCell' _ _ _
  have hr := (h.mnd.rows 2 0).1
  rw [hv, show lst S 2 0 = rest ++ [x] by simp [lst, hn]] at hr
  have hown : (Value.slice a rest.length cap).ownBlock = (val r 2 0).ownBlock := by rw [hv]; cases a <;> rfl
  have hcut := (own_last (n := rest.length) (xs := cs .i64 rest) (x := .int .i64 x) (by simpa [cs] using hr)).1
  have s1 : Stp F w F (w.setCell ⟨c.NB, 0, none⟩ (.slice a rest.length cap)) := .of_grown hg3 (fun g e => by cases e; exact h.nbF) (fun k hk => .inl hk)
  have hi := h.inr
  have k3 : ∀ k, k < w.heap.size → k ≠ c.NB → (w.setCell ⟨c.NB, 0, none⟩ (.slice a rest.length cap)).heap[k]? = w.heap[k]? := fun k hk e => hg3.block k hk (fun e2 => e (Option.some.inj e2))
  refine ⟨⟨?_, ?_, h.boxF, ?_, h.nbF, h.tab.step s1, ⟨hi.st0, hi.stb, hi.sh0, hi.shut, hi.waits, fun y hy => hi.news y (by rw [hn]; simp [hy])⟩, h.wf⟩, s1⟩
  · refine h.mnd.turn (S' := { S with news := rest }) 2 0 (fun k => k = c.NB) s1.size (fun k hk _ hc => k3 k hk hc) (fun k hk => by subst hk; exact ⟨hN.1, hN.2.1, hN.2.2.1, hN.2.2.2.2.2⟩) rfl rfl ?_ ?_ (fun b k e => ⟨val_not r _ e, lst_at e rest⟩) ?_ ?_ (fun k => ?_)
    · exact (h.mnd.shut.keep (k3 _ h.mnd.shut.lt hN.2.2.2.1.symm)).congr fun k => by simp [rset]
    · exact (h.mnd.waits.keep (k3 _ h.mnd.waits.lt hN.2.2.2.2.1.symm)).congr fun k => by simp [rset]
    · rw [val_set]
      show World.ownsRow _ 0 _ 1 _ rest.length _
      exact own_keep hcut fun g hg => k3 g (hcut.lt g hg).2 (fun e => hN.2.2.2.2.2 2 0 (by rw [← hown, ← e]; exact hg))
    · rw [val_set]; intro g hg; exact .inl (by rw [← hown]; exact hg)
    · rw [val_set, hown]
      exact ⟨.inl, fun e => e.elim id fun e => (h.mnd.rows 2 0).2 k e⟩
  · rw [s1.block c.X (blk_lt h.box) h.boxF]; exact h.box
  · rw [val_set]; exact heap_setCell_row h.nb _
#print axioms LW.enter
#print axioms LW.cut
end Go.Proofs.YtepkhhpdpmhfaaaDoor.T
namespace Go.Proofs.YtepkhhpdpmhfaaaDoor.T
open Go Go.RowKit

def tellStep (N : List Nd) (S : MS) (h : Int) : MS := if 1 ≤ h ∧ h ≤ (N.length : Int) then riseP S h 3 else S
def tellP (N : List Nd) (S : MS) (l : List Int) : MS := l.foldl (tellStep N) S
theorem tell_keep (N : List Nd) (S : MS) (l : List Int) : ∀ y, S.st y ≤ (tellP N S l).st y := by
  induction l generalizing S with
  | nil => intro y; exact Int.le_refl _
  | cons x r ih =>
    intro y
    refine Int.le_trans ?_ (ih (tellStep N S x) y)
    unfold tellStep
    split
    · exact rise_mono S x 3 y
    · exact Int.le_refl _
theorem Mb.tells {N : List Nd} {Bs : Int → Prop} {pops : Int → Nat} (l : List Int) (hl : ∀ x ∈ l, Bs x) : ∀ {S : MS}, Mb N Bs S pops → (∀ y, S.st y ≤ 3) → Mb N Bs (tellP N S l) pops := by
  induction l with
  | nil => intro S m _; exact m
  | cons x r ih =>
    intro S m h3
    refine ih (fun y hy => hl y (by simp [hy])) (S := tellStep N S x) ?_ ?_
    · unfold tellStep
      split
      · rename_i hx; exact m.tell hx (hl x (by simp))
      · exact m
    · intro y
      unfold tellStep
      split
      · unfold riseP
        split
        · show up S.st x 3 y ≤ 3
          by_cases e : y = x
          · subst e; rw [up_same]; decide
          · rw [up_other _ _ e]; exact h3 y
        · exact h3 y
      · exact h3 y
theorem tell_top {N : List Nd} (l : List Int) : ∀ {S : MS}, Inr N.length S → ∀ y ∈ l, 1 ≤ y → y ≤ (N.length : Int) → (tellP N S l).st y = 3 := by
  induction l with
  | nil => intro S _ y hy; cases hy
  | cons x r ih =>
    intro S hi y hy h1 h2
    have hi' : Inr N.length (tellStep N S x) := by
      unfold tellStep
      split
      · rename_i hx; exact hi.rise hx (by decide)
      · exact hi
    by_cases e : y ∈ r
    · exact ih (S := tellStep N S x) hi' y e h1 h2
    · have e2 : y = x := by
        rcases List.mem_cons.1 hy with e3 | e3
        · exact e3
        · exact absurd e3 e
      subst e2
      have h4 : (tellStep N S y).st y = 3 := by
        unfold tellStep
        rw [if_pos ⟨h1, h2⟩]
        exact rise_top hi.stb y
      have h5 := tell_keep N (tellStep N S y) r y
      have h6 : Inr N.length (tellP N (tellStep N S y) r) := by
        clear ih hy e h4 h5
        generalize tellStep N S y = S1 at hi'
        induction r generalizing S1 with
        | nil => exact hi'
        | cons z q ih2 =>
          refine ih2 (tellStep N S1 z) ?_
          unfold tellStep
          split
          · rename_i hz; exact hi'.rise hz (by decide)
          · exact hi'
      have h7 := (h6.stb y).2
      show (tellP N (tellStep N S y) r).st y = 3
      omega
set_option maxHeartbeats 4000000 in
set_option maxRecDepth 20000 in
theorem learn_any {c : Fx} {N : List Nd} {w : World} {F : Nat → Prop} {r : Nat → Int → Option Value} {S : MS} (h : Mnd c w F r S) (hT : Tp w F c.tp N) (hN : Wf N) {Bs Cs : Int → Prop} {pops : Int → Nat} (m : Mi N Bs S pops) (hBC : ∀ x, Bs x → Cs x)
    {lv : Value} {ls : List Int} (hl : OutR F w lv ls) (hwf : ∀ y ∈ ls, (Lit.int .i64 y).wf = true) (hls : ∀ y ∈ ls, Cs y) (hCs : ∀ y, Cs y → Bs y ∨ y ∈ ls) :
    Calls Tryd.prog 39 #[.pointer (some ⟨c.M, 0, none⟩), lv] w fun e w' => e = .returned (.tuple #[]) ∧
      ∃ F' r' S' pops' X NB, Mnd (c.re X NB) w' F' r' S' ∧ Tp w' F' c.tp N ∧ Mi N Cs S' pops' ∧ Stp F w F' w' := by
  have hs0 : ∀ o : Obj, (w.alloc o).heap.size = w.heap.size + 1 := fun o => by simp
  have hE := LW.enter (w2 := (w.alloc (.cells #[.pointer (some ⟨c.M, 0, none⟩)] 66)).alloc (.cells #[.slice none 0 0] 38)) (X := w.heap.size) (NB := w.heap.size + 1) h hT m.inr hN m.news ((below_alloc _ _).trans ((below_alloc _ _).mono (by simp)))
    (by rw [(below_alloc _ _).block _ (by simp)]; exact heap_alloc_new w _) (Nat.le_refl _) (by omega) (heap_alloc2_new w _ _) (by omega)
  have hMb := (m.busy hBC)
  have hTold : ∀ y, Bs y → 1 ≤ y → y ≤ (N.length : Int) → S.st y = 3 := m.told
  have hIn := m.inr
  obtain ⟨la, lc, rfl⟩ : ∃ la lc, lv = .slice la ls.length lc := by obtain ⟨a, c, e, _⟩ := hl.rd; exact ⟨a, c, e⟩
  have hO := hl.step hE.2
  have HE := Lib.hid hE
  have HO := Lib.hid hO
  have HM := Lib.hid hMb
  have HT := Lib.hid hTold
  have HI := Lib.hid hIn
  have HWF := Lib.hid hwf
  have HLS := Lib.hid hls
  have HCS := Lib.hid hCs
  clear h hT m hl hE hO hMb hTold hIn hwf hls hCs hBC
  go_enter Tryd.func39, Tryd.ntmps39
  go_wp2_with fail
  generalize (w.alloc (.cells #[.pointer (some ⟨c.M, 0, none⟩)] 66)).alloc (.cells #[.slice none 0 0] 38) = W2 at *
  go_loopw [16] (fun i wr => ∃ (j : Nat) (F' : Nat → Prop) (r' : Nat → Int → Option Value), j ≤ ls.length ∧ i = .int .i64 j ∧ LW (c.re w.heap.size (w.heap.size + 1)) N wr F' r' (tellP N S (ls.take j)) ∧ Stp F w F' wr ∧ OutR F' wr (.slice la ls.length lc) ls) (fun i _ => ls.length - (RowKit.intOf i).toNat)
  case atStart => exact ⟨0, _, _, Nat.zero_le _, rfl, HE.out.1, HE.out.2, HO.out⟩
  case round =>
    obtain ⟨j, F', r', hj, rfl, hlw, hst, hor⟩ := hrel
    by_cases hlt : j < ls.length
    · have hlt' : (j : Int) < (ls.length : Int) := by omega
      rcases hor.rd.cases with ⟨h0, _⟩ | ⟨b, off, cp, e, _, _, _, _, hc⟩
      · rw [h0] at hlt; simp at hlt
      · cases e
        have hcj := hc j hlt
        have hy := HWF.out _ (getD_mem hlt)
        have HTK := Lib.hid (take_succ_getD ls j hlt)
        have x0 : wr.cell? ⟨w.heap.size, 0, none⟩ = some (.pointer (some ⟨c.M, 0, none⟩)) := cell_row0 hlw.box
        have m0 : wr.cell? ⟨c.M, 0, none⟩ = some c.tp := hlw.mnd.fields.1
        have htab : Tp wr F' c.tp N := hlw.tab
        have HRM := Lib.hid (((Mb.tells (ls.take j) (fun z hz => HLS.out z (List.mem_of_mem_take hz)) HM.out (fun z => (HI.out.stb z).2)).cn.room hN hlw.inr).mono (k := 1099511627776) (by decide))
        have HLW := Lib.hid hlw
        have HST := Lib.hid hst
        have HOR := Lib.hid hor
        clear hlw hst hor hc
        generalize hYY : ls.getD j 0 = y at *
        by_cases hin : 1 ≤ y ∧ y ≤ (N.length : Int)
        · have hlook := htab.look hin.1 hin.2
          have HIN := Lib.hid hin
          have eT : tellP N S (ls.take (j + 1)) = riseP (tellP N S (ls.take j)) y 3 := by
            rw [HTK.out]
            unfold tellP
            rw [List.foldl_append]
            show tellStep N _ y = _
            unfold tellStep
            rw [if_pos hin]
          have HET := Lib.hid eT
          clear eT hin htab
          go_wp2_with (first
            | (go_at_call 23; refine hlook.mono ?_; rintro e w3 ⟨s3, pv3, rfl, ho3, hb3⟩; obtain ⟨a3, p3, rfl, _⟩ := own_shape ho3; clear ho3; have HB3 := Lib.hid hb3; clear hb3 hlook)
            | (go_at_call 51; refine (rise_any (to := 3) (HLW.out.below (HB3.out.trans ((below_alloc w3 _).mono HB3.out.size))) HIN.out (by decide) HRM.out).mono ?_; rintro e w4 ⟨rfl, F4, r4, hl4, hs4, _⟩; have HL4 := Lib.hid hl4; have HS4 := Lib.hid hs4; clear hl4 hs4))
          go_roundw
          case rel =>
            have hs := (Stp.below (HB3.out.trans ((below_alloc w3 _).mono HB3.out.size))).trans HS4.out
            exact ⟨j + 1, F4, r4, by omega, by go_num, by rw [HET.out]; exact HL4.out, HST.out.trans hs, HOR.out.step hs⟩
          case measure => simp [RowKit.intOf]; omega
        · have hno := htab.look_no (x := y) (by omega)
          have eT : tellP N S (ls.take (j + 1)) = tellP N S (ls.take j) := by
            rw [HTK.out]
            unfold tellP
            rw [List.foldl_append]
            show tellStep N _ y = _
            unfold tellStep
            rw [if_neg hin]
          have HET := Lib.hid eT
          clear eT hin htab
          go_wp2_with (go_at_call 23; refine hno.mono ?_; rintro e w3 ⟨rfl, hb3⟩; have HB3 := Lib.hid hb3; clear hb3 hno)
          go_roundw
          case rel =>
            have hb := HB3.out.trans ((below_alloc w3 (.cells #[.int .i64 0, .string ByteArray.empty, .slice none 0 0] 54)).mono HB3.out.size)
            have hs := Stp.below (F := F') hb
            exact ⟨j + 1, F', r', by omega, by go_num, by rw [HET.out]; exact HLW.out.below hb, HST.out.trans hs, HOR.out.step hs⟩
          case measure => simp [RowKit.intOf]; omega
    · obtain rfl : j = ls.length := by omega
      have HLW := Lib.hid hlw
      have HST := Lib.hid hst
      clear hlw hst hor
      have eA : ls.take ls.length = ls := List.take_length
      rw [eA] at HLW
      have hmb1 := Mb.tells ls HLS.out HM.out (fun z => (HI.out.stb z).2)
      have htop : ∀ y, Cs y → 1 ≤ y → y ≤ (N.length : Int) → (tellP N S ls).st y = 3 := fun y hy h1 h2 => by
        rcases HCS.out y hy with e | e
        · have h3 := HT.out y e h1 h2
          have h4 := tell_keep N S ls y
          have h5 := (HLW.out.inr.stb y).2
          omega
        · exact tell_top ls HI.out y e h1 h2
      have hsum : sumN N.length pops ≤ 2 * N.length := sumN_le fun y _ _ => by have := hmb1.cn.c0.c1 y; omega
      have HTOP := Lib.hid htop
      have HMB := Lib.hid hmb1
      clear htop hmb1 eA
      go_wp2_with fail
      go_loopg [] (2 * N.length - sumN N.length pops) (fun k wr => ∃ (F' : Nat → Prop) (r' : Nat → Int → Option Value) (S' : MS) (pops' : Int → Nat), LW (c.re w.heap.size (w.heap.size + 1)) N wr F' r' S' ∧ Stp F w F' wr ∧ Mb N Cs S' pops' ∧ (∀ y, Cs y → 1 ≤ y → y ≤ (N.length : Int) → S'.st y = 3) ∧ sumN N.length pops' + k = 2 * N.length)
      case atStart => exact ⟨F', r', _, pops, HLW.out, HST.out, HMB.out, HTOP.out, by omega⟩
      case round =>
        clear HLW HST HTOP HMB HM HT HI HWF HLS HCS hsum
        obtain ⟨F2, r2, S2, p2, hlw, hst, hmb, htp, hk⟩ := hrel
        have hrow := (hlw.mnd.rows 2 0).1
        have e20 : lst S2 2 0 = S2.news := by simp [lst]
        rw [e20] at hrow
        obtain ⟨a2, cp2, hv, _⟩ := own_shape hrow
        have nb0 : wr.cell? ⟨w.heap.size + 1, 0, none⟩ = some (val r2 2 0) := cell_row0 hlw.nb
        have nz0 : wr.frozen? ⟨w.heap.size + 1, 0, none⟩ = false := by simp [World.frozen?, show wr.heap[w.heap.size + 1]? = _ from hlw.nb]
        rw [hv] at nb0
        rcases List.eq_nil_or_concat S2.news with hnil | ⟨rest, x, hnews⟩
        · rw [hnil] at nb0
          have HLW := Lib.hid hlw
          have HST := Lib.hid hst
          have HMB := Lib.hid hmb
          have HTP := Lib.hid htp
          clear hlw hst hmb htp hrow
          go_wp2_with fail
          go_end0
          exact ⟨rfl, F2, r2, S2, p2, w.heap.size, w.heap.size + 1, HLW.out.mnd, HLW.out.tab, ⟨hnil, HLW.out.inr, HMB.out.cn, HMB.out.inv, HMB.out.snd, HTP.out⟩, HST.out⟩
        · rw [List.concat_eq_append] at hnews
          have hlen : S2.news.length = rest.length + 1 := by rw [hnews]; simp
          rw [hlen] at hv nb0
          have hcut := hlw.cut hnews hv
          have hrow2 := hrow
          rw [hlen, hv, hnews] at hrow2
          obtain ⟨_, g, rfl, hle, hmx⟩ := own_last (n := rest.length) (xs := cs .i64 rest) (x := .int .i64 x) (by simpa [cs] using hrow2)
          have hgx : wr.cell? ⟨g, rest.length, none⟩ = some (.int .i64 x) := by
            have h1 := (Rd.of_own hrow2).1
            rcases h1.cases with ⟨h0, _⟩ | ⟨b, off, cp, e, _, _, _, _, hc⟩
            · simp at h0
            · have e1 := (Value.slice.inj e).1
              cases e1
              have := hc rest.length (by simp)
              simpa [List.getD_eq_getElem?_getD] using this
          have hx : 1 ≤ x ∧ x ≤ (N.length : Int) := hlw.inr.news x (by rw [hnews]; simp)
          have hspr := spread_any hcut.1 hx (hmb.cn.room hN hlw.inr |> fun h => ⟨h.shut, h.waits, by have := h.news; rw [hnews] at this; simp at this; show rest.length ≤ _; omega⟩)
          have x0 : wr.cell? ⟨w.heap.size, 0, none⟩ = some (.pointer (some ⟨c.M, 0, none⟩)) := cell_row0 hlw.box
          have hpop := hmb.cn.pop hlw.inr hnews
          have HSP := Lib.hid hspr
          have HLW := Lib.hid hlw
          have HST := Lib.hid hst
          have HMB := Lib.hid hmb
          have HTP := Lib.hid htp
          have HCU := Lib.hid hcut
          have HPO := Lib.hid hpop
          clear hlw hst hmb htp hrow hrow2 hspr hcut hpop hv
          generalize rest.length = q at *
          have hq64 : wrap64 (q : Int) = q := by unfold maxLen at hmx; unfold wrap64; omega
          have hqn : ((q : Int)).toNat = q := by omega
          go_wp2_with (go_at_call 52; refine HSP.out.mono ?_; rintro e w5 ⟨rfl, S5, hsp5, F5, r5, hl5, hst5⟩; have HS5 := Lib.hid hsp5; have HL5 := Lib.hid hl5; have HT5 := Lib.hid hst5; clear hsp5 hl5 hst5)
          go_roundg (gk - 1)
          case measure => have := HPO.out; omega
          case rel =>
            have hm5 := HMB.out.spread hN HLW.out.inr hnews HS5.out
            exact ⟨F5, r5, S5, pop1 p2 x, HL5.out, HST.out.trans (HCU.out.2.trans HT5.out), hm5.1, fun y hy h1 h2 => by
              have h3 := HTP.out y hy h1 h2
              have h4 := hm5.2 y
              have h5 := (HL5.out.inr.stb y).2
              omega, by have := HPO.out; omega⟩
#print axioms learn_any
end Go.Proofs.YtepkhhpdpmhfaaaDoor.T
