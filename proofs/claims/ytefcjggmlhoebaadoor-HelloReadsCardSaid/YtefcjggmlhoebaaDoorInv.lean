/- Regions that draw their order: a law by what holds as operations have come up; and append of bytes onto an empty row, told by what it reads. -/
import Derived.Test.YtefcjggmlhoebaaDoorVal
import Derived.OrdersHeld
import Derived.ArgAppend
import Derived.Deep.RegionHeld3
import Derived.Deep.DrawnRows
namespace Go.Proofs.YtefcjggmlhoebaaDoor
open Go Go.RowKit

/-- How many have not come up. -/
def unl (n : Nat) (listed : Array Bool) : Nat := ((List.range n).filter fun i => !listed.getD i true).length
theorem filter_lt {l : List Nat} {p q : Nat → Bool} (h : ∀ i ∈ l, q i = true → p i = true) {k : Nat} (hk : k ∈ l) (hp : p k = true) (hq : q k = false) : (l.filter q).length < (l.filter p).length := by
  induction l with
  | nil => cases hk
  | cons a r ih =>
    have hle : (r.filter q).length ≤ (r.filter p).length := by
      have : ∀ (r : List Nat), (∀ i ∈ r, q i = true → p i = true) → (r.filter q).length ≤ (r.filter p).length := by
        intro r
        induction r with
        | nil => intro _; exact Nat.le_refl _
        | cons b s ih2 =>
          intro hs
          have := ih2 fun i hi => hs i (List.mem_cons_of_mem _ hi)
          have hb := hs b List.mem_cons_self
          simp only [List.filter_cons]
          cases hqb : q b <;> cases hpb : p b <;> simp_all
          omega
      exact this r fun i hi => h i (List.mem_cons_of_mem _ hi)
    rcases List.mem_cons.1 hk with rfl | hk
    · simp only [List.filter_cons, hp, hq, if_true]
      simp
      omega
    · have := ih (fun i hi => h i (List.mem_cons_of_mem _ hi)) hk
      have ha := h a List.mem_cons_self
      simp only [List.filter_cons]
      cases hqa : q a <;> cases hpa : p a <;> simp_all
      omega
theorem unl_set {n : Nat} {listed : Array Bool} {i : Nat} (hi : i < n) (h : listed.getD i true = false) : unl n (listed.setIfInBounds i true) < unl n listed := by
  refine filter_lt (k := i) (fun j _ hj => ?_) (List.mem_range.2 hi) (by simp [h]) ?_
  · by_cases hji : i = j
    · subst hji; simp [h]
    · rw [getD_set_ne true hji] at hj
      exact hj
  · have hlt : i < listed.size := by
      rcases Nat.lt_or_ge i listed.size with h' | h'
      · exact h'
      · have e : listed.getD i true = true := by simp [Array.getD, Nat.not_lt.2 h']
        rw [e] at h; cases h
    simp [Array.getD, hlt]
/-- By what holds as they come up. -/
theorem wpAnyH_inv {P : Program} {md : Region.Mode} {ops : Array Oper} {Q : Exit → Act → World → Prop} {S : World → Prop} (I : Array Bool → Act → World → Prop)
    (step : ∀ (listed : Array Bool) (a : Act) (w : World), I listed a w → ∀ i ∈ Region.ready md ops listed, wpOp P ops Q i (fun a' w' => S w' ∧ I (listed.setIfInBounds i true) a' w') a w)
    (done : ∀ (listed : Array Bool) (a : Act) (w : World), I listed a w → Region.ready md ops listed = [] → Q .normal a w) :
    ∀ (fuel : Nat) (listed : Array Bool) (a : Act) (w : World), unl ops.size listed ≤ fuel → I listed a w → wpAnyH P md ops Q S fuel listed a w := by
  intro fuel
  induction fuel with
  | zero =>
    intro listed a w hf hI
    have hr : Region.ready md ops listed = [] := by
      cases h : Region.ready md ops listed with
      | nil => rfl
      | cons i r =>
        exfalso
        have hm : i ∈ Region.ready md ops listed := by rw [h]; exact List.mem_cons_self
        have h2 := mem_ready.1 hm
        have h0 : unl ops.size listed = 0 := by omega
        unfold unl at h0
        have h3 := List.eq_nil_of_length_eq_zero h0
        have h4 : i ∈ ((List.range ops.size).filter fun i => !listed.getD i true) := by
          unfold Region.ready at hm
          have h5 := List.mem_filter.1 hm
          refine List.mem_filter.2 ⟨h5.1, ?_⟩
          have h6 := h5.2
          simp only [Bool.and_eq_true] at h6
          exact h6.1
        rw [h3] at h4
        cases h4
    exact ⟨hr, done listed a w hI hr⟩
  | succ fuel ih =>
    intro listed a w hf hI
    refine ⟨fun hr => done listed a w hI hr, fun i hi => ?_⟩
    have h5 : i < ops.size ∧ listed.getD i true = false := by
      unfold Region.ready at hi
      have h5 := List.mem_filter.1 hi
      have h6 := h5.2
      simp only [Bool.and_eq_true] at h6
      exact ⟨List.mem_range.1 h5.1, by simpa using h6.1⟩
    refine wpOp_mono (fun a' w' ⟨h1, h2⟩ => ⟨h1, ih _ _ _ ?_ h2⟩) (step listed a w hI i hi)
    have := unl_set h5.1 h5.2
    omega

theorem info_row5 : ∃ i, Tryd.prog.info? 5 = some i ∧ i.zero = some (.int .u8 0) ∧ i.size = 1 ∧ i.bytes = 1 := info_parts info5

/-- It reads, and where it has cells they lie from block lo on. -/
structure Ra (lo : Nat) (w : World) (v : Value) (zs : List Int) : Prop where
  rd : Rd w v zs
  far : ∀ (a : Addr) (n cap : Nat), v = .slice (some a) n cap → zs ≠ [] → lo ≤ a.block
theorem Ra.below {lo : Nat} {w w' : World} {v : Value} {zs : List Int} (h : Ra lo w v zs) (hb : Below w.heap.size w w') : Ra lo w' v zs := ⟨h.rd.below hb, h.far⟩
theorem Ra.alloc {lo : Nat} {w : World} {v : Value} {zs : List Int} (h : Ra lo w v zs) (o : Obj) : Ra lo (w.alloc o) v zs := ⟨h.rd.alloc o, h.far⟩
theorem Ra.mono {lo lo' : Nat} {w : World} {v : Value} {zs : List Int} (h : Ra lo w v zs) (hl : lo' ≤ lo) : Ra lo' w v zs := ⟨h.rd, fun a n cap e hz => Nat.le_trans hl (h.far a n cap e hz)⟩
theorem Ra.set {lo : Nat} {w : World} {v : Value} {zs : List Int} (h : Ra lo w v zs) {p : Addr} (hp : p.block < lo) (u : Value) : Ra lo (w.setCell p u) v zs := by
  refine ⟨?_, h.far⟩
  obtain ⟨ao, cap, hv, h1, h2, h3, h4, hc⟩ := h.rd
  refine ⟨ao, cap, hv, h1, h2, h3, h4, fun a ha j hj => ?_⟩
  have hz : zs ≠ [] := fun e => by rw [e] at hj; simp at hj
  have hne : a.block ≠ p.block := by
    have := h.far a zs.length cap (by rw [hv, ha]) hz
    omega
  obtain ⟨b, off, spot⟩ := a
  have hs : spot = none := by simpa [Addr.add] using World.cell?_spot (hc _ ha 0 (by omega))
  subst hs
  have hcell := hc _ ha j hj
  have e : (w.setCell p u).cell? (Addr.add ⟨b, off, none⟩ j) = w.cell? (Addr.add ⟨b, off, none⟩ j) := by
    rw [Addr.add_lit]
    unfold World.cell?
    rw [Below.heap_setCell w p u b hne]
  rw [e]; exact hcell
/-- append of bytes onto a row of no room: what comes reads as they do. -/
theorem wp_append_fresh {w : World} {o : Oper} {a : Act} {K : Act → World → Prop} {Q : Exit → Act → World → Prop} (s x : Operand)
    (ho : o.op = .call { callee := .builtin .append, args := #[s, x], argTypes := #[22, 22] }) (g : Nat) (hs : a.eval s = .slice (some ⟨g, 0, none⟩) 0 0)
    (xv : Value) (zs : List Int) (hx : a.eval x = xv) (hr : Rd w xv zs) (hl : zs.length ≤ 1000000) {lo : Nat} (hlo : lo ≤ w.heap.size)
    (h : ∀ v' w', Ra lo w' v' zs → Below w.heap.size w w' → K (a.put o.dst v') w') : o.wp Tryd.prog a w K Q := by
  obtain ⟨i, hi, hz0, hz1, hz2⟩ := info_row5
  obtain ⟨ao, cap, rfl, h1, h2, h3, hbt, hc⟩ := hr
  have key : ∃ v' w', (Builtin.append_ #[22, 22] o.type #[.slice (some ⟨g, 0, none⟩) 0 0, .slice ao zs.length cap]).run Tryd.prog w = .ok v' w' ∧ Ra w.heap.size w' v' zs ∧ Below w.heap.size w w' := by
    by_cases hzs : zs.length = 0
    · refine ⟨.slice (some ⟨g, 0, none⟩) 0 0, w, ?_, ?_, Below.refl _ _⟩
      · rw [hzs]
        cases ao <;> simp [Builtin.append_, run_underlying Tryd.underlying22, sizeOf, typeInfo, hi, Builtin.lenOf, Builtin.firstCells, storeCells, loadCells, loadCellsFrom]
      · obtain rfl := List.eq_nil_of_length_eq_zero hzs
        exact ⟨⟨_, 0, rfl, Nat.le_refl _, by simp [maxLen], (fun _ => rfl), Byt.nil, fun a _ j hj => by simp at hj⟩, fun _ _ _ _ hz => absurd rfl hz⟩
    · cases ao with
      | none => have := h3 rfl; omega
      | some ad =>
        obtain ⟨v', w', hrun, hown, hg⟩ := run_append_arg_grows (P := Tryd.prog) (w := w) 22 o.type 5 i (.int .u8 0) 1 1 Tryd.underlying22 hi hz0 hz1 hz2 rfl (by decide) ⟨g, 0, none⟩ 0 0 [] rfl (fun j u hu => by cases hu) ad zs.length cap (by8 zs) (by simp [by8_len])
          (fun j u hu => by
            have hj : j < zs.length := by
              have := (List.getElem?_eq_some_iff.1 hu).1
              simpa [by8_len] using this
            rw [by8_get zs j hj] at hu
            cases hu
            exact hc ad rfl j hj) (by omega) (by unfold maxLen; omega) (by omega)
        refine ⟨v', w', hrun, ⟨(Rd.of_own hown hbt).1, fun a n cap' e _ => ?_⟩, below_made hg⟩
        subst e
        rcases hown.2 with ⟨e2, _⟩ | ⟨g2, cap2, cur, e2, hg2, _⟩
        · cases e2
        · cases e2; exact hg2
  obtain ⟨v', w', hrun, hrd, hb⟩ := key
  unfold Oper.wp execOp
  simp only [ho, resolve, invoke, builtin, Sem.run_bind, Sem.run_pure, Result.andThen_ok, List.map_toArray, List.map_cons, List.map_nil, hs, hx, hrun]
  exact h v' w' (hrd.mono hlo) hb
theorem step_append_fresh {w : World} {ops : Array Oper} {o : Oper} {a : Act} {K : Act → World → Prop} {Q : Exit → Act → World → Prop} {E : Prop} (hgd : o.guard = none) (s x : Operand)
    (ho : o.op = .call { callee := .builtin .append, args := #[s, x], argTypes := #[22, 22] }) (g : Nat) (hs : a.eval s = .slice (some ⟨g, 0, none⟩) 0 0)
    (xv : Value) (zs : List Int) (hx : a.eval x = xv) (hr : Rd w xv zs) (hl : zs.length ≤ 1000000) {lo : Nat} (hlo : lo ≤ w.heap.size)
    (h : ∀ v' w', Ra lo w' v' zs → Below w.heap.size w w' → K (a.put o.dst v') w') :
    if Region.wanted o (yielded ops a.tmps) = true then Oper.wp Tryd.prog o a w K Q else E := by
  have hw : Region.wanted o (yielded ops a.tmps) = true := by simp [Region.wanted, hgd]
  rw [if_pos hw]
  exact wp_append_fresh s x ho g hs xv zs hx hr hl hlo h
#print axioms wpAnyH_inv
#print axioms wp_append_fresh
end Go.Proofs.YtefcjggmlhoebaaDoor
