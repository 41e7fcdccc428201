/- The table's map, told key by key: what a look-up gives, what a store makes of it; two laws for regions whose order is open and that only read. -/
import Derived.Test.YtmplcibaoanlnaaMapK
import Derived.StillTailTactics
import Derived.RegionTactic
namespace Go.Proofs.Ytmplcibaoanlnaa
open Go Go.RowKit

/-- A key that a map can hold. -/
def KeyOk (k : Int) (s : ByteArray) (ps : List Int) : Prop := (Lit.int .i64 k).wf = true ∧ s.size ≤ maxLen ∧ ps.length = 16 ∧ ∀ p ∈ ps, (Lit.int .i64 p).wf = true
theorem KeyOk.lit {k : Int} {s : ByteArray} {ps : List Int} (h : KeyOk k s ps) : ∃ l, keyOf Try.prog 64 (kval k s ps) = some l := keyOf_kval k s ps h.1 h.2.1 h.2.2.1 h.2.2.2
theorem cs_inj (k : IntKind) {xs ys : List Int} (h : cs k xs = cs k ys) : xs = ys := by
  induction xs generalizing ys with
  | nil => cases ys with
    | nil => rfl
    | cons y ys => simp [cs] at h
  | cons x xs ih => cases ys with
    | nil => simp [cs] at h
    | cons y ys =>
      simp only [cs, List.map_cons, List.cons.injEq, Value.int.injEq, true_and] at h
      rw [h.1, ih h.2]
theorem kval_inj {k k' : Int} {s s' : ByteArray} {ps ps' : List Int} (h : kval k s ps = kval k' s' ps') : k = k' ∧ s = s' ∧ ps = ps' := by
  simp only [kval, Value.agg.injEq, List.toArray_eq_iff, List.cons.injEq, Value.int.injEq, true_and, Value.string.injEq] at h
  exact ⟨h.1, h.2.1, cs_inj .i64 h.2.2⟩

/-- Block mb is a map of at most n entries that holds f's numbers at their keys, and nothing else. -/
def MapV (w : World) (mb n : Nat) (f : Int → ByteArray → List Int → Option Int) : Prop :=
  ∃ D : DataW Unit, w.ownsMap Try.prog 64 (plainElem Try.prog 26) mb n D ∧ ∀ k s ps, KeyOk k s ps → ∀ l, keyOf Try.prog 64 (kval k s ps) = some l →
    (f k s ps = none → Maps.has D l = false) ∧ (∀ c, f k s ps = some c → Maps.has D l = true ∧ D.atKey l (.lit (.int .i64 0)) = .lit (.int .i64 c))

theorem MapV.made (w : World) : MapV (w.alloc (.map #[] 0)) w.heap.size 0 (fun _ _ _ => none) :=
  ⟨.map [], World.ownsMap_made _ _ _ _, fun k s ps _ l _ => ⟨fun _ => rfl, fun c h => by cases h⟩⟩
theorem MapV.congr {w : World} {mb n : Nat} {f g : Int → ByteArray → List Int → Option Int} (h : MapV w mb n f) (e : ∀ k s ps, KeyOk k s ps → f k s ps = g k s ps) : MapV w mb n g := by
  obtain ⟨D, h1, h2⟩ := h
  exact ⟨D, h1, fun k s ps hk l hl => by rw [← e k s ps hk]; exact h2 k s ps hk l hl⟩
theorem MapV.mono {w : World} {mb n n' : Nat} {f : Int → ByteArray → List Int → Option Int} (h : MapV w mb n f) (hn : n ≤ n') : MapV w mb n' f := by
  obtain ⟨D, h1, h2⟩ := h
  exact ⟨D, h1.mono hn, h2⟩
theorem MapV.lt {w : World} {mb n : Nat} {f : Int → ByteArray → List Int → Option Int} (h : MapV w mb n f) : mb < w.heap.size := by
  obtain ⟨D, h1, _⟩ := h; exact h1.lt
theorem MapV.keep {w w' : World} {mb n : Nat} {f : Int → ByteArray → List Int → Option Int} (h : MapV w mb n f) (e : w'.heap[mb]? = w.heap[mb]?) : MapV w' mb n f := by
  obtain ⟨D, ⟨es, clock, hb, r⟩, h2⟩ := h
  exact ⟨D, ⟨es, clock, by rw [e]; exact hb, r⟩, h2⟩

theorem zero32 (w : World) : (zeroValue 26).run Try.prog w = .ok (.int .i64 0) w := by kernel_rfl

theorem MapV.look {w : World} {mb n : Nat} {f : Int → ByteArray → List Int → Option Int} (h : MapV w mb n f) {k : Int} {s : ByteArray} {ps : List Int} (hk : KeyOk k s ps) :
    (Instr.lookup 40 (.map (some mb)) (kval k s ps) true).run Try.prog w = .ok (.tuple #[.int .i64 ((f k s ps).getD 0), .bool (f k s ps).isSome]) w := by
  obtain ⟨D, h1, h2⟩ := h
  obtain ⟨l, hl⟩ := hk.lit
  obtain ⟨h3, h4⟩ := h2 k s ps hk l hl
  obtain ⟨v, q, hrun, hv⟩ := h1.look_ok keyed Try.underlying40 (zero32 w) (plainElem_int (q := .i64) (a := 0) Try.underlying26 (by decide)) hl
  obtain ⟨a, rfl, ha, _⟩ := plainElem_int_inv Try.underlying26 hv
  simp only [Prod.mk.injEq] at ha
  cases hf : f k s ps with
  | none =>
    have e := h3 hf
    rw [Maps.atKey_of_not_has e] at ha
    simp only [DataW.lit.injEq, Lit.int.injEq, true_and] at ha
    rw [hrun, e, ← ha.1]
    rfl
  | some c =>
    obtain ⟨e1, e2⟩ := h4 c hf
    rw [e2] at ha
    simp only [DataW.lit.injEq, Lit.int.injEq, true_and] at ha
    rw [hrun, e1, ← ha.1]
    rfl

/-- A look-up, in a region that only reads. -/
theorem wpStill_lookup {ops : Array Oper} {rest : List Oper} {o : Oper} {a : Act} {w : World} {Q : Act → Prop} (m x : Operand) (hw : Region.wanted o (yielded ops a.tmps) = true) (hop : o.op = .lookup 40 m x true)
    {mb n : Nat} {f : Int → ByteArray → List Int → Option Int} (hmap : MapV w mb n f) (hm : a.eval m = .map (some mb)) {k : Int} {s : ByteArray} {ps : List Int} (hk : KeyOk k s ps) (hx : a.eval x = kval k s ps)
    (h : wpStill Try.prog ops w Q rest (a.put o.dst (.tuple #[.int .i64 ((f k s ps).getD 0), .bool (f k s ps).isSome]))) : wpStill Try.prog ops w Q (o :: rest) a := by
  refine wpStill_step fun K hK => ?_
  rw [if_pos hw]
  have hrun := hmap.look hk
  have e : (execOp a.eval o).run Try.prog w = .ok (.value (.tuple #[.int .i64 ((f k s ps).getD 0), .bool (f k s ps).isSome])) w := by
    simp [execOp, hop, hm, hx, hrun, Result.andThen]
  unfold Oper.still
  rw [e]
  exact ⟨rfl, hK _ h⟩

/-- A whole block loaded, in a region that only reads. -/
theorem wpStill_load_row {P : Program} {ops : Array Oper} {rest : List Oper} {o : Oper} {a : Act} {w : World} {Q : Act → Prop} (hgw : Region.wanted o (yielded ops a.tmps) = true) (ty : TypeId) (x : Operand) (ho : o.op = .load ty x)
    (g : Nat) (hx : a.eval x = .pointer (some ⟨g, 0, none⟩)) (t : TypeId) (cur : Array Value) (fr : Nat × Nat) (d : TypeDesc) (hg : w.heap[g]? = some (.cells cur t fr))
    (hu : P.underlying ty = some d) (hd : (match d with | .struct _ | .array _ _ => true | _ => false) = true) (hi : (P.info? ty).map (·.size) = some cur.size)
    (h : wpStill P ops w Q rest (a.put o.dst (.agg cur))) : wpStill P ops w Q (o :: rest) a := by
  refine wpStill_step fun K hK => ?_
  rw [if_pos hgw]
  have e : (execOp a.eval o).run P w = .ok (.value (.agg cur)) w := by
    simp only [execOp, ho, hx, Instr.loadAt, Instr.sureAddr, Sem.run_bind, Sem.run_pure, Result.andThen_ok, run_loadVar_row w g t ty cur fr d hg hu hd hi]
  unfold Oper.still
  rw [e]
  exact ⟨rfl, hK _ h⟩

/-- A store. -/
theorem wpList_update {ops : Array Oper} {rest : List Oper} {o : Oper} {a : Act} {w : World} {Q : Exit → Act → World → Prop} (m x v : Operand) (hgd : o.guard = none) (hop : o.op = .mapUpdate 40 m x v)
    {mb n : Nat} {f : Int → ByteArray → List Int → Option Int} (hmap : MapV w mb n f) (hn : n < maxLen) (hm : a.eval m = .map (some mb)) {k : Int} {s : ByteArray} {ps : List Int} (hk : KeyOk k s ps) (hx : a.eval x = kval k s ps)
    {c : Int} (hc : (Lit.int .i64 c).wf = true) (hv : a.eval v = .int .i64 c)
    (h : ∀ w', MapV w' mb (n + 1) (fun k' s' ps' => if k' = k ∧ s' = s ∧ ps' = ps then some c else f k' s' ps') → w.grownBy w' (some mb) → wpList Try.prog ops Q rest (a.put o.dst undef) w') : wpList Try.prog ops Q (o :: rest) a w := by
  obtain ⟨D, h1, h2⟩ := hmap
  obtain ⟨l, hl⟩ := hk.lit
  refine wpList_mapUpdate_own w hgd m x v 40 hop 64 26 keyed Try.underlying40 _ mb n D hm h1 hn _ _ l hx hv hl _ [] (plainElem_int Try.underlying26 hc) ?_
  intro w' h1' hg
  refine h w' ⟨_, h1', fun k' s' ps' hk' l' hl' => ?_⟩ hg
  by_cases e : k' = k ∧ s' = s ∧ ps' = ps
  · obtain ⟨rfl, rfl, rfl⟩ := e
    obtain rfl : l = l' := Option.some.inj (hl.symm.trans hl')
    dsimp only
    rw [if_pos ⟨rfl, rfl, rfl⟩]
    refine ⟨(fun h => by cases h), fun c' hc' => ?_⟩
    cases hc'
    exact ⟨Maps.has_put_same h1.isMap (keyed.key hl) _, Maps.atKey_put_same h1.isMap (keyed.key hl) _ _⟩
  · have hne : l' ≠ l := by
      intro e2
      subst e2
      have := kval_inj (keyed.inj hl' hl)
      exact e this
    dsimp only
    rw [if_neg e]
    obtain ⟨h3, h4⟩ := h2 k' s' ps' hk' l' hl'
    refine ⟨fun hf => ?_, fun c' hc' => ?_⟩
    · rw [Maps.has_put_other hne]; exact h3 hf
    · rw [Maps.has_put_other hne, Maps.atKey_put_other hne]; exact h4 c' hc'
#print axioms wpStill_lookup
#print axioms wpList_update
end Go.Proofs.Ytmplcibaoanlnaa
