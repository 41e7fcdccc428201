/- The stream's map of pieces, told place by place: what a look-up gives, what a store, a delete make of it. -/
import Derived.Test.YtfgjlfcadpmkhaaSMsgs3
import Derived.Maps.Own
import Derived.Maps.OwnSet
import Derived.Maps.RangeWalk
import Derived.StillTailTactics
namespace Go.Proofs.Ytfgjlfcadpmkhaa
open Go Go.RowKit
open Go.Maps (Keyed)

theorem key3 : Keyed Try.prog 3 := Go.Maps.int_keyed Try.underlying3
theorem keyOf3 {k : Int} (h : (Lit.int .i64 k).wf = true) : keyOf Try.prog 3 (.int .i64 k) = some (.int .i64 k) := by
  simp [keyOf, Try.underlying3, mapKey, h]
theorem wf_of {k : Int} (h0 : 0 ≤ k) (h1 : k ≤ 9223372036854775807) : (Lit.int .i64 k).wf = true := by
  simp [Lit.wf, IntKind.min, IntKind.max, IntKind.bits, IntKind.signed]; omega
/-- A piece among the map's elements is told by itself. -/
def sR (v : Value) : Option (DataW Value × List MemPlace) :=
  match v with
  | .slice _ _ _ => some (.held v, [])
  | _ => none
theorem sR_slice (a : Option Addr) (n c : Nat) : sR (.slice a n c) = some (.held (.slice a n c), []) := rfl
theorem sR_inv {v : Value} {y : DataW Value × List MemPlace} (h : sR v = some y) : (∃ a n c, v = .slice a n c) ∧ y = (.held v, []) := by
  cases v <;> simp [sR] at h
  exact ⟨⟨_, _, _, rfl⟩, h.symm⟩
theorem zeroS (w : World) : (zeroValue 29).run Try.prog w = .ok (.slice none 0 0) w := by kernel_rfl
/-- What the map's datum says of f. -/
def Says (D : DataW Value) (f : Int → Option Value) : Prop := ∀ k, (Lit.int .i64 k).wf = true → (f k = none → Maps.has D (.int .i64 k) = false) ∧ ∀ v, f k = some v → Maps.has D (.int .i64 k) = true ∧ ∀ z, D.atKey (.int .i64 k) z = .held v
/-- Block mb is a map of at most n entries that holds f's values at their keys, and nothing else. -/
def MapS (w : World) (mb n : Nat) (f : Int → Option Value) : Prop := ∃ D : DataW Value, w.ownsMap Try.prog 3 sR mb n D ∧ Says D f
theorem MapS.made (w : World) : MapS (w.alloc (.map #[] 0)) w.heap.size 0 (fun _ => none) :=
  ⟨.map [], World.ownsMap_made _ _ _ _, fun k _ => ⟨fun _ => rfl, fun v h => by cases h⟩⟩
theorem MapS.lt {w : World} {mb n : Nat} {f : Int → Option Value} (h : MapS w mb n f) : mb < w.heap.size := by
  obtain ⟨D, h1, _⟩ := h; exact h1.lt
theorem MapS.keep {w w' : World} {mb n : Nat} {f : Int → Option Value} (h : MapS w mb n f) (e : w'.heap[mb]? = w.heap[mb]?) : MapS w' mb n f := by
  obtain ⟨D, ⟨es, clock, hb, r⟩, h2⟩ := h
  exact ⟨D, ⟨es, clock, by rw [e]; exact hb, r⟩, h2⟩
theorem MapS.below {w w' : World} {mb n : Nat} {f : Int → Option Value} (h : MapS w mb n f) (hb : Below w.heap.size w w') : MapS w' mb n f := h.keep (hb.block mb h.lt)
theorem MapS.mono {w : World} {mb n n' : Nat} {f : Int → Option Value} (h : MapS w mb n f) (hn : n ≤ n') : MapS w mb n' f := by
  obtain ⟨D, h1, h2⟩ := h
  exact ⟨D, h1.mono hn, h2⟩
/-- A look-up. -/
theorem MapS.look {w : World} {mb n : Nat} {f : Int → Option Value} (h : MapS w mb n f) {k : Int} (hk : (Lit.int .i64 k).wf = true) :
    (Instr.lookup 24 (.map (some mb)) (.int .i64 k) false).run Try.prog w = .ok ((f k).getD (.slice none 0 0)) w := by
  obtain ⟨D, h1, h2⟩ := h
  obtain ⟨h3, h4⟩ := h2 k hk
  obtain ⟨v, q, hrun, hv⟩ := h1.lookup key3 Try.underlying24 (zeroS w) (sR_slice none 0 0) (keyOf3 hk)
  obtain ⟨_, e⟩ := sR_inv hv
  simp only [Prod.mk.injEq] at e
  rw [hrun]
  cases hf : f k with
  | none =>
    rw [Maps.atKey_of_not_has (h3 hf)] at e
    simp only [DataW.held.injEq] at e
    rw [← e.1]; rfl
  | some u =>
    rw [(h4 u hf).2] at e
    simp only [DataW.held.injEq] at e
    rw [← e.1]; rfl
/-- A store. -/
theorem MapS.update {w : World} {mb n : Nat} {f : Int → Option Value} (h : MapS w mb n f) (hn : n < maxLen) {k : Int} (hk : (Lit.int .i64 k).wf = true) (a : Option Addr) (m c : Nat) :
    ∃ w', (Instr.mapUpdate 24 (.map (some mb)) (.int .i64 k) (.slice a m c)).run Try.prog w = .ok () w' ∧ MapS w' mb (n + 1) (fun j => if j = k then some (.slice a m c) else f j) ∧ w.grownBy w' (some mb) := by
  obtain ⟨D, h1, h2⟩ := h
  obtain ⟨w', hrun, hw, hg⟩ := h1.update key3 Try.underlying24 hn (keyOf3 hk) (sR_slice a m c)
  refine ⟨w', hrun, ⟨_, hw, fun j hj => ?_⟩, hg⟩
  by_cases e : j = k
  · subst e
    dsimp only
    rw [if_pos rfl]
    refine ⟨(fun h => by cases h), fun v hv => ?_⟩
    cases hv
    exact ⟨Maps.has_put_same h1.isMap (key3.key (keyOf3 hj)) _, fun z => Maps.atKey_put_same h1.isMap (key3.key (keyOf3 hj)) _ _⟩
  · have hne : (Lit.int IntKind.i64 j) ≠ .int .i64 k := fun h => e (by cases h; rfl)
    dsimp only
    rw [if_neg e]
    obtain ⟨h3, h4⟩ := h2 j hj
    refine ⟨fun hf => ?_, fun v hv => ?_⟩
    · rw [Maps.has_put_other hne]; exact h3 hf
    · rw [Maps.has_put_other hne]; exact ⟨(h4 v hv).1, fun z => by rw [Maps.atKey_put_other hne]; exact (h4 v hv).2 z⟩
/-- A delete. -/
theorem MapS.drop {w : World} {mb n : Nat} {f : Int → Option Value} (h : MapS w mb n f) {k : Int} (hk : (Lit.int .i64 k).wf = true) (ty : TypeId) :
    ∃ w', (Builtin.delete_ #[24, 3] ty #[.map (some mb), .int .i64 k]).run Try.prog w = .ok (.tuple #[]) w' ∧ MapS w' mb n (fun j => if j = k then none else f j) ∧ w.grownBy w' (some mb) := by
  obtain ⟨D, h1, h2⟩ := h
  obtain ⟨w', hrun, hw, hg⟩ := h1.drop key3 Try.underlying24 (keyOf3 hk) ty
  refine ⟨w', hrun, ⟨_, hw, fun j hj => ?_⟩, hg.grown⟩
  by_cases e : j = k
  · subst e
    dsimp only
    rw [if_pos rfl]
    exact ⟨fun _ => Maps.has_del_same, fun v hv => by cases hv⟩
  · have hne : (Lit.int IntKind.i64 j) ≠ .int .i64 k := fun h => e (by cases h; rfl)
    dsimp only
    rw [if_neg e]
    obtain ⟨h3, h4⟩ := h2 j hj
    refine ⟨fun hf => ?_, fun v hv => ?_⟩
    · rw [Maps.has_del_other hne]; exact h3 hf
    · rw [Maps.has_del_other hne]; exact ⟨(h4 v hv).1, fun z => by rw [Maps.atKey_del_other hne]; exact (h4 v hv).2 z⟩
theorem Says.del {D : DataW Value} {f : Int → Option Value} (h : Says D f) (k : Int) : Says (D.del (.int .i64 k)) (fun j => if j = k then none else f j) := fun j hj => by
  by_cases e : j = k
  · subst e
    dsimp only
    rw [if_pos rfl]
    exact ⟨fun _ => Maps.has_del_same, fun v hv => by cases hv⟩
  · have hne : (Lit.int IntKind.i64 j) ≠ .int .i64 k := fun h => e (by cases h; rfl)
    dsimp only
    rw [if_neg e]
    obtain ⟨h3, h4⟩ := h j hj
    refine ⟨fun hf => ?_, fun v hv => ?_⟩
    · rw [Maps.has_del_other hne]; exact h3 hf
    · rw [Maps.has_del_other hne]; exact ⟨(h4 v hv).1, fun z => by rw [Maps.atKey_del_other hne]; exact (h4 v hv).2 z⟩
/-- A delete, for the walk. -/
theorem wpList_delS {w : World} {ops : Array Oper} {rest : List Oper} {o : Oper} {a : Act} {Q : Exit → Act → World → Prop} (hg : o.guard = none) (m x : Operand) (hop : o.op = Op.call { callee := Callee.builtin Builtin.delete, args := #[m, x], argTypes := #[24, 3] })
    {mb n : Nat} {f : Int → Option Value} (h : MapS w mb n f) {k : Int} (hk : (Lit.int .i64 k).wf = true) (hm : a.eval m = .map (some mb)) (hx : a.eval x = .int .i64 k)
    (hK : ∀ w', MapS w' mb n (fun j => if j = k then none else f j) → w.grownBy w' (some mb) → wpList Try.prog ops Q rest (a.put o.dst (.tuple #[])) w') : wpList Try.prog ops Q (o :: rest) a w := by
  obtain ⟨D, h1, h2⟩ := h
  exact wpList_delete_own w hg m x 24 3 hop 29 key3 Try.underlying24 sR mb n D hm h1 _ _ hx (keyOf3 hk) fun w' hw ht => hK w' ⟨_, hw, h2.del k⟩ ht.grown
/-- A store, for the walk. -/
theorem wpList_updS {w : World} {ops : Array Oper} {rest : List Oper} {o : Oper} {a : Act} {Q : Exit → Act → World → Prop} (hg : o.guard = none) (m x v : Operand) (hop : o.op = Op.mapUpdate 24 m x v)
    {mb n : Nat} {f : Int → Option Value} (h : MapS w mb n f) (hn : n < maxLen) {k : Int} (hk : (Lit.int .i64 k).wf = true) (sa : Option Addr) (sn sc : Nat) (hm : a.eval m = .map (some mb)) (hx : a.eval x = .int .i64 k) (hv : a.eval v = .slice sa sn sc)
    (hK : ∀ w', MapS w' mb (n + 1) (fun j => if j = k then some (.slice sa sn sc) else f j) → w.grownBy w' (some mb) → wpList Try.prog ops Q rest (a.put o.dst undef) w') : wpList Try.prog ops Q (o :: rest) a w := by
  have hh := h
  obtain ⟨D, h1, h2⟩ := h
  refine wpList_mapUpdate_own w hg m x v 24 hop 3 29 key3 Try.underlying24 sR mb n D hm h1 hn _ _ _ hx hv (keyOf3 hk) _ [] (sR_slice sa sn sc) fun w' hw hg => hK w' ⟨_, hw, fun j hj => ?_⟩ hg
  by_cases e : j = k
  · subst e
    dsimp only
    rw [if_pos rfl]
    refine ⟨(fun h => by cases h), fun v hv => ?_⟩
    cases hv
    exact ⟨Maps.has_put_same h1.isMap (key3.key (keyOf3 hj)) _, fun z => Maps.atKey_put_same h1.isMap (key3.key (keyOf3 hj)) _ _⟩
  · have hne : (Lit.int IntKind.i64 j) ≠ .int .i64 k := fun h => e (by cases h; rfl)
    dsimp only
    rw [if_neg e]
    obtain ⟨h3, h4⟩ := h2 j hj
    refine ⟨fun hf => ?_, fun v hv => ?_⟩
    · rw [Maps.has_put_other hne]; exact h3 hf
    · rw [Maps.has_put_other hne]; exact ⟨(h4 v hv).1, fun z => by rw [Maps.atKey_put_other hne]; exact (h4 v hv).2 z⟩
#print axioms MapS.look
#print axioms MapS.update
#print axioms MapS.drop
end Go.Proofs.Ytfgjlfcadpmkhaa
