/- Maps keyed by a table's numbers, told key by key: what a look-up gives, what a store or a delete makes of them; they have no more entries than there may be numbers. -/
import Derived.Test.YtmplcibaoanlnaaGrow
import Derived.Test.YtmplcibaoanlnaaLookNo
import Derived.Maps.Own
import Derived.Maps.OwnSet
import Derived.Maps.RangeWalk
import Derived.Lib.SlKeysI
import Derived.StillTailTactics
namespace Go.Proofs.Ytmplcibaoanlnaa
open Go Go.RowKit
open Go.Maps (Keyed)

theorem keyT : Keyed Try.prog 26 := Go.Maps.int_keyed Try.underlying26
theorem keyOfT {k : Int} (h : (Lit.int .i64 k).wf = true) : keyOf Try.prog 26 (.int .i64 k) = some (.int .i64 k) := by
  simp [keyOf, Try.underlying26, mapKey, h]
theorem wfT {k : Int} (h0 : 1 ≤ k) (h1 : k ≤ 65536) : (Lit.int .i64 k).wf = true := wf_small k (by omega) (by omega)
/-- A map's element is told by itself. -/
def hR (v : Value) : Option (DataW Value × List MemPlace) := some (.held v, [])
/-- What a map's datum says of f. -/
def SaysG (D : DataW Value) (f : Int → Option Value) : Prop := ∀ k, (Lit.int .i64 k).wf = true → (f k = none → Maps.has D (.int .i64 k) = false) ∧ ∀ v, f k = some v → Maps.has D (.int .i64 k) = true ∧ ∀ z, D.atKey (.int .i64 k) z = .held v
/-- Block mb is a map that holds f's values at their keys, all of them numbers of a table, and nothing else. -/
structure MapG (w : World) (mb : Nat) (f : Int → Option Value) : Prop where
  ex : ∃ D : DataW Value, w.ownsMap Try.prog 26 hR mb 65536 D ∧ SaysG D f
  small : ∀ k v, f k = some v → 1 ≤ k ∧ k ≤ 65536

/-- Numbers up to n, none twice, are n at most. -/
theorem few : ∀ (n : Nat) (l : List Int), l.Nodup → (∀ x ∈ l, 1 ≤ x ∧ x ≤ (n : Int)) → l.length ≤ n := by
  intro n
  induction n with
  | zero =>
    intro l _ h
    cases l with
    | nil => simp
    | cons x r => have := h x (by simp); omega
  | succ n ih =>
    intro l hn h
    have h1 := ih (l.filter fun x => decide (x ≠ (n + 1 : Int))) (hn.filter _) fun x hx => by
      obtain ⟨h1, h2⟩ := List.mem_filter.1 hx
      have := h x h1
      simp at h2
      omega
    have h2 : l.length ≤ (l.filter fun x => decide (x ≠ (n + 1 : Int))).length + 1 := by
      clear h1 ih h
      induction l with
      | nil => simp
      | cons x r ihr =>
        obtain ⟨hx, hr⟩ := List.nodup_cons.1 hn
        by_cases e : x = (n + 1 : Int)
        · have : (r.filter fun y => decide (y ≠ (n + 1 : Int))) = r := List.filter_eq_self.2 fun y hy => by
            have : y ≠ (n + 1 : Int) := fun e' => hx (by rw [e, ← e']; exact hy)
            simpa using this
          rw [List.filter_cons_of_neg (by simp [e]), this]
          simp
        · rw [List.filter_cons_of_pos (by simpa using e)]
          have := ihr hr
          simp only [List.length_cons]
          omega
    omega
theorem size_of_small {w : World} {mb n : Nat} {D : DataW Value} (h : w.ownsMap Try.prog 26 hR mb n D) (hs : ∀ k, Maps.has D (.int .i64 k) = true → (Lit.int .i64 k).wf = true → 1 ≤ k ∧ k ≤ 65536) : w.ownsMap Try.prog 26 hR mb 65536 D := by
  have ht := h.tidy keyT
  obtain ⟨es, rfl, hp⟩ := ht
  obtain ⟨es', e', hk⟩ := h.keysOf
  cases e'
  have hi : ∀ p ∈ es, ∃ x, p.1 = .int .i64 x ∧ (Lit.int .i64 x).wf = true := fun p hp' => by
    obtain ⟨v, hv⟩ := hk p hp'
    obtain ⟨x, _, h2, h3⟩ := Maps.keyOf_i64 Try.underlying26 hv
    exact ⟨x, h2, h3⟩
  have hnd : (es.map fun p => intOf p.1).Nodup := by
    refine List.pairwise_map.2 (hp.imp_of_mem fun {p q} hp' hq' hne e => hne ?_)
    obtain ⟨a, ha, _⟩ := hi p hp'
    obtain ⟨b, hb, _⟩ := hi q hq'
    rw [ha, hb] at e ⊢
    exact congrArg _ e
  have hle := few 65536 (es.map fun p => intOf p.1) hnd fun x hx => by
    obtain ⟨p, hp', rfl⟩ := List.mem_map.1 hx
    obtain ⟨a, ha, hw⟩ := hi p hp'
    rw [ha]
    refine hs a ?_ hw
    rw [Maps.has_eq, List.any_eq_true]
    exact ⟨p, hp', by rw [ha]; simp [Lit.sameKey]⟩
  obtain ⟨es2, clock, hb, F, hn, hD⟩ := h
  refine ⟨es2, clock, hb, F, ?_, hD⟩
  have e1 : es.length = es2.size := by
    have := congrArg (fun d : DataW Value => match d with | .map l => l.length | _ => 0) hD
    simp only at this
    rw [this, length_sorted]; simp
  rw [← e1]
  simpa using hle

theorem MapG.made (w : World) : MapG (w.alloc (.map #[] 0)) w.heap.size (fun _ => none) :=
  ⟨⟨.map [], (World.ownsMap_made _ _ _ _).mono (Nat.zero_le _), fun k _ => ⟨fun _ => rfl, fun v h => by cases h⟩⟩, fun k v h => by cases h⟩
theorem MapG.lt {w : World} {mb : Nat} {f : Int → Option Value} (h : MapG w mb f) : mb < w.heap.size := by
  obtain ⟨D, h1, _⟩ := h.ex; exact h1.lt
theorem MapG.blk {w : World} {mb : Nat} {f : Int → Option Value} (h : MapG w mb f) : ∃ es c, w.heap[mb]? = some (.map es c) := by
  obtain ⟨D, ⟨es, clock, hb, _⟩, _⟩ := h.ex; exact ⟨es, clock, hb⟩
theorem MapG.keep {w w' : World} {mb : Nat} {f : Int → Option Value} (h : MapG w mb f) (e : w'.heap[mb]? = w.heap[mb]?) : MapG w' mb f := by
  obtain ⟨D, ⟨es, clock, hb, r⟩, h2⟩ := h.ex
  exact ⟨⟨D, ⟨es, clock, by rw [e]; exact hb, r⟩, h2⟩, h.small⟩
theorem MapG.congr {w : World} {mb : Nat} {f g : Int → Option Value} (h : MapG w mb f) (e : ∀ k, f k = g k) : MapG w mb g := by
  have : f = g := funext e
  subst this; exact h
/-- A look-up, the answer alone. -/
theorem MapG.look {w : World} {mb : Nat} {f : Int → Option Value} (h : MapG w mb f) {t E : TypeId} (ht : Try.prog.underlying t = some (.map 26 E)) {z : Value} (hz : ∀ w, (zeroValue E).run Try.prog w = .ok z w) {k : Int} (hk : (Lit.int .i64 k).wf = true) :
    (Instr.lookup t (.map (some mb)) (.int .i64 k) false).run Try.prog w = .ok ((f k).getD z) w := by
  obtain ⟨D, h1, h2⟩ := h.ex
  obtain ⟨h3, h4⟩ := h2 k hk
  obtain ⟨v, q, hrun, hv⟩ := h1.lookup keyT ht (hz w) (show hR z = some (.held z, []) from rfl) (keyOfT hk)
  have e : (DataW.held v, ([] : List MemPlace)) = _ := Option.some.inj hv
  simp only [Prod.mk.injEq] at e
  rw [hrun]
  cases hf : f k with
  | none =>
    rw [Maps.atKey_of_not_has (h3 hf)] at e
    simp only [DataW.held.injEq] at e
    rw [e.1]; rfl
  | some u =>
    rw [(h4 u hf).2] at e
    simp only [DataW.held.injEq] at e
    rw [e.1]; rfl
/-- A look-up, with the word whether there is one. -/
theorem MapG.look2 {w : World} {mb : Nat} {f : Int → Option Value} (h : MapG w mb f) {t E : TypeId} (ht : Try.prog.underlying t = some (.map 26 E)) {z : Value} (hz : ∀ w, (zeroValue E).run Try.prog w = .ok z w) {k : Int} (hk : (Lit.int .i64 k).wf = true) :
    (Instr.lookup t (.map (some mb)) (.int .i64 k) true).run Try.prog w = .ok (.tuple #[(f k).getD z, .bool (f k).isSome]) w := by
  obtain ⟨D, h1, h2⟩ := h.ex
  obtain ⟨h3, h4⟩ := h2 k hk
  obtain ⟨v, q, hrun, hv⟩ := h1.look_ok keyT ht (hz w) (show hR z = some (.held z, []) from rfl) (keyOfT hk)
  have e : (DataW.held v, ([] : List MemPlace)) = _ := Option.some.inj hv
  simp only [Prod.mk.injEq] at e
  rw [hrun]
  cases hf : f k with
  | none =>
    rw [Maps.atKey_of_not_has (h3 hf)] at e
    simp only [DataW.held.injEq] at e
    rw [e.1, h3 hf]; rfl
  | some u =>
    rw [(h4 u hf).2] at e
    simp only [DataW.held.injEq] at e
    rw [e.1, (h4 u hf).1]; rfl
theorem SaysG.put {D : DataW Value} {f : Int → Option Value} (h : SaysG D f) (hm : Maps.IsMap D) {k : Int} (hk : (Lit.int .i64 k).wf = true) (v : Value) : SaysG (D.put (.int .i64 k) (.held v)) (fun j => if j = k then some v else f j) := fun j hj => by
  by_cases e : j = k
  · subst e
    dsimp only
    rw [if_pos rfl]
    refine ⟨(fun h => by cases h), fun v hv => ?_⟩
    cases hv
    exact ⟨Maps.has_put_same hm (keyT.key (keyOfT hj)) _, fun z => Maps.atKey_put_same hm (keyT.key (keyOfT hj)) _ _⟩
  · have hne : (Lit.int IntKind.i64 j) ≠ .int .i64 k := fun h => e (by cases h; rfl)
    dsimp only
    rw [if_neg e]
    obtain ⟨h3, h4⟩ := h j hj
    refine ⟨fun hf => ?_, fun v hv => ?_⟩
    · rw [Maps.has_put_other hne]; exact h3 hf
    · rw [Maps.has_put_other hne]; exact ⟨(h4 v hv).1, fun z => by rw [Maps.atKey_put_other hne]; exact (h4 v hv).2 z⟩
theorem SaysG.del {D : DataW Value} {f : Int → Option Value} (h : SaysG D f) (k : Int) : SaysG (D.del (.int .i64 k)) (fun j => if j = k then none else f j) := fun j hj => by
  by_cases e : j = k
  · subst e
    dsimp only
    rw [if_pos rfl]
    exact ⟨fun _ => Maps.has_del_same, fun v hv => by cases hv⟩
  · have hne : (Lit.int IntKind.i64 j) ≠ .int .i64 k := fun h => e (by cases h; rfl)
    dsimp only
    rw [if_neg e]
    obtain ⟨h3, h4⟩ := h j hj
    refine ⟨fun hf => ?_, fun v hv => ?_⟩
    · rw [Maps.has_del_other hne]; exact h3 hf
    · rw [Maps.has_del_other hne]; exact ⟨(h4 v hv).1, fun z => by rw [Maps.atKey_del_other hne]; exact (h4 v hv).2 z⟩
theorem SaysG.small {D : DataW Value} {f : Int → Option Value} (h : SaysG D f) (hs : ∀ k v, f k = some v → 1 ≤ k ∧ k ≤ 65536) : ∀ k, Maps.has D (.int .i64 k) = true → (Lit.int .i64 k).wf = true → 1 ≤ k ∧ k ≤ 65536 := fun k hk hw => by
  cases hf : f k with
  | none => rw [(h k hw).1 hf] at hk; cases hk
  | some v => exact hs k v hf
/-- A store, for the walk. -/
theorem wpList_updG {w : World} {ops : Array Oper} {rest : List Oper} {o : Oper} {a : Act} {Q : Exit → Act → World → Prop} (hg : o.guard = none) (m x v : Operand) (t E : TypeId) (hop : o.op = Op.mapUpdate t m x v) (ht : Try.prog.underlying t = some (.map 26 E))
    {mb : Nat} {f : Int → Option Value} (h : MapG w mb f) {k : Int} (h1 : 1 ≤ k) (h2 : k ≤ 65536) (u : Value) (hm : a.eval m = .map (some mb)) (hx : a.eval x = .int .i64 k) (hv : a.eval v = u)
    (hK : ∀ w', MapG w' mb (fun j => if j = k then some u else f j) → w.grownBy w' (some mb) → wpList Try.prog ops Q rest (a.put o.dst undef) w') : wpList Try.prog ops Q (o :: rest) a w := by
  have hs := h.small
  obtain ⟨D, d1, d2⟩ := h.ex
  refine wpList_mapUpdate_own w hg m x v t hop 26 E keyT ht hR mb 65536 D hm d1 (by unfold maxLen; omega) _ _ _ hx hv (keyOfT (wfT h1 h2)) _ [] rfl fun w' hw hg => ?_
  have d3 := d2.put d1.isMap (wfT h1 h2) u
  have s3 : ∀ j v, (if j = k then some u else f j) = some v → 1 ≤ j ∧ j ≤ 65536 := fun j v hj => by
    by_cases e : j = k
    · exact ⟨by omega, by omega⟩
    · rw [if_neg e] at hj; exact hs j v hj
  exact hK w' ⟨⟨_, size_of_small hw (d3.small s3), d3⟩, s3⟩ hg
/-- A delete, for the walk. -/
theorem wpList_delG {w : World} {ops : Array Oper} {rest : List Oper} {o : Oper} {a : Act} {Q : Exit → Act → World → Prop} (hg : o.guard = none) (m x : Operand) (t E : TypeId) (hop : o.op = Op.call { callee := Callee.builtin Builtin.delete, args := #[m, x], argTypes := #[t, 26] }) (ht : Try.prog.underlying t = some (.map 26 E))
    {mb : Nat} {f : Int → Option Value} (h : MapG w mb f) {k : Int} (hk : (Lit.int .i64 k).wf = true) (hm : a.eval m = .map (some mb)) (hx : a.eval x = .int .i64 k)
    (hK : ∀ w', MapG w' mb (fun j => if j = k then none else f j) → w.grownBy w' (some mb) → wpList Try.prog ops Q rest (a.put o.dst (.tuple #[])) w') : wpList Try.prog ops Q (o :: rest) a w := by
  have hs := h.small
  obtain ⟨D, h1, h2⟩ := h.ex
  exact wpList_delete_own w hg m x t 26 hop E keyT ht hR mb 65536 D hm h1 _ _ hx (keyOfT hk) fun w' hw ht => hK w' ⟨⟨_, hw, h2.del k⟩, fun j v hj => by
    by_cases e : j = k
    · rw [if_pos e] at hj; cases hj
    · rw [if_neg e] at hj; exact hs j v hj⟩ ht.grown
#print axioms wpList_updG
#print axioms wpList_delG
end Go.Proofs.Ytmplcibaoanlnaa
