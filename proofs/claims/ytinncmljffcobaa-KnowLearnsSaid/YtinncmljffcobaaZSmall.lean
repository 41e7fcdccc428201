/- The table's small functions: Size, has, Secret, clone; and all of them on a table that is not there. -/
import Derived.Test.YtinncmljffcobaaZKit
import Derived.Test.YtinncmljffcobaaChecked
import Derived.Maps.OwnSet
import Derived.ProofKit
import Derived.StillTailTactics
import Derived.RegionTactic
import Derived.Outline
import Derived.Deep.RegionLaw
import Derived.BigRegion
namespace Go.Proofs.Ytinncmljffcobaa
open Go Go.RowKit

theorem laidOut : laidOutB Try.prog = true := by kernel_rfl
theorem nTypes : Try.prog.types.size = (Try.prog.types.size - 2) + 1 + 1 := by kernel_rfl
theorem keyed : Go.Maps.Keyed Try.prog 106 := Go.Maps.Keyed.of_law (deep_law_laid laidOut (m := 5) (by decide) (of_decide_eq_true (by kernel_rfl)) (by kernel_rfl) (by kernel_rfl))
theorem cells71 : Try.prog.cellsOf 106 = 18 := by kernel_rfl
theorem cells69 : Try.prog.cellsOf 104 = 16 := by kernel_rfl
theorem cells32 : Try.prog.cellsOf 42 = 1 := by kernel_rfl
theorem cells3 : Try.prog.cellsOf 3 = 1 := by kernel_rfl
theorem cells9 : Try.prog.cellsOf 9 = 1 := by kernel_rfl
theorem isKey71 : Try.prog.keyType 106 = true := by kernel_rfl

theorem lits_int (d : Nat) (t : TypeId) (h : Try.prog.underlying t = some (.int .i64)) (n : Int) (hn : (Lit.int .i64 n).wf = true) : Try.prog.keyLits (d + 1) t [.int .i64 n] = some [.int .i64 n] := by
  unfold Program.keyLits
  simp [h, hn]
theorem lits_str (d : Nat) (s : ByteArray) (hs : s.size ≤ maxLen) : Try.prog.keyLits (d + 1) 9 [.string s] = some [.string s.data.toList] := by
  unfold Program.keyLits
  simp [Try.underlying9, hs]

theorem mapM_some {α β : Type} (f : α → Option β) (l : List α) (h : ∀ a ∈ l, ∃ b, f a = some b) : ∃ r, l.mapM f = some r := by
  induction l with
  | nil => exact ⟨[], rfl⟩
  | cons a l ih =>
    obtain ⟨b, hb⟩ := h a (by simp)
    obtain ⟨r, hr⟩ := ih (fun a ha => h a (by simp [ha]))
    exact ⟨b :: r, by simp [List.mapM_cons, hb, hr]⟩

theorem lits_arr (d : Nat) (ps : List Int) (hl : ps.length = 16) (hp : ∀ p ∈ ps, (Lit.int .i64 p).wf = true) : ∃ l, Try.prog.keyLits (d + 1 + 1) 104 (cs .i64 ps) = some l := by
  unfold Program.keyLits
  simp only [Try.underlying104, cells69, cells32, Nat.mul_one]
  rw [if_pos (by rw [cs_len]; exact hl)]
  obtain ⟨r, hr⟩ := mapM_some (fun i => Try.prog.keyLits (d + 1) 42 (((cs .i64 ps).drop i).take 1)) (List.range 16) (by
    intro i hi
    have hi' : i < ps.length := by rw [hl]; exact List.mem_range.1 hi
    have e : ((cs .i64 ps).drop i).take 1 = [.int .i64 ps[i]] := by
      unfold cs
      rw [← List.map_drop, ← List.map_take, List.drop_eq_getElem_cons hi']
      rfl
    rw [e]
    exact ⟨_, lits_int d 42 Try.underlying42 _ (hp _ (List.getElem_mem hi'))⟩)
  exact ⟨_, by rw [hr]; rfl⟩

/-- The key of a kind, a text, and sixteen numbers. -/
def kval (k : Int) (s : ByteArray) (ps : List Int) : Value := .agg (.int .i64 k :: .string s :: cs .i64 ps).toArray
theorem keyOf_kval (k : Int) (s : ByteArray) (ps : List Int) (hk : (Lit.int .i64 k).wf = true) (hs : s.size ≤ maxLen) (hl : ps.length = 16) (hp : ∀ p ∈ ps, (Lit.int .i64 p).wf = true) : ∃ l, keyOf Try.prog 106 (kval k s ps) = some l := by
  obtain ⟨l, ha⟩ := lits_arr (Try.prog.types.size - 2) ps hl hp
  have hf : (kval k s ps).formed Try.prog 106 = true := by simp [kval, Value.formed, Try.underlying106, cells71, cs_len, hl]
  have hlits : ∃ r, Try.prog.keyLits (Try.prog.types.size + 1) 106 (kval k s ps).cells.toList = some r := by
    rw [show Try.prog.types.size + 1 = (Try.prog.types.size - 2) + 1 + 1 + 1 by kernel_rfl]
    unfold Program.keyLits
    simp only [Try.underlying106]
    have hlen : (kval k s ps).cells.toList.length = Try.prog.cellsOf 106 := by simp [kval, Value.cells, cells71, cs_len, hl]
    rw [if_pos ⟨hlen, by kernel_rfl⟩]
    have h1 := lits_int (Try.prog.types.size - 2 + 1) 3 Try.underlying3 k hk
    have h2 := lits_str (Try.prog.types.size - 2 + 1) s hs
    have h3 : (cs .i64 ps).take 16 = cs .i64 ps := List.take_of_length_le (by rw [cs_len, hl]; exact Nat.le_refl _)
    simp only [List.mapM_cons, List.mapM_nil, kval, Value.cells, cells3, cells9, cells69, List.drop_zero, List.drop_succ_cons, List.take_succ_cons, List.take_zero, h1, h2, h3, ha]
    exact ⟨_, rfl⟩
  obtain ⟨r, hr⟩ := hlits
  refine ⟨.string (keyBytes r), ?_⟩
  unfold keyOf
  simp only [Try.underlying106, isKey71, hf, hr, Bool.and_self, if_true, Option.map_some]
#print axioms keyOf_kval
end Go.Proofs.Ytinncmljffcobaa
namespace Go.Proofs.Ytinncmljffcobaa
open Go Go.RowKit

/-- A key that a map can hold. -/
def KeyOk (k : Int) (s : ByteArray) (ps : List Int) : Prop := (Lit.int .i64 k).wf = true ∧ s.size ≤ maxLen ∧ ps.length = 16 ∧ ∀ p ∈ ps, (Lit.int .i64 p).wf = true
theorem KeyOk.lit {k : Int} {s : ByteArray} {ps : List Int} (h : KeyOk k s ps) : ∃ l, keyOf Try.prog 106 (kval k s ps) = some l := keyOf_kval k s ps h.1 h.2.1 h.2.2.1 h.2.2.2
theorem cs_inj (k : IntKind) {xs ys : List Int} (h : cs k xs = cs k ys) : xs = ys := by
  induction xs generalizing ys with
  | nil => cases ys with
    | nil => rfl
    | cons y ys => simp [cs] at h
  | cons x xs ih => cases ys with
    | nil => simp [cs] at h
    | cons y ys =>
      simp only [cs, List.map_cons, List.cons.injEq, Value.int.injEq, true_and] at h
      rw [h.1, ih h.2]
theorem kval_inj {k k' : Int} {s s' : ByteArray} {ps ps' : List Int} (h : kval k s ps = kval k' s' ps') : k = k' ∧ s = s' ∧ ps = ps' := by
  simp only [kval, Value.agg.injEq, List.toArray_eq_iff, List.cons.injEq, Value.int.injEq, true_and, Value.string.injEq] at h
  exact ⟨h.1, h.2.1, cs_inj .i64 h.2.2⟩

/-- Block mb is a map of at most n entries that holds f's numbers at their keys, and nothing else. -/
def MapV (w : World) (mb n : Nat) (f : Int → ByteArray → List Int → Option Int) : Prop :=
  ∃ D : DataW Unit, w.ownsMap Try.prog 106 (plainElem Try.prog 42) mb n D ∧ ∀ k s ps, KeyOk k s ps → ∀ l, keyOf Try.prog 106 (kval k s ps) = some l →
    (f k s ps = none → Maps.has D l = false) ∧ (∀ c, f k s ps = some c → Maps.has D l = true ∧ D.atKey l (.lit (.int .i64 0)) = .lit (.int .i64 c))

theorem MapV.made (w : World) : MapV (w.alloc (.map #[] 0)) w.heap.size 0 (fun _ _ _ => none) :=
  ⟨.map [], World.ownsMap_made _ _ _ _, fun k s ps _ l _ => ⟨fun _ => rfl, fun c h => by cases h⟩⟩
theorem MapV.congr {w : World} {mb n : Nat} {f g : Int → ByteArray → List Int → Option Int} (h : MapV w mb n f) (e : ∀ k s ps, KeyOk k s ps → f k s ps = g k s ps) : MapV w mb n g := by
  obtain ⟨D, h1, h2⟩ := h
  exact ⟨D, h1, fun k s ps hk l hl => by rw [← e k s ps hk]; exact h2 k s ps hk l hl⟩
theorem MapV.mono {w : World} {mb n n' : Nat} {f : Int → ByteArray → List Int → Option Int} (h : MapV w mb n f) (hn : n ≤ n') : MapV w mb n' f := by
  obtain ⟨D, h1, h2⟩ := h
  exact ⟨D, h1.mono hn, h2⟩
theorem MapV.lt {w : World} {mb n : Nat} {f : Int → ByteArray → List Int → Option Int} (h : MapV w mb n f) : mb < w.heap.size := by
  obtain ⟨D, h1, _⟩ := h; exact h1.lt
theorem MapV.keep {w w' : World} {mb n : Nat} {f : Int → ByteArray → List Int → Option Int} (h : MapV w mb n f) (e : w'.heap[mb]? = w.heap[mb]?) : MapV w' mb n f := by
  obtain ⟨D, ⟨es, clock, hb, r⟩, h2⟩ := h
  exact ⟨D, ⟨es, clock, by rw [e]; exact hb, r⟩, h2⟩

theorem zero32 (w : World) : (zeroValue 42).run Try.prog w = .ok (.int .i64 0) w := by kernel_rfl

theorem MapV.look {w : World} {mb n : Nat} {f : Int → ByteArray → List Int → Option Int} (h : MapV w mb n f) {k : Int} {s : ByteArray} {ps : List Int} (hk : KeyOk k s ps) :
    (Instr.lookup 58 (.map (some mb)) (kval k s ps) true).run Try.prog w = .ok (.tuple #[.int .i64 ((f k s ps).getD 0), .bool (f k s ps).isSome]) w := by
  obtain ⟨D, h1, h2⟩ := h
  obtain ⟨l, hl⟩ := hk.lit
  obtain ⟨h3, h4⟩ := h2 k s ps hk l hl
  obtain ⟨v, q, hrun, hv⟩ := h1.look_ok keyed Try.underlying58 (zero32 w) (plainElem_int (q := .i64) (a := 0) Try.underlying42 (by decide)) hl
  obtain ⟨a, rfl, ha, _⟩ := plainElem_int_inv Try.underlying42 hv
  simp only [Prod.mk.injEq] at ha
  cases hf : f k s ps with
  | none =>
    have e := h3 hf
    rw [Maps.atKey_of_not_has e] at ha
    simp only [DataW.lit.injEq, Lit.int.injEq, true_and] at ha
    rw [hrun, e, ← ha.1]
    rfl
  | some c =>
    obtain ⟨e1, e2⟩ := h4 c hf
    rw [e2] at ha
    simp only [DataW.lit.injEq, Lit.int.injEq, true_and] at ha
    rw [hrun, e1, ← ha.1]
    rfl

/-- A look-up, in a region that only reads. -/
theorem wpStill_lookup {ops : Array Oper} {rest : List Oper} {o : Oper} {a : Act} {w : World} {Q : Act → Prop} (m x : Operand) (hw : Region.wanted o (yielded ops a.tmps) = true) (hop : o.op = .lookup 58 m x true)
    {mb n : Nat} {f : Int → ByteArray → List Int → Option Int} (hmap : MapV w mb n f) (hm : a.eval m = .map (some mb)) {k : Int} {s : ByteArray} {ps : List Int} (hk : KeyOk k s ps) (hx : a.eval x = kval k s ps)
    (h : wpStill Try.prog ops w Q rest (a.put o.dst (.tuple #[.int .i64 ((f k s ps).getD 0), .bool (f k s ps).isSome]))) : wpStill Try.prog ops w Q (o :: rest) a := by
  refine wpStill_step fun K hK => ?_
  rw [if_pos hw]
  have hrun := hmap.look hk
  have e : (execOp a.eval o).run Try.prog w = .ok (.value (.tuple #[.int .i64 ((f k s ps).getD 0), .bool (f k s ps).isSome])) w := by
    simp [execOp, hop, hm, hx, hrun, Result.andThen]
  unfold Oper.still
  rw [e]
  exact ⟨rfl, hK _ h⟩

/-- A whole block loaded, in a region that only reads. -/
theorem wpStill_load_row {P : Program} {ops : Array Oper} {rest : List Oper} {o : Oper} {a : Act} {w : World} {Q : Act → Prop} (hgw : Region.wanted o (yielded ops a.tmps) = true) (ty : TypeId) (x : Operand) (ho : o.op = .load ty x)
    (g : Nat) (hx : a.eval x = .pointer (some ⟨g, 0, none⟩)) (t : TypeId) (cur : Array Value) (fr : Nat × Nat) (d : TypeDesc) (hg : w.heap[g]? = some (.cells cur t fr))
    (hu : P.underlying ty = some d) (hd : (match d with | .struct _ | .array _ _ => true | _ => false) = true) (hi : (P.info? ty).map (·.size) = some cur.size)
    (h : wpStill P ops w Q rest (a.put o.dst (.agg cur))) : wpStill P ops w Q (o :: rest) a := by
  refine wpStill_step fun K hK => ?_
  rw [if_pos hgw]
  have e : (execOp a.eval o).run P w = .ok (.value (.agg cur)) w := by
    simp only [execOp, ho, hx, Instr.loadAt, Instr.sureAddr, Sem.run_bind, Sem.run_pure, Result.andThen_ok, run_loadVar_row w g t ty cur fr d hg hu hd hi]
  unfold Oper.still
  rw [e]
  exact ⟨rfl, hK _ h⟩

/-- A store. -/
theorem wpList_update {ops : Array Oper} {rest : List Oper} {o : Oper} {a : Act} {w : World} {Q : Exit → Act → World → Prop} (m x v : Operand) (hgd : o.guard = none) (hop : o.op = .mapUpdate 58 m x v)
    {mb n : Nat} {f : Int → ByteArray → List Int → Option Int} (hmap : MapV w mb n f) (hn : n < maxLen) (hm : a.eval m = .map (some mb)) {k : Int} {s : ByteArray} {ps : List Int} (hk : KeyOk k s ps) (hx : a.eval x = kval k s ps)
    {c : Int} (hc : (Lit.int .i64 c).wf = true) (hv : a.eval v = .int .i64 c)
    (h : ∀ w', MapV w' mb (n + 1) (fun k' s' ps' => if k' = k ∧ s' = s ∧ ps' = ps then some c else f k' s' ps') → w.grownBy w' (some mb) → wpList Try.prog ops Q rest (a.put o.dst undef) w') : wpList Try.prog ops Q (o :: rest) a w := by
  obtain ⟨D, h1, h2⟩ := hmap
  obtain ⟨l, hl⟩ := hk.lit
  refine wpList_mapUpdate_own w hgd m x v 58 hop 106 42 keyed Try.underlying58 _ mb n D hm h1 hn _ _ l hx hv hl _ [] (plainElem_int Try.underlying42 hc) ?_
  intro w' h1' hg
  refine h w' ⟨_, h1', fun k' s' ps' hk' l' hl' => ?_⟩ hg
  by_cases e : k' = k ∧ s' = s ∧ ps' = ps
  · obtain ⟨rfl, rfl, rfl⟩ := e
    obtain rfl : l = l' := Option.some.inj (hl.symm.trans hl')
    dsimp only
    rw [if_pos ⟨rfl, rfl, rfl⟩]
    refine ⟨(fun h => by cases h), fun c' hc' => ?_⟩
    cases hc'
    exact ⟨Maps.has_put_same h1.isMap (keyed.key hl) _, Maps.atKey_put_same h1.isMap (keyed.key hl) _ _⟩
  · have hne : l' ≠ l := by
      intro e2
      subst e2
      have := kval_inj (keyed.inj hl' hl)
      exact e this
    dsimp only
    rw [if_neg e]
    obtain ⟨h3, h4⟩ := h2 k' s' ps' hk' l' hl'
    refine ⟨fun hf => ?_, fun c' hc' => ?_⟩
    · rw [Maps.has_put_other hne]; exact h3 hf
    · rw [Maps.has_put_other hne, Maps.atKey_put_other hne]; exact h4 c' hc'
#print axioms wpStill_lookup
#print axioms wpList_update
end Go.Proofs.Ytinncmljffcobaa
namespace Go.Proofs.Ytinncmljffcobaa
open Go Go.RowKit

/-- A node: its kind, its text, its parts. -/
abbrev Nd := Int × ByteArray × List Int
def NdOk (n : Nd) : Prop := (Lit.int .i64 n.1).wf = true ∧ n.2.1.size ≤ maxLen ∧ n.2.2.length ≤ 16 ∧ (∀ p ∈ n.2.2, 1 ≤ p ∧ p ≤ 65536) ∧ (n.1 = 7 → n.2.2.length = 1)
/-- Parts with zeros behind them: sixteen. -/
def pad (ps : List Int) : List Int := ps ++ List.replicate (16 - ps.length) 0
theorem wf_small (n : Int) (h0 : -9223372036854775808 ≤ n) (h1 : n ≤ 9223372036854775807) : (Lit.int .i64 n).wf = true := by
  simp [Lit.wf, IntKind.min, IntKind.max, IntKind.bits, IntKind.signed]; omega
theorem NdOk.key {n : Nd} (h : NdOk n) : KeyOk n.1 n.2.1 (pad n.2.2) := by
  refine ⟨h.1, h.2.1, ?_, fun p hp => ?_⟩
  · have := h.2.2.1; simp [pad]; omega
  · rcases List.mem_append.1 hp with hp | hp
    · have := h.2.2.2.1 p hp; exact wf_small p (by omega) (by omega)
    · rw [List.eq_of_mem_replicate hp]; decide
theorem pad_inj {xs ys : List Int} (hx : ∀ p ∈ xs, 1 ≤ p) (hy : ∀ p ∈ ys, 1 ≤ p) (h : pad xs = pad ys) : xs = ys := by
  have key : ∀ (xs ys : List Int) (a b : Nat), (∀ p ∈ xs, 1 ≤ p) → (∀ p ∈ ys, 1 ≤ p) → xs ++ List.replicate a (0 : Int) = ys ++ List.replicate b 0 → xs = ys := by
    intro xs
    induction xs with
    | nil =>
      intro ys a b _ hy h
      cases ys with
      | nil => rfl
      | cons y ys =>
        cases a with
        | zero => simp at h
        | succ a => simp [List.replicate_succ] at h; have := hy y (by simp); omega
    | cons x xs ih =>
      intro ys a b hx hy h
      cases ys with
      | nil =>
        cases b with
        | zero => simp at h
        | succ b => simp [List.replicate_succ] at h; have := hx x (by simp); omega
      | cons y ys =>
        simp only [List.cons_append, List.cons.injEq] at h
        rw [h.1, ih ys a b (fun p hp => hx p (by simp [hp])) (fun p hp => hy p (by simp [hp])) h.2]
  exact key xs ys _ _ hx hy h

/-- The cells of nodes, each with the value of its parts. -/
def ncells : List (Nd × Value) → List Value
  | [] => []
  | p :: r => .int .i64 p.1.1 :: .string p.1.2.1 :: p.2 :: ncells r
theorem ncells_len (L : List (Nd × Value)) : (ncells L).length = L.length * 3 := by
  induction L with | nil => rfl | cons p r ih => simp [ncells, ih]; omega
theorem ncells_app (L M : List (Nd × Value)) : ncells (L ++ M) = ncells L ++ ncells M := by
  induction L with | nil => rfl | cons p r ih => simp [ncells, ih]
theorem ncells_get (L : List (Nd × Value)) (i : Nat) (p : Nd × Value) (h : L[i]? = some p) : (ncells L)[i * 3]? = some (.int .i64 p.1.1) ∧ (ncells L)[i * 3 + 1]? = some (.string p.1.2.1) ∧ (ncells L)[i * 3 + 2]? = some p.2 := by
  induction L generalizing i with
  | nil => simp at h
  | cons q r ih =>
    cases i with
    | zero =>
      simp only [List.getElem?_cons_zero, Option.some.injEq] at h
      subst h
      simp [ncells]
    | succ i =>
      obtain ⟨h1, h2, h3⟩ := ih i (by simpa using h)
      have e : (i + 1) * 3 = i * 3 + 1 + 1 + 1 := by omega
      rw [e]
      simp only [ncells, List.getElem?_cons_succ]
      exact ⟨h1, h2, h3⟩

/-- The number under which the table has a key: secrets stand under none. -/
def idxF (i : Int) (L : List (Nd × Value)) (k : Int) (s : ByteArray) (ps : List Int) : Option Int :=
  match L with
  | [] => none
  | p :: r => if p.1.1 = k ∧ p.1.2.1 = s ∧ pad p.1.2.2 = ps ∧ k ≠ 2 then some i else idxF (i + 1) r k s ps
def idx (L : List (Nd × Value)) (k : Int) (s : ByteArray) (ps : List Int) : Option Int := idxF 1 L k s ps
theorem idxF_app (L : List (Nd × Value)) (p : Nd × Value) (k : Int) (s : ByteArray) (ps : List Int) (i : Int) :
    idxF i (L ++ [p]) k s ps = match idxF i L k s ps with
      | some c => some c
      | none => if p.1.1 = k ∧ p.1.2.1 = s ∧ pad p.1.2.2 = ps ∧ k ≠ 2 then some (i + L.length) else none := by
  induction L generalizing i with
  | nil => simp [idxF]
  | cons q r ih =>
    simp only [List.cons_append, idxF]
    split
    · rfl
    · rw [ih]
      have e : i + 1 + (r.length : Int) = i + ((q :: r).length : Int) := by simp; omega
      rw [e]
theorem idx_secret (L : List (Nd × Value)) (p : Nd × Value) (hp : p.1.1 = 2) (k : Int) (s : ByteArray) (ps : List Int) : idx (L ++ [p]) k s ps = idx L k s ps := by
  unfold idx
  rw [idxF_app]
  have : ¬ (p.1.1 = k ∧ p.1.2.1 = s ∧ pad p.1.2.2 = ps ∧ k ≠ 2) := fun h => h.2.2.2 (by rw [← h.1, hp])
  rw [if_neg this]
  cases idxF 1 L k s ps <;> rfl
theorem idx_new (L : List (Nd × Value)) (p : Nd × Value) (hp : p.1.1 ≠ 2) (h : idx L p.1.1 p.1.2.1 (pad p.1.2.2) = none) (k : Int) (s : ByteArray) (ps : List Int) :
    (if k = p.1.1 ∧ s = p.1.2.1 ∧ ps = pad p.1.2.2 then some ((L.length : Int) + 1) else idx L k s ps) = idx (L ++ [p]) k s ps := by
  unfold idx at h ⊢
  rw [idxF_app]
  by_cases e : k = p.1.1 ∧ s = p.1.2.1 ∧ ps = pad p.1.2.2
  · obtain ⟨rfl, rfl, rfl⟩ := e
    rw [h, if_pos ⟨rfl, rfl, rfl⟩]
    dsimp only
    rw [if_pos ⟨rfl, rfl, rfl, hp⟩]
    congr 1
    omega
  · rw [if_neg e]
    have : ¬ (p.1.1 = k ∧ p.1.2.1 = s ∧ pad p.1.2.2 = ps ∧ k ≠ 2) := fun h => e ⟨h.1.symm, h.2.1.symm, h.2.2.1.symm⟩
    rw [if_neg this]
    cases idxF 1 L k s ps <;> rfl
/-- What is found stands there. -/
theorem idx_some (L : List (Nd × Value)) (k : Int) (s : ByteArray) (ps : List Int) (c : Int) (h : idx L k s ps = some c) : ∃ i p, c = (i : Nat) + 1 ∧ L[i]? = some p ∧ p.1.1 = k ∧ p.1.2.1 = s ∧ pad p.1.2.2 = ps ∧ k ≠ 2 := by
  have key : ∀ (L : List (Nd × Value)) (j : Int), idxF j L k s ps = some c → ∃ (i : Nat) (p : Nd × Value), c = j + i ∧ L[i]? = some p ∧ p.1.1 = k ∧ p.1.2.1 = s ∧ pad p.1.2.2 = ps ∧ k ≠ 2 := by
    intro L
    induction L with
    | nil => intro j h; cases h
    | cons q r ih =>
      intro j h
      unfold idxF at h
      split at h
      · rename_i hq
        cases h
        exact ⟨0, q, by simp, rfl, hq.1, hq.2.1, hq.2.2.1, hq.2.2.2⟩
      · obtain ⟨i, p, e, r⟩ := ih _ h
        exact ⟨i + 1, p, by rw [e]; omega, r⟩
  obtain ⟨i, p, e, r⟩ := key L 1 h
  exact ⟨i, p, by rw [e]; omega, r⟩

/-- The table at block tb, with its map at mb, its nodes in nv: the list L; the map holds f. -/
structure Tbl (w : World) (B tb mb : Nat) (nv : Value) (L : List (Nd × Value)) (f : Int → ByteArray → List Int → Option Int) : Prop where
  btb : B ≤ tb
  bmb : B ≤ mb
  tab : w.heap[tb]? = some (.cells #[nv, .map (some mb)] 61 (0, 0))
  nodes : w.ownsRow B 53 3 nv L.length (ncells L)
  parts : ∀ p ∈ L, w.ownsRow B 42 1 p.2 p.1.2.2.length (cs .i64 p.1.2.2)
  map : MapV w mb L.length f
  small : L.length ≤ 65536
  ok : ∀ p ∈ L, NdOk p.1

/-- What a call on the table leaves: every other block that was there. -/
structure Frm (tb mb : Nat) (nv : Value) (w w' : World) : Prop where
  os : w'.os = w.os
  tape : w'.tape = w.tape
  output : w'.output = w.output
  size : w.heap.size ≤ w'.heap.size
  block : ∀ k, k < w.heap.size → k ≠ tb → k ≠ mb → some k ≠ nv.ownBlock → w'.heap[k]? = w.heap[k]?

theorem Frm.of_below {tb mb : Nat} {nv : Value} {w w' : World} (h : Below w.heap.size w w') : Frm tb mb nv w w' :=
  ⟨h.os, h.tape, h.output, h.size, fun k hk _ _ _ => h.block k hk⟩
theorem Frm.refl (tb mb : Nat) (nv : Value) (w : World) : Frm tb mb nv w w := .of_below (Below.refl _ _)
/-- The nodes' new row is the old one, or a new block. -/
def Moved (w : World) (nv nv' : Value) : Prop := nv'.ownBlock = nv.ownBlock ∨ ∀ g, nv'.ownBlock = some g → w.heap.size ≤ g
theorem Moved.refl (w : World) (nv : Value) : Moved w nv nv := .inl rfl
theorem Frm.trans {tb mb : Nat} {nv nv' : Value} {w w1 w2 : World} (h : Frm tb mb nv w w1) (hm : Moved w nv nv') (h' : Frm tb mb nv' w1 w2) : Frm tb mb nv w w2 :=
  ⟨h'.os.trans h.os, h'.tape.trans h.tape, h'.output.trans h.output, Nat.le_trans h.size h'.size, fun k hk h1 h2 h3 => by
    rw [h'.block k (Nat.lt_of_lt_of_le hk h.size) h1 h2 ?_]
    · exact h.block k hk h1 h2 h3
    · rcases hm with e | e
      · rw [e]; exact h3
      · intro e2; have := e k e2.symm; omega⟩
theorem Moved.trans {w w1 : World} {nv nv1 nv2 : Value} (h : Moved w nv nv1) (hs : w.heap.size ≤ w1.heap.size) (h' : Moved w1 nv1 nv2) : Moved w nv nv2 := by
  rcases h' with e | e
  · rcases h with e' | e'
    · exact .inl (e.trans e')
    · exact .inr fun g hg => e' g (by rw [← e]; exact hg)
  · exact .inr fun g hg => Nat.le_trans hs (e g hg)
theorem Tbl.below {w : World} {B tb mb : Nat} {nv : Value} {L : List (Nd × Value)} {f : Int → ByteArray → List Int → Option Int} (h : Tbl w B tb mb nv L f) {w' : World} (hf : Frm tb mb nv w w') : Below B w w' := by
  refine ⟨hf.os, hf.tape, hf.output, hf.size, fun k hk => ?_⟩
  have h1 := h.btb
  have h2 := h.bmb
  by_cases hkw : k < w.heap.size
  · refine hf.block k hkw (by omega) (by omega) fun e => ?_
    have := (h.nodes.lt k e.symm).1
    omega
  · have := blk_lt h.tab
    omega

/-- The table stays where nothing that was there has changed. -/
theorem Tbl.keep {w w' : World} {B tb mb : Nat} {nv : Value} {L : List (Nd × Value)} {f : Int → ByteArray → List Int → Option Int} (h : Tbl w B tb mb nv L f) (hb : Below w.heap.size w w') : Tbl w' B tb mb nv L f :=
  { h with
    tab := by rw [hb.block tb (blk_lt h.tab)]; exact h.tab
    nodes := own_below h.nodes hb
    parts := fun p hp => own_below (h.parts p hp) hb
    map := h.map.keep (hb.block mb h.map.lt) }
/-- What else the call owns stays when the table changes. -/
theorem Tbl.other {w w' : World} {B tb mb : Nat} {nv : Value} {L : List (Nd × Value)} {f : Int → ByteArray → List Int → Option Int} (h : Tbl w B tb mb nv L f) (hf : Frm tb mb nv w w') {k : Nat} (hk : k < w.heap.size)
    (h59 : ∀ c fr, w.heap[k]? ≠ some (.cells c 61 fr)) (h38 : ∀ c fr, w.heap[k]? ≠ some (.cells c 53 fr)) (hmap : ∀ es c, w.heap[k]? ≠ some (.map es c)) : w'.heap[k]? = w.heap[k]? := by
  refine hf.block k hk (fun e => ?_) (fun e => ?_) (fun e => ?_)
  · subst e; exact h59 _ _ h.tab
  · subst e
    obtain ⟨D, ⟨es, clock, hb, _⟩, _⟩ := h.map
    exact hmap _ _ hb
  · obtain ⟨cur, hc⟩ := own_blk h.nodes e.symm
    exact h38 _ _ hc
theorem Tbl.own32 {w w' : World} {B tb mb : Nat} {nv : Value} {L : List (Nd × Value)} {f : Int → ByteArray → List Int → Option Int} (h : Tbl w B tb mb nv L f) (hf : Frm tb mb nv w w') {base size : Nat} {v : Value} {n : Nat} {xs : List Value} (ho : w.ownsRow base 42 size v n xs) : w'.ownsRow base 42 size v n xs := by
  refine own_keep ho fun g hg => ?_
  obtain ⟨cur, hc⟩ := own_blk ho hg
  exact h.other hf (ho.lt g hg).2 (fun c fr e => by rw [hc] at e; cases e) (fun c fr e => by rw [hc] at e; cases e) (fun c fr e => by rw [hc] at e; cases e)
theorem own_shape {w : World} {base : Nat} {e : TypeId} {size : Nat} {v : Value} {n : Nat} {xs : List Value} (h : w.ownsRow base e size v n xs) : ∃ ao cap, v = .slice ao n cap ∧ n ≤ cap ∧ cap ≤ maxLen := by
  rcases h.2 with ⟨rfl, rfl⟩ | ⟨g, cap, cur, rfl, _, _, h1, h2, _⟩
  · exact ⟨none, 0, rfl, Nat.le_refl _, by simp [maxLen]⟩
  · exact ⟨_, cap, rfl, h1, h2⟩
#print axioms idx_new
#print axioms Tbl.own32
end Go.Proofs.Ytinncmljffcobaa
namespace Go.Proofs.Ytinncmljffcobaa
open Go Go.RowKit

set_option maxRecDepth 20000 in
theorem MapV.alloc {w : World} {mb n : Nat} {f : Int → ByteArray → List Int → Option Int} (h : MapV w mb n f) (o : Obj) : MapV (w.alloc o) mb n f := h.keep (Below.heap_alloc w o mb h.lt)
set_option maxHeartbeats 400000 in
set_option maxRecDepth 20000 in
theorem new_any (w : World) : Calls Try.prog 10 #[] w fun e w' => e = .returned (.pointer (some ⟨w.heap.size + 1, 0, none⟩)) ∧ Tbl w' w.heap.size (w.heap.size + 1) w.heap.size (.slice none 0 0) [] (idx []) ∧ Below w.heap.size w w' := by
  have hmm := @run_makeMap Try.prog
  go_enter Try.func10, Try.ntmps10
  go_wp2
  go_ret
  refine ⟨rfl, ⟨by omega, Nat.le_refl _, ?_, World.ownsRow_nil _ _ _ _, (fun p h => by cases h), ((MapV.made w).congr fun _ _ _ _ => rfl).alloc _, by decide, (fun p h => by cases h)⟩, ?_⟩
  · have := heap_alloc_new (w.alloc (.map #[] 0)) (.cells #[Value.slice none 0 0, Value.map (some w.heap.size)] 61)
    simpa using this
  · exact (below_alloc w _).trans ((below_alloc _ _).mono (by simp))
#print axioms new_any
end Go.Proofs.Ytinncmljffcobaa
namespace Go.Proofs.Ytinncmljffcobaa
open Go Go.RowKit

theorem info38 : (Try.prog.info? 53).map (fun i => (i.zero, i.size, i.bytes)) = some (some (.agg #[.int .i64 0, .string ByteArray.empty, .slice none 0 0]), 3, 48) := by kernel_rfl

/-- append of one node, as a step of a region that draws its order. -/
theorem step_append_node {ops : Array Oper} {o : Oper} {a : Act} {w : World} {K : Act → World → Prop} {Q : Exit → Act → World → Prop} {E : Prop} (s x : Operand)
    (hgd : o.guard = none) (ho : o.op = .call { callee := .builtin .append, args := #[s, x], argTypes := #[59, 59] })
    {B : Nat} {nv : Value} {L : List (Nd × Value)} (hs : a.eval s = nv) (hown : w.ownsRow B 53 3 nv L.length (ncells L)) (p : Nd × Value) (g : Nat) (hx : a.eval x = .slice (some ⟨g, 0, none⟩) 1 1)
    (hg : w.heap[g]? = some (.cells (ncells [p]).toArray 53 (0, 0))) (h1 : p.2.oneCell' = true) (hsmall : L.length < 65536) (hbase : B ≤ w.heap.size)
    (h : ∀ v' w', w'.ownsRow B 53 3 v' (L.length + 1) (ncells (L ++ [p])) → w.grownBy w' nv.ownBlock → (v'.ownBlock = nv.ownBlock ∨ v'.ownBlock = some w.heap.size) → K (a.put o.dst v') w') :
    if Region.wanted o (yielded ops a.tmps) = true then Oper.wp Try.prog o a w K Q else E := by
  have hw : Region.wanted o (yielded ops a.tmps) = true := by simp [Region.wanted, hgd]
  rw [if_pos hw]
  obtain ⟨i, hi, hz0, hz1, hz2⟩ := info_parts info38
  obtain ⟨v', w', hr, h2, h3, _, h5⟩ := run_append_own_at (P := Try.prog) w B 59 o.type 53 i _ 3 48 Try.underlying59 hi hz0 hz1 hz2 rfl (by decide) nv L.length (ncells L) hown ⟨g, 0, none⟩ 1 1 (ncells [p]) rfl
    (fun j u hu => by rw [Addr.add_lit, Nat.zero_add, cell_of_row w g j _ 53 (0, 0) hg]; simpa using hu)
    (fun u hu => by
      simp only [ncells, List.mem_cons, List.not_mem_nil, or_false] at hu
      rcases hu with rfl | rfl | rfl
      · rfl
      · rfl
      · exact h1) (by unfold maxLen; omega) (by omega) hbase
  unfold Oper.wp execOp
  simp only [ho, resolve, invoke, builtin, Sem.run_bind, Sem.run_pure, Result.andThen_ok, List.map_toArray, List.map_cons, List.map_nil, hs, hx, hr]
  exact h v' w' (by rw [ncells_app]; exact h2) h3 h5

theorem slice_one {w : World} {base : Nat} {e : TypeId} {size : Nat} {v : Value} {n : Nat} {xs : List Value} (h : w.ownsRow base e size v n xs) : v.oneCell' = true := by
  obtain ⟨ao, cap, rfl, _⟩ := own_shape h; rfl

theorem Tbl.tb_ne {w : World} {B tb mb : Nat} {nv : Value} {L : List (Nd × Value)} {f : Int → ByteArray → List Int → Option Int} (h : Tbl w B tb mb nv L f) : some tb ≠ nv.ownBlock := fun e => by
  obtain ⟨cur, hc⟩ := own_blk h.nodes e.symm
  rw [h.tab] at hc; cases hc
theorem Tbl.mb_ne {w : World} {B tb mb : Nat} {nv : Value} {L : List (Nd × Value)} {f : Int → ByteArray → List Int → Option Int} (h : Tbl w B tb mb nv L f) : some mb ≠ nv.ownBlock ∧ mb ≠ tb := by
  obtain ⟨D, ⟨es, clock, hb, _⟩, _⟩ := h.map
  refine ⟨fun e => ?_, fun e => ?_⟩
  · obtain ⟨cur, hc⟩ := own_blk h.nodes e.symm
    rw [hb] at hc; cases hc
  · rw [e, h.tab] at hb; cases hb

/-- Behind the append: the table's own block is as it was. -/
theorem add_mid {w w2 : World} {B tb mb : Nat} {nv : Value} {L : List (Nd × Value)} {f : Int → ByteArray → List Int → Option Int} (h : Tbl w B tb mb nv L f) (A O : Obj) (hg : ((w.alloc A).alloc O).drew.grownBy w2 nv.ownBlock) :
    w2.heap[tb]? = some (.cells #[nv, .map (some mb)] 61 (0, 0)) ∧ ∀ k, k < w.heap.size → some k ≠ nv.ownBlock → w2.heap[k]? = w.heap[k]? := by
  have hk : ∀ k, k < w.heap.size → some k ≠ nv.ownBlock → w2.heap[k]? = w.heap[k]? := fun k hk hne => by
    rw [hg.block k (by simp [World.drew]; omega) hne]
    show ((w.alloc A).alloc O).heap[k]? = _
    rw [Below.heap_alloc _ _ _ (by simp; omega)]
    exact Below.heap_alloc w A k hk
  refine ⟨?_, hk⟩
  rw [hk tb (blk_lt h.tab) h.tb_ne]; exact h.tab

theorem add_end {w w2 : World} {B tb mb : Nat} {nv v' : Value} {L : List (Nd × Value)} {f : Int → ByteArray → List Int → Option Int} (h : Tbl w B tb mb nv L f) (A O : Obj) (hg : ((w.alloc A).alloc O).drew.grownBy w2 nv.ownBlock)
    {p : Nd × Value} (hok : NdOk p.1) (hp : w.ownsRow B 42 1 p.2 p.1.2.2.length (cs .i64 p.1.2.2)) (hroom : L.length < 65536)
    (hown : w2.ownsRow B 53 3 v' (L.length + 1) (ncells (L ++ [p]))) (hloc : v'.ownBlock = nv.ownBlock ∨ v'.ownBlock = some ((w.alloc A).alloc O).drew.heap.size) :
    Tbl (w2.setCell ⟨tb, 0, none⟩ v') B tb mb v' (L ++ [p]) f ∧ Frm tb mb nv w (w2.setCell ⟨tb, 0, none⟩ v') ∧ Moved w nv v' ∧ (w2.setCell ⟨tb, 0, none⟩ v').heap[mb]? = w.heap[mb]? := by
  obtain ⟨h1, h2⟩ := add_mid h A O hg
  have hsz : w.heap.size + 2 ≤ w2.heap.size := by have := hg.size; simp [World.drew] at this; omega
  have hne : ∀ g, v'.ownBlock = some g → g ≠ tb := by
    intro g hgv e
    subst e
    obtain ⟨cur, hc⟩ := own_blk hown hgv
    rw [h1] at hc; cases hc
  have hset : ∀ k, k ≠ tb → (w2.setCell ⟨tb, 0, none⟩ v').heap[k]? = w2.heap[k]? := fun k hk => heap_setCell_other w2 _ k _ hk
  have htab : (w2.setCell ⟨tb, 0, none⟩ v').heap[tb]? = some (.cells #[v', .map (some mb)] 61 (0, 0)) := by
    rw [heap_setCell_same w2 tb 0 _ 61 _ h1]; rfl
  have hpart : ∀ {v : Value} {n : Nat} {xs : List Value}, w.ownsRow B 42 1 v n xs → (w2.setCell ⟨tb, 0, none⟩ v').ownsRow B 42 1 v n xs := fun ho => by
    refine own_keep ho fun g hgo => ?_
    obtain ⟨cur, hc⟩ := own_blk ho hgo
    have e1 : g ≠ tb := fun e => by rw [e, h.tab] at hc; cases hc
    rw [hset g e1, h2 g (ho.lt g hgo).2 (fun e => ?_)]
    obtain ⟨cur2, hc2⟩ := own_blk h.nodes e.symm
    rw [hc] at hc2; cases hc2
  refine ⟨⟨h.btb, h.bmb, htab, ?_, ?_, ?_, by simp; omega, ?_⟩, ⟨hg.os, hg.tape, hg.output, by simp [World.setCell]; omega, ?_⟩, ?_, ?_⟩
  · rw [List.length_append]
    exact own_keep hown fun g hgv => hset g (hne g hgv)
  · intro q hq
    rcases List.mem_append.1 hq with hq | hq
    · exact hpart (h.parts q hq)
    · obtain rfl := List.mem_singleton.1 hq; exact hpart hp
  · refine (h.map.mono (by simp)).keep ?_
    rw [hset mb h.mb_ne.2, h2 mb h.map.lt h.mb_ne.1]
  · intro q hq
    rcases List.mem_append.1 hq with hq | hq
    · exact h.ok q hq
    · obtain rfl := List.mem_singleton.1 hq; exact hok
  · intro k hk h3 _ h5
    rw [hset k h3, h2 k hk h5]
  · rcases hloc with e | e
    · exact .inl e
    · refine .inr fun g hgv => ?_
      rw [e] at hgv
      simp [World.drew] at hgv
      omega
  · rw [hset mb h.mb_ne.2, h2 mb h.map.lt h.mb_ne.1]

set_option maxHeartbeats 1000000 in
set_option maxRecDepth 20000 in
theorem add_any {w : World} {B tb mb : Nat} {nv : Value} {L : List (Nd × Value)} {f : Int → ByteArray → List Int → Option Int} (h : Tbl w B tb mb nv L f) (k : Int) (s : ByteArray) (ps : List Int) (pv : Value)
    (hok : NdOk (k, s, ps)) (hp : w.ownsRow B 42 1 pv ps.length (cs .i64 ps)) (hroom : L.length < 65536) :
    Calls Try.prog 44 #[.pointer (some ⟨tb, 0, none⟩), .agg #[.int .i64 k, .string s, pv]] w fun e w' => e = .returned (.int .i64 ((L.length : Int) + 1)) ∧ ∃ nv', Tbl w' B tb mb nv' (L ++ [((k, s, ps), pv)]) f ∧ Frm tb mb nv w w' ∧ Moved w nv nv' ∧ w'.heap[mb]? = w.heap[mb]? := by
  obtain ⟨ao, cap, hnv, hc1, hc2⟩ := own_shape h.nodes
  have htl := blk_lt h.tab
  have hpo := slice_one hp
  have hcT : w.cell? ⟨tb, 0, none⟩ = some nv := by simp [World.cell?, h.tab]
  have hfT : w.frozen? ⟨tb, 0, none⟩ = false := by simp [World.frozen?, h.tab]
  have hne : tb ≠ w.heap.size := by omega
  have HH := Lib.hid h
  have hB : B ≤ w.heap.size := by have := h.btb; omega
  clear h
  have hA : ((w.alloc (.cells #[.int .i64 k, .string s, pv] 53)).alloc (.cells #[.int .i64 k, .string s, pv] 53)).drew.heap[w.heap.size + 1]? = some (.cells (ncells [((k, s, ps), pv)]).toArray 53 (0, 0)) := by
    have := heap_alloc_new (w.alloc (.cells #[.int .i64 k, .string s, pv] 53)) (.cells #[.int .i64 k, .string s, pv] 53)
    simpa [World.drew, ncells] using this
  have hB2 : B ≤ ((w.alloc (.cells #[.int .i64 k, .string s, pv] 53)).alloc (.cells #[.int .i64 k, .string s, pv] 53)).drew.heap.size := by simp [World.drew]; omega
  have HA := Lib.hid hA
  have HB2 := Lib.hid hB2
  clear hA hB2
  obtain ⟨n, hn⟩ : ∃ n, n = L.length := ⟨_, rfl⟩
  rw [← hn] at hnv
  subst hnv
  have HN := Lib.hid hn
  have hd : (decide ((65536 : Int) ≤ (n : Int))) = false := by rw [decide_eq_false_iff_not]; omega
  have HR := Lib.hid hroom
  clear hn hc1 hc2 hroom
  go_enter Try.func44, Try.ntmps44
  go_wp2
  go_region_law (refine step_append_node (.tmp 15) (.tmp 17) rfl rfl (B := B) (nv := .slice ao n cap) (L := L) rfl (own_alloc (own_alloc HH.out.nodes _) _) ((k, s, ps), pv) (w.heap.size + 1) rfl ?_ hpo HR.out ?_ ?_; (next => exact HA.out); (next => exact HB2.out); intro v' w2 hown2 hg2 hloc2; have hm2 := (add_mid HH.out _ _ hg2).1; have hcT2 : w2.cell? ⟨tb, 0, none⟩ = some (.slice ao n cap) := (by simp [World.cell?, hm2]); have hfT2 : w2.frozen? ⟨tb, 0, none⟩ = false := (by simp [World.frozen?, hm2]); obtain ⟨ao', cap', rfl, _⟩ := own_shape hown2; have HG2 := Lib.hid hg2; clear hg2 hm2)
  all_goals
    go_wp2
    go_ret
    refine ⟨by simp, _, add_end HH.out _ _ HG2.out hok hp HR.out hown2 hloc2⟩
#print axioms add_any
end Go.Proofs.Ytinncmljffcobaa
namespace Go.Proofs.Ytinncmljffcobaa
open Go Go.RowKit

theorem info32 : (Try.prog.info? 42).map (fun i => (i.zero, i.size, i.bytes)) = some (some (.int .i64 0), 1, 8) := by kernel_rfl
set_option maxRecDepth 20000 in
theorem ret_int {k : IntKind} {a b : Int} (h : a = b) : Ending.returned (.int k a) = .returned (.int k b) := by rw [h]

set_option maxRecDepth 20000 in
theorem size_nil (w : World) : Calls Try.prog 23 #[.pointer none] w fun e w' => e = .returned (.int .i64 0) ∧ w = w' := by
  go_enter Try.func23, Try.ntmps23
  go_wp2
  go_ret
  exact ⟨rfl, rfl⟩
set_option maxHeartbeats 400000 in
set_option maxRecDepth 20000 in
theorem size_any {w : World} {B tb mb : Nat} {nv : Value} {L : List (Nd × Value)} {f : Int → ByteArray → List Int → Option Int} (h : Tbl w B tb mb nv L f) :
    Calls Try.prog 23 #[.pointer (some ⟨tb, 0, none⟩)] w fun e w' => e = .returned (.int .i64 (L.length : Int)) ∧ w = w' := by
  obtain ⟨ao, cap, hnv, _⟩ := own_shape h.nodes
  have hcT : w.cell? ⟨tb, 0, none⟩ = some nv := by simp [World.cell?, h.tab]
  subst hnv
  clear h
  go_enter Try.func23, Try.ntmps23
  go_wp2
  go_ret
  exact ⟨rfl, rfl⟩

set_option maxHeartbeats 400000 in
set_option maxRecDepth 20000 in
theorem has_yes {w : World} {B tb mb : Nat} {nv : Value} {L : List (Nd × Value)} {f : Int → ByteArray → List Int → Option Int} (h : Tbl w B tb mb nv L f) (t : Int) (h0 : 1 ≤ t) (h1 : t ≤ (L.length : Int)) :
    Calls Try.prog 40 #[.pointer (some ⟨tb, 0, none⟩), .int .i64 t] w fun e w' => e = .returned (.bool true) ∧ w = w' := by
  have hs := size_any h
  clear h
  generalize (L.length : Int) = n at *
  have h2 : 0 < t := by omega
  go_enter Try.func40, Try.ntmps40
  go_wp2_with (go_at_call 23; refine hs.mono ?_; rintro e w' ⟨rfl, rfl⟩)
  go_ret
  exact ⟨rfl, rfl⟩
set_option maxHeartbeats 400000 in
set_option maxRecDepth 20000 in
theorem has_no {w : World} {B tb mb : Nat} {nv : Value} {L : List (Nd × Value)} {f : Int → ByteArray → List Int → Option Int} (h : Tbl w B tb mb nv L f) (t : Int) (h0 : t < 1 ∨ (L.length : Int) < t) :
    Calls Try.prog 40 #[.pointer (some ⟨tb, 0, none⟩), .int .i64 t] w fun e w' => e = .returned (.bool false) ∧ w = w' := by
  have hs := size_any h
  clear h
  generalize (L.length : Int) = n at *
  by_cases h2 : 0 < t
  · have h1 : decide (t ≤ n) = false := by rw [decide_eq_false_iff_not]; omega
    clear h0
    go_enter Try.func40, Try.ntmps40
    go_wp2_with (go_at_call 23; refine hs.mono ?_; rintro e w' ⟨rfl, rfl⟩)
    go_ret
    exact ⟨rfl, rfl⟩
  · go_enter Try.func40, Try.ntmps40
    go_wp2_with (go_at_call 23; refine hs.mono ?_; rintro e w' ⟨rfl, rfl⟩)
    go_ret
    exact ⟨rfl, rfl⟩
set_option maxRecDepth 20000 in
theorem has_nil (w : World) (t : Int) : Calls Try.prog 40 #[.pointer none, .int .i64 t] w fun e w' => e = .returned (.bool false) ∧ w = w' := by
  by_cases h0 : 0 < t
  · have h1 : decide (t ≤ 0) = false := by rw [decide_eq_false_iff_not]; omega
    go_enter Try.func40, Try.ntmps40
    go_wp2_with (go_at_call 23; refine (size_nil _).mono ?_; rintro e w' ⟨rfl, rfl⟩)
    go_ret
    exact ⟨rfl, rfl⟩
  · go_enter Try.func40, Try.ntmps40
    go_wp2_with fail
    go_ret
    exact ⟨rfl, rfl⟩

set_option maxRecDepth 20000 in
theorem secret_nil (w : World) : Calls Try.prog 27 #[.pointer none] w fun e w' => e = .returned (.int .i64 0) ∧ w = w' := by
  go_enter Try.func27, Try.ntmps27
  go_wp2
  go_ret
  exact ⟨rfl, rfl⟩
/-- A secret's node. -/
def secretNd : Nd := (2, ByteArray.empty, [])
theorem secretNd_ok : NdOk secretNd := ⟨by decide, by decide, by decide, (fun p h => by cases h), (fun h => by cases h)⟩
set_option maxHeartbeats 400000 in
set_option maxRecDepth 20000 in
theorem secret_any {w : World} {B tb mb : Nat} {nv : Value} {L : List (Nd × Value)} (h : Tbl w B tb mb nv L (idx L)) (hroom : L.length < 65536) :
    Calls Try.prog 27 #[.pointer (some ⟨tb, 0, none⟩)] w fun e w' => e = .returned (.int .i64 ((L.length : Int) + 1)) ∧ ∃ nv', Tbl w' B tb mb nv' (L ++ [(secretNd, .slice none 0 0)]) (idx (L ++ [(secretNd, .slice none 0 0)])) ∧ Frm tb mb nv w w' ∧ Moved w nv nv' := by
  have hA := add_any h 2 ByteArray.empty [] (.slice none 0 0) secretNd_ok (World.ownsRow_nil _ _ _ _) hroom
  clear h hroom
  go_enter Try.func27, Try.ntmps27
  go_wp2_with fail
  refine hA.mono ?_
  rintro e w1 ⟨rfl, nv', ht, hf, hm, _⟩
  go_wp2_with fail
  go_ret
  refine ⟨rfl, nv', ?_, hf, hm⟩
  exact { ht with map := ht.map.congr fun k s ps _ => (idx_secret L _ rfl k s ps).symm }

set_option maxHeartbeats 400000 in
set_option maxRecDepth 20000 in
theorem clone_any {w : World} {v : Value} {zs : List Int} (h1 : Rd .i64 w v zs) (hb : zs.length ≤ 1000000) :
    Calls Try.prog 41 #[v] w fun e w' => ∃ v', e = .returned v' ∧ w'.ownsRow w.heap.size 42 1 v' zs.length (cs .i64 zs) ∧ Below w.heap.size w w' := by
  obtain ⟨i, hi, hz0, hz1, hz2⟩ := info_parts info32
  have h1' := h1
  obtain ⟨ao, cap, rfl, _⟩ := h1'
  have HB : zs.length ≤ maxLen := by unfold maxLen; omega
  go_enter Try.func41, Try.ntmps41
  go_wp2_with (first | (at_make; refine wpList_make_full _ rfl _ _ 37 rfl w.heap.size 42 i (.int .i64 0) 1 Try.underlying37 hi hz0 hz1 .i64 .i64 _ _ zs.length rfl rfl rfl rfl (by rw [hz2]; omega) HB (Nat.le_refl _) ?_; intro w1 hown1 hg1) | ((with_reducible show wpList _ _ _ _ _ _); refine wpList_copy_ints (o := ⟨some 9, _, _, _, _, _⟩) .i64 42 8 (.tmp 7) (.tmp 8) 37 rfl rfl info32 Try.underlying37 w.heap.size w.heap.size zs.length _ rfl hown1 _ zs rfl (h1.below (below_made hg1)) (Nat.le_refl _) ?_; intro w2 hown2 hb2))
  go_ret
  refine ⟨_, rfl, ?_, (below_made hg1).trans hb2⟩
  have e : List.drop zs.length (madeCells (Value.int .i64 0).cells (zs.length * 1)).toList = [] := List.drop_eq_nil_of_le (by simp [madeCells])
  rw [e, List.append_nil] at hown2
  exact hown2
#print axioms secret_any
#print axioms clone_any
end Go.Proofs.Ytinncmljffcobaa
