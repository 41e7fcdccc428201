/- params.Read: a map of functions, told place by place; takers. -/
import Derived.Test.YtmglhlfjddgllaaDoorPRd3
import Derived.Test.YtmglhlfjddgllaaDoorPRd4
import Derived.Test.YtmglhlfjddgllaaDoorPRd5
import Derived.Maps.Own
import Derived.Maps.OwnSet
import Derived.Maps.RangeWalk
namespace Go.Proofs.YtmglhlfjddgllaaDoor
open Go Go.RowKit
open Go.Maps (Keyed)

theorem keyM : Keyed Tryd.prog 3 := Go.Maps.int_keyed Tryd.underlying3
theorem keyOfM {k : Int} (h : (Lit.int .i64 k).wf = true) : keyOf Tryd.prog 3 (.int .i64 k) = some (.int .i64 k) := by
  simp [keyOf, Tryd.underlying3, mapKey, h]
theorem wfM {k : Int} (h0 : 0 ≤ k) (h1 : k ≤ 9223372036854775807) : (Lit.int .i64 k).wf = true := by
  simp [Lit.wf, IntKind.min, IntKind.max, IntKind.bits, IntKind.signed]; omega
/-- A function among the map's elements is told by itself. -/
def fR (v : Value) : Option (DataW Value × List MemPlace) :=
  match v with
  | .func _ _ _ => some (.held v, [])
  | .nilFunc => some (.held v, [])
  | _ => none
theorem fR_func (f : Fn) (a c : Array Value) : fR (.func f a c) = some (.held (.func f a c), []) := rfl
theorem fR_inv {v : Value} {y : DataW Value × List MemPlace} (h : fR v = some y) : y = (.held v, []) := by
  cases v <;> simp [fR] at h <;> exact h.symm
theorem zeroF (w : World) : (zeroValue 76).run Tryd.prog w = .ok .nilFunc w := by kernel_rfl
/-- What the map's datum says of f. -/
def SaysF (D : DataW Value) (f : Int → Option Value) : Prop := ∀ k, (Lit.int .i64 k).wf = true → (f k = none → Maps.has D (.int .i64 k) = false) ∧ ∀ v, f k = some v → Maps.has D (.int .i64 k) = true ∧ ∀ z, D.atKey (.int .i64 k) z = .held v
/-- Block mb is a map of at most n entries that holds f's values at their keys, and nothing else. -/
def MapF (w : World) (mb n : Nat) (f : Int → Option Value) : Prop := ∃ D : DataW Value, w.ownsMap Tryd.prog 3 fR mb n D ∧ SaysF D f
theorem MapF.made (w : World) : MapF (w.alloc (.map #[] 0)) w.heap.size 0 (fun _ => none) :=
  ⟨.map [], World.ownsMap_made _ _ _ _, fun k _ => ⟨fun _ => rfl, fun v h => by cases h⟩⟩
theorem MapF.lt {w : World} {mb n : Nat} {f : Int → Option Value} (h : MapF w mb n f) : mb < w.heap.size := by
  obtain ⟨D, h1, _⟩ := h; exact h1.lt
theorem MapF.keep {w w' : World} {mb n : Nat} {f : Int → Option Value} (h : MapF w mb n f) (e : w'.heap[mb]? = w.heap[mb]?) : MapF w' mb n f := by
  obtain ⟨D, ⟨es, clock, hb, r⟩, h2⟩ := h
  exact ⟨D, ⟨es, clock, by rw [e]; exact hb, r⟩, h2⟩
theorem MapF.below {w w' : World} {mb n : Nat} {f : Int → Option Value} (h : MapF w mb n f) (hb : Below w.heap.size w w') : MapF w' mb n f := h.keep (hb.block mb h.lt)
theorem MapF.mono {w : World} {mb n n' : Nat} {f : Int → Option Value} (h : MapF w mb n f) (hn : n ≤ n') : MapF w mb n' f := by
  obtain ⟨D, h1, h2⟩ := h
  exact ⟨D, h1.mono hn, h2⟩
/-- A look-up, and whether it is there. -/
theorem MapF.look {w : World} {mb n : Nat} {f : Int → Option Value} (h : MapF w mb n f) {k : Int} (hk : (Lit.int .i64 k).wf = true) :
    (Instr.lookup 73 (.map (some mb)) (.int .i64 k) true).run Tryd.prog w = .ok (.tuple #[(f k).getD .nilFunc, .bool (f k).isSome]) w := by
  obtain ⟨D, h1, h2⟩ := h
  obtain ⟨h3, h4⟩ := h2 k hk
  obtain ⟨v, q, hrun, hv⟩ := h1.look_ok keyM Tryd.underlying73 (zeroF w) (show fR .nilFunc = some (.held .nilFunc, []) from rfl) (keyOfM hk)
  have e := fR_inv hv
  simp only [Prod.mk.injEq] at e
  rw [hrun]
  cases hf : f k with
  | none =>
    rw [Maps.atKey_of_not_has (h3 hf)] at e
    simp only [DataW.held.injEq] at e
    rw [← e.1, h3 hf]; rfl
  | some u =>
    rw [(h4 u hf).2] at e
    simp only [DataW.held.injEq] at e
    rw [← e.1, (h4 u hf).1]; rfl
/-- A store. -/
theorem MapF.update {w : World} {mb n : Nat} {f : Int → Option Value} (h : MapF w mb n f) (hn : n < maxLen) {k : Int} (hk : (Lit.int .i64 k).wf = true) (g : Fn) (a c : Array Value) :
    ∃ w', (Instr.mapUpdate 73 (.map (some mb)) (.int .i64 k) (.func g a c)).run Tryd.prog w = .ok () w' ∧ MapF w' mb (n + 1) (fun j => if j = k then some (.func g a c) else f j) ∧ w.grownBy w' (some mb) := by
  obtain ⟨D, h1, h2⟩ := h
  obtain ⟨w', hrun, hw, hg⟩ := h1.update keyM Tryd.underlying73 hn (keyOfM hk) (fR_func g a c)
  refine ⟨w', hrun, ⟨_, hw, fun j hj => ?_⟩, hg⟩
  by_cases e : j = k
  · subst e
    dsimp only
    rw [if_pos rfl]
    refine ⟨(fun h => by cases h), fun v hv => ?_⟩
    cases hv
    exact ⟨Maps.has_put_same h1.isMap (keyM.key (keyOfM hj)) _, fun z => Maps.atKey_put_same h1.isMap (keyM.key (keyOfM hj)) _ _⟩
  · have hne : (Lit.int IntKind.i64 j) ≠ .int .i64 k := fun h => e (by cases h; rfl)
    dsimp only
    rw [if_neg e]
    obtain ⟨h3, h4⟩ := h2 j hj
    refine ⟨fun hf => ?_, fun v hv => ?_⟩
    · rw [Maps.has_put_other hne]; exact h3 hf
    · rw [Maps.has_put_other hne]; exact ⟨(h4 v hv).1, fun z => by rw [Maps.atKey_put_other hne]; exact (h4 v hv).2 z⟩
/-- A delete. -/
theorem MapF.drop {w : World} {mb n : Nat} {f : Int → Option Value} (h : MapF w mb n f) {k : Int} (hk : (Lit.int .i64 k).wf = true) (ty : TypeId) :
    ∃ w', (Builtin.delete_ #[73, 3] ty #[.map (some mb), .int .i64 k]).run Tryd.prog w = .ok (.tuple #[]) w' ∧ MapF w' mb n (fun j => if j = k then none else f j) ∧ w.grownBy w' (some mb) := by
  obtain ⟨D, h1, h2⟩ := h
  obtain ⟨w', hrun, hw, hg⟩ := h1.drop keyM Tryd.underlying73 (keyOfM hk) ty
  refine ⟨w', hrun, ⟨_, hw, fun j hj => ?_⟩, hg.grown⟩
  by_cases e : j = k
  · subst e
    dsimp only
    rw [if_pos rfl]
    exact ⟨fun _ => Maps.has_del_same, fun v hv => by cases hv⟩
  · have hne : (Lit.int IntKind.i64 j) ≠ .int .i64 k := fun h => e (by cases h; rfl)
    dsimp only
    rw [if_neg e]
    obtain ⟨h3, h4⟩ := h2 j hj
    refine ⟨fun hf => ?_, fun v hv => ?_⟩
    · rw [Maps.has_del_other hne]; exact h3 hf
    · rw [Maps.has_del_other hne]; exact ⟨(h4 v hv).1, fun z => by rw [Maps.atKey_del_other hne]; exact (h4 v hv).2 z⟩
theorem SaysF.del {D : DataW Value} {f : Int → Option Value} (h : SaysF D f) (k : Int) : SaysF (D.del (.int .i64 k)) (fun j => if j = k then none else f j) := fun j hj => by
  by_cases e : j = k
  · subst e
    dsimp only
    rw [if_pos rfl]
    exact ⟨fun _ => Maps.has_del_same, fun v hv => by cases hv⟩
  · have hne : (Lit.int IntKind.i64 j) ≠ .int .i64 k := fun h => e (by cases h; rfl)
    dsimp only
    rw [if_neg e]
    obtain ⟨h3, h4⟩ := h j hj
    refine ⟨fun hf => ?_, fun v hv => ?_⟩
    · rw [Maps.has_del_other hne]; exact h3 hf
    · rw [Maps.has_del_other hne]; exact ⟨(h4 v hv).1, fun z => by rw [Maps.atKey_del_other hne]; exact (h4 v hv).2 z⟩

/-- A field's method. -/
def fnOf (n : Int) : Option Value :=
  if n = 0 then some (.func (.func 55) #[] #[])
  else if n = 1 then some (.func (.func 56) #[] #[])
  else if n = 4 then some (.func (.func 57) #[] #[])
  else if n = 15 then some (.func (.func 58) #[] #[])
  else if n = 16 then some (.func (.func 59) #[] #[])
  else if n = 17 then some (.func (.func 60) #[] #[])
  else none
theorem fn_tk {n : Int} {v : Value} (h : fnOf n = some v) : ∃ F, v = .func (.func F) #[] #[] ∧ Tk F n ∧ n ≤ 17 := by
  unfold fnOf at h
  split at h
  · rename_i e; subst e; cases h
    exact ⟨_, rfl, ⟨enterp Tryd.func55 (by kernel_rfl) (by kernel_rfl), does_goal⟩, by omega⟩
  split at h
  · rename_i e; subst e; cases h
    exact ⟨_, rfl, ⟨enterp Tryd.func56 (by kernel_rfl) (by kernel_rfl), does_idle⟩, by omega⟩
  split at h
  · rename_i e; subst e; cases h
    exact ⟨_, rfl, ⟨enterp Tryd.func57 (by kernel_rfl) (by kernel_rfl), does_data⟩, by omega⟩
  split at h
  · rename_i e; subst e; cases h
    exact ⟨_, rfl, ⟨enterp Tryd.func58 (by kernel_rfl) (by kernel_rfl), does_own⟩, by omega⟩
  split at h
  · rename_i e; subst e; cases h
    exact ⟨_, rfl, ⟨enterp Tryd.func59 (by kernel_rfl) (by kernel_rfl), does_retry⟩, by omega⟩
  split at h
  · rename_i e; subst e; cases h
    exact ⟨_, rfl, ⟨enterp Tryd.func60 (by kernel_rfl) (by kernel_rfl), does_versions⟩, by omega⟩
  · cases h
theorem fn_none {n : Int} (h : fnOf n = none) (p : Pv) (v : List Int) : putP p n v = none := by
  unfold fnOf at h
  unfold putP
  split at h
  · cases h
  · split at h
    · cases h
    · split at h
      · cases h
      · split at h
        · cases h
        · split at h
          · cases h
          · split at h
            · cases h
            · simp_all
theorem MapF.ext {w : World} {mb n : Nat} {f g : Int → Option Value} (h : MapF w mb n f) (e : ∀ k, f k = g k) : MapF w mb n g := by
  have : f = g := funext e
  rw [← this]; exact h
theorem made_run (w : World) : (Instr.makeMap 73 none).run Tryd.prog w = .ok (.map (some w.heap.size)) (w.alloc (.map #[] 0)) := by kernel_rfl
set_option maxRecDepth 20000 in
set_option maxHeartbeats 2000000 in
theorem takers_any (w : World) : Calls Tryd.prog 48 #[] w fun e w' => e = .returned (.map (some w.heap.size)) ∧ MapF w' w.heap.size 6 fnOf ∧ Below w.heap.size w w' := by
  have hm := made_run w
  have m0 := MapF.made w
  have b0 := below_alloc w (.map #[] 0)
  obtain ⟨w1, r1, m1, g1⟩ := m0.update (by unfold maxLen; omega) (wfM (k := 0) (by omega) (by omega)) (.func 55) #[] #[]
  obtain ⟨w2, r2, m2, g2⟩ := m1.update (by unfold maxLen; omega) (wfM (k := 1) (by omega) (by omega)) (.func 56) #[] #[]
  obtain ⟨w3, r3, m3, g3⟩ := m2.update (by unfold maxLen; omega) (wfM (k := 4) (by omega) (by omega)) (.func 57) #[] #[]
  obtain ⟨w4, r4, m4, g4⟩ := m3.update (by unfold maxLen; omega) (wfM (k := 15) (by omega) (by omega)) (.func 58) #[] #[]
  obtain ⟨w5, r5, m5, g5⟩ := m4.update (by unfold maxLen; omega) (wfM (k := 16) (by omega) (by omega)) (.func 59) #[] #[]
  obtain ⟨w6, r6, m6, g6⟩ := m5.update (by unfold maxLen; omega) (wfM (k := 17) (by omega) (by omega)) (.func 60) #[] #[]
  have one : ∀ k, some w.heap.size = some k → w.heap.size ≤ k := fun k e => by cases e; exact Nat.le_refl _
  have b1 := b0.grown g1 b0.size one
  have b2 := b1.grown g2 b1.size one
  have b3 := b2.grown g3 b2.size one
  have b4 := b3.grown g4 b3.size one
  have b5 := b4.grown g5 b4.size one
  have b6 := b5.grown g6 b5.size one
  have HM := Lib.hid m6
  have HB := Lib.hid b6
  clear m0 m1 m2 m3 m4 m5 m6 b0 b1 b2 b3 b4 b5 b6 g1 g2 g3 g4 g5 g6 one
  go_enter Tryd.func48, Tryd.ntmps48
  go_wp2_with fail
  go_ret
  refine ⟨rfl, (HM.out).ext fun k => ?_, HB.out⟩
  unfold fnOf
  by_cases h0 : k = 0
  · subst h0; simp
  by_cases h1 : k = 1
  · subst h1; simp
  by_cases h4 : k = 4
  · subst h4; simp
  by_cases h15 : k = 15
  · subst h15; simp
  by_cases h16 : k = 16
  · subst h16; simp
  by_cases h17 : k = 17
  · subst h17; simp
  · simp [h0, h1, h4, h15, h16, h17]
#print axioms takers_any
end Go.Proofs.YtmglhlfjddgllaaDoor
