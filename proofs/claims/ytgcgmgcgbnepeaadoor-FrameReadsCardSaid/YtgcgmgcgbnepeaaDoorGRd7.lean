/- frame.Read: a map of bound methods, told place by place; bodies. -/
import Derived.Test.YtgcgmgcgbnepeaaDoorGRd6
import Derived.Maps.Own
import Derived.Maps.OwnSet
namespace Go.Proofs.YtgcgmgcgbnepeaaDoor
open Go Go.RowKit
open Go.Maps (Keyed)

theorem keyM : Keyed Tryd.prog 3 := Go.Maps.int_keyed Tryd.underlying3
theorem keyOfM {k : Int} (h : (Lit.int .i64 k).wf = true) : keyOf Tryd.prog 3 (.int .i64 k) = some (.int .i64 k) := by
  simp [keyOf, Tryd.underlying3, mapKey, h]
theorem wfM {k : Int} (h0 : 0 ≤ k) (h1 : k ≤ 9223372036854775807) : (Lit.int .i64 k).wf = true := by
  simp [Lit.wf, IntKind.min, IntKind.max, IntKind.bits, IntKind.signed]; omega
/-- A function among the map's elements is told by itself. -/
def fR (v : Value) : Option (DataW Value × List MemPlace) :=
  match v with
  | .func _ _ _ => some (.held v, [])
  | .nilFunc => some (.held v, [])
  | _ => none
theorem fR_func (f : Fn) (a c : Array Value) : fR (.func f a c) = some (.held (.func f a c), []) := rfl
theorem fR_inv {v : Value} {y : DataW Value × List MemPlace} (h : fR v = some y) : y = (.held v, []) := by
  cases v <;> simp [fR] at h <;> exact h.symm
theorem zeroF (w : World) : (zeroValue 1).run Tryd.prog w = .ok .nilFunc w := by kernel_rfl
/-- What the map's datum says of f. -/
def SaysF (D : DataW Value) (f : Int → Option Value) : Prop := ∀ k, (Lit.int .i64 k).wf = true → (f k = none → Maps.has D (.int .i64 k) = false) ∧ ∀ v, f k = some v → Maps.has D (.int .i64 k) = true ∧ ∀ z, D.atKey (.int .i64 k) z = .held v
/-- Block mb is a map of at most n entries that holds f's values at their keys, and nothing else. -/
def MapF (w : World) (mb n : Nat) (f : Int → Option Value) : Prop := ∃ D : DataW Value, w.ownsMap Tryd.prog 3 fR mb n D ∧ SaysF D f
theorem MapF.made (w : World) : MapF (w.alloc (.map #[] 0)) w.heap.size 0 (fun _ => none) :=
  ⟨.map [], World.ownsMap_made _ _ _ _, fun k _ => ⟨fun _ => rfl, fun v h => by cases h⟩⟩
theorem MapF.lt {w : World} {mb n : Nat} {f : Int → Option Value} (h : MapF w mb n f) : mb < w.heap.size := by
  obtain ⟨D, h1, _⟩ := h; exact h1.lt
theorem MapF.keep {w w' : World} {mb n : Nat} {f : Int → Option Value} (h : MapF w mb n f) (e : w'.heap[mb]? = w.heap[mb]?) : MapF w' mb n f := by
  obtain ⟨D, ⟨es, clock, hb, r⟩, h2⟩ := h
  exact ⟨D, ⟨es, clock, by rw [e]; exact hb, r⟩, h2⟩
theorem MapF.below {w w' : World} {mb n : Nat} {f : Int → Option Value} (h : MapF w mb n f) (hb : Below w.heap.size w w') : MapF w' mb n f := h.keep (hb.block mb h.lt)
theorem MapF.mono {w : World} {mb n n' : Nat} {f : Int → Option Value} (h : MapF w mb n f) (hn : n ≤ n') : MapF w mb n' f := by
  obtain ⟨D, h1, h2⟩ := h
  exact ⟨D, h1.mono hn, h2⟩
/-- A look-up, and whether it is there. -/
theorem MapF.look {w : World} {mb n : Nat} {f : Int → Option Value} (h : MapF w mb n f) {k : Int} (hk : (Lit.int .i64 k).wf = true) :
    (Instr.lookup 80 (.map (some mb)) (.int .i64 k) true).run Tryd.prog w = .ok (.tuple #[(f k).getD .nilFunc, .bool (f k).isSome]) w := by
  obtain ⟨D, h1, h2⟩ := h
  obtain ⟨h3, h4⟩ := h2 k hk
  obtain ⟨v, q, hrun, hv⟩ := h1.look_ok keyM Tryd.underlying80 (zeroF w) (show fR .nilFunc = some (.held .nilFunc, []) from rfl) (keyOfM hk)
  have e := fR_inv hv
  simp only [Prod.mk.injEq] at e
  rw [hrun]
  cases hf : f k with
  | none =>
    rw [Maps.atKey_of_not_has (h3 hf)] at e
    simp only [DataW.held.injEq] at e
    rw [← e.1, h3 hf]; rfl
  | some u =>
    rw [(h4 u hf).2] at e
    simp only [DataW.held.injEq] at e
    rw [← e.1, (h4 u hf).1]; rfl
/-- A store. -/
theorem MapF.update {w : World} {mb n : Nat} {f : Int → Option Value} (h : MapF w mb n f) (hn : n < maxLen) {k : Int} (hk : (Lit.int .i64 k).wf = true) (g : Fn) (a c : Array Value) :
    ∃ w', (Instr.mapUpdate 80 (.map (some mb)) (.int .i64 k) (.func g a c)).run Tryd.prog w = .ok () w' ∧ MapF w' mb (n + 1) (fun j => if j = k then some (.func g a c) else f j) ∧ w.grownBy w' (some mb) := by
  obtain ⟨D, h1, h2⟩ := h
  obtain ⟨w', hrun, hw, hg⟩ := h1.update keyM Tryd.underlying80 hn (keyOfM hk) (fR_func g a c)
  refine ⟨w', hrun, ⟨_, hw, fun j hj => ?_⟩, hg⟩
  by_cases e : j = k
  · subst e
    dsimp only
    rw [if_pos rfl]
    refine ⟨(fun h => by cases h), fun v hv => ?_⟩
    cases hv
    exact ⟨Maps.has_put_same h1.isMap (keyM.key (keyOfM hj)) _, fun z => Maps.atKey_put_same h1.isMap (keyM.key (keyOfM hj)) _ _⟩
  · have hne : (Lit.int IntKind.i64 j) ≠ .int .i64 k := fun h => e (by cases h; rfl)
    dsimp only
    rw [if_neg e]
    obtain ⟨h3, h4⟩ := h2 j hj
    refine ⟨fun hf => ?_, fun v hv => ?_⟩
    · rw [Maps.has_put_other hne]; exact h3 hf
    · rw [Maps.has_put_other hne]; exact ⟨(h4 v hv).1, fun z => by rw [Maps.atKey_put_other hne]; exact (h4 v hv).2 z⟩
/-- A delete. -/
theorem MapF.drop {w : World} {mb n : Nat} {f : Int → Option Value} (h : MapF w mb n f) {k : Int} (hk : (Lit.int .i64 k).wf = true) (ty : TypeId) :
    ∃ w', (Builtin.delete_ #[80, 3] ty #[.map (some mb), .int .i64 k]).run Tryd.prog w = .ok (.tuple #[]) w' ∧ MapF w' mb n (fun j => if j = k then none else f j) ∧ w.grownBy w' (some mb) := by
  obtain ⟨D, h1, h2⟩ := h
  obtain ⟨w', hrun, hw, hg⟩ := h1.drop keyM Tryd.underlying80 (keyOfM hk) ty
  refine ⟨w', hrun, ⟨_, hw, fun j hj => ?_⟩, hg.grown⟩
  by_cases e : j = k
  · subst e
    dsimp only
    rw [if_pos rfl]
    exact ⟨fun _ => Maps.has_del_same, fun v hv => by cases hv⟩
  · have hne : (Lit.int IntKind.i64 j) ≠ .int .i64 k := fun h => e (by cases h; rfl)
    dsimp only
    rw [if_neg e]
    obtain ⟨h3, h4⟩ := h2 j hj
    refine ⟨fun hf => ?_, fun v hv => ?_⟩
    · rw [Maps.has_del_other hne]; exact h3 hf
    · rw [Maps.has_del_other hne]; exact ⟨(h4 v hv).1, fun z => by rw [Maps.atKey_del_other hne]; exact (h4 v hv).2 z⟩
theorem SaysF.del {D : DataW Value} {f : Int → Option Value} (h : SaysF D f) (k : Int) : SaysF (D.del (.int .i64 k)) (fun j => if j = k then none else f j) := fun j hj => by
  by_cases e : j = k
  · subst e
    dsimp only
    rw [if_pos rfl]
    exact ⟨fun _ => Maps.has_del_same, fun v hv => by cases hv⟩
  · have hne : (Lit.int IntKind.i64 j) ≠ .int .i64 k := fun h => e (by cases h; rfl)
    dsimp only
    rw [if_neg e]
    obtain ⟨h3, h4⟩ := h j hj
    refine ⟨fun hf => ?_, fun v hv => ?_⟩
    · rw [Maps.has_del_other hne]; exact h3 hf
    · rw [Maps.has_del_other hne]; exact ⟨(h4 v hv).1, fun z => by rw [Maps.atKey_del_other hne]; exact (h4 v hv).2 z⟩

theorem MapF.ext {w : World} {mb n : Nat} {f g : Int → Option Value} (h : MapF w mb n f) (e : ∀ k, f k = g k) : MapF w mb n g := by
  have : f = g := funext e
  rw [← this]; exact h
theorem made_run (w : World) : (Instr.makeMap 80 none).run Tryd.prog w = .ok (.map (some w.heap.size)) (w.alloc (.map #[] 0)) := by kernel_rfl

/-- A kind's method, bound to the reader in R. -/
def fnOf (R : Nat) (n : Int) : Option Value :=
  if n = 0 then some (.func (.func 52) #[.pointer (some ⟨R, 0, none⟩)] #[])
  else if n = 1 then some (.func (.func 53) #[.pointer (some ⟨R, 0, none⟩)] #[])
  else if n = 2 then some (.func (.func 54) #[.pointer (some ⟨R, 0, none⟩)] #[])
  else if n = 6 then some (.func (.func 55) #[.pointer (some ⟨R, 0, none⟩)] #[])
  else if n = 7 then some (.func (.func 56) #[.pointer (some ⟨R, 0, none⟩)] #[])
  else if n = 8 then some (.func (.func 57) #[.pointer (some ⟨R, 0, none⟩)] #[])
  else if n = 28 then some (.func (.func 58) #[.pointer (some ⟨R, 0, none⟩)] #[])
  else if n = 30 then some (.func (.func 53) #[.pointer (some ⟨R, 0, none⟩)] #[])
  else none
/-- A method that can be called, and takes the body of kind n. -/
structure Gm (F : Nat) (n : Int) : Prop where
  ent : ∀ (args : Array Value) (w : World), (callFunc F args).run Tryd.prog w = .ok (.enter F args) w
  does : ∀ (zs : List Int) (t : Nat) (w0 w : World) (R B lo : Nat), lo = w.heap.size → Gst zs n t w0 w R B lo → Calls Tryd.prog F #[.pointer (some ⟨R, 0, none⟩)] w (Gtk zs n t w0 w R B lo)
theorem fn_gm {R : Nat} {n : Int} {v : Value} (h : fnOf R n = some v) : ∃ F, v = .func (.func F) #[.pointer (some ⟨R, 0, none⟩)] #[] ∧ Gm F n := by
  unfold fnOf at h
  split at h
  · rename_i e; subst e; cases h
    exact ⟨_, rfl, ⟨enterp Tryd.func52 (by kernel_rfl) (by kernel_rfl), fun _ _ _ _ _ _ _ _ h => does_padding h⟩⟩
  split at h
  · rename_i e; subst e; cases h
    exact ⟨_, rfl, ⟨enterp Tryd.func53 (by kernel_rfl) (by kernel_rfl), fun _ _ _ _ _ _ _ _ h => does_nothing (.inl rfl) h⟩⟩
  split at h
  · rename_i e; subst e; cases h
    exact ⟨_, rfl, ⟨enterp Tryd.func54 (by kernel_rfl) (by kernel_rfl), fun _ _ _ _ _ _ _ hl h => does_ack hl h⟩⟩
  split at h
  · rename_i e; subst e; cases h
    exact ⟨_, rfl, ⟨enterp Tryd.func55 (by kernel_rfl) (by kernel_rfl), fun _ _ _ _ _ _ _ _ h => does_crypto h⟩⟩
  split at h
  · rename_i e; subst e; cases h
    exact ⟨_, rfl, ⟨enterp Tryd.func56 (by kernel_rfl) (by kernel_rfl), fun _ _ _ _ _ _ _ _ h => does_token h⟩⟩
  split at h
  · rename_i e; subst e; cases h
    exact ⟨_, rfl, ⟨enterp Tryd.func57 (by kernel_rfl) (by kernel_rfl), fun _ _ _ _ _ _ _ _ h => does_data h⟩⟩
  split at h
  · rename_i e; subst e; cases h
    exact ⟨_, rfl, ⟨enterp Tryd.func58 (by kernel_rfl) (by kernel_rfl), fun _ _ _ _ _ _ _ _ h => does_close h⟩⟩
  split at h
  · rename_i e; subst e; cases h
    exact ⟨_, rfl, ⟨enterp Tryd.func53 (by kernel_rfl) (by kernel_rfl), fun _ _ _ _ _ _ _ _ h => does_nothing (.inr rfl) h⟩⟩
  · cases h
theorem fn_none {R : Nat} {n : Int} (h : fnOf R n = none) (zs : List Int) (t : Nat) : gBody zs n t = none := by
  unfold fnOf at h
  unfold gBody
  by_cases h0 : n = 0
  · simp [h0] at h
  by_cases h1 : n = 1
  · simp [h1] at h
  by_cases h2 : n = 2
  · simp [h2] at h
  by_cases h6 : n = 6
  · simp [h6] at h
  by_cases h7 : n = 7
  · simp [h7] at h
  by_cases h8 : n = 8
  · simp [h8] at h
  by_cases h28 : n = 28
  · simp [h28] at h
  by_cases h30 : n = 30
  · simp [h30] at h
  simp [h0, h1, h2, h6, h7, h8, h28, h30]
set_option maxRecDepth 20000 in
set_option maxHeartbeats 2000000 in
theorem bodies_any (w : World) (R : Nat) : Calls Tryd.prog 44 #[.pointer (some ⟨R, 0, none⟩)] w fun e w' => e = .returned (.map (some w.heap.size)) ∧ MapF w' w.heap.size 8 (fnOf R) ∧ Below w.heap.size w w' := by
  have hm := made_run w
  have m0 := MapF.made w
  have b0 := below_alloc w (.map #[] 0)
  obtain ⟨w1, r1, m1, g1⟩ := m0.update (by unfold maxLen; omega) (wfM (k := 0) (by omega) (by omega)) (.func 52) #[.pointer (some ⟨R, 0, none⟩)] #[]
  obtain ⟨w2, r2, m2, g2⟩ := m1.update (by unfold maxLen; omega) (wfM (k := 1) (by omega) (by omega)) (.func 53) #[.pointer (some ⟨R, 0, none⟩)] #[]
  obtain ⟨w3, r3, m3, g3⟩ := m2.update (by unfold maxLen; omega) (wfM (k := 2) (by omega) (by omega)) (.func 54) #[.pointer (some ⟨R, 0, none⟩)] #[]
  obtain ⟨w4, r4, m4, g4⟩ := m3.update (by unfold maxLen; omega) (wfM (k := 6) (by omega) (by omega)) (.func 55) #[.pointer (some ⟨R, 0, none⟩)] #[]
  obtain ⟨w5, r5, m5, g5⟩ := m4.update (by unfold maxLen; omega) (wfM (k := 7) (by omega) (by omega)) (.func 56) #[.pointer (some ⟨R, 0, none⟩)] #[]
  obtain ⟨w6, r6, m6, g6⟩ := m5.update (by unfold maxLen; omega) (wfM (k := 8) (by omega) (by omega)) (.func 57) #[.pointer (some ⟨R, 0, none⟩)] #[]
  obtain ⟨w7, r7, m7, g7⟩ := m6.update (by unfold maxLen; omega) (wfM (k := 28) (by omega) (by omega)) (.func 58) #[.pointer (some ⟨R, 0, none⟩)] #[]
  obtain ⟨w8, r8, m8, g8⟩ := m7.update (by unfold maxLen; omega) (wfM (k := 30) (by omega) (by omega)) (.func 53) #[.pointer (some ⟨R, 0, none⟩)] #[]
  have one : ∀ k, some w.heap.size = some k → w.heap.size ≤ k := fun k e => by cases e; exact Nat.le_refl _
  have b1 := b0.grown g1 b0.size one
  have b2 := b1.grown g2 b1.size one
  have b3 := b2.grown g3 b2.size one
  have b4 := b3.grown g4 b3.size one
  have b5 := b4.grown g5 b4.size one
  have b6 := b5.grown g6 b5.size one
  have b7 := b6.grown g7 b6.size one
  have b8 := b7.grown g8 b7.size one
  have HM := Lib.hid m8
  have HB := Lib.hid b8
  clear m0 m1 m2 m3 m4 m5 m6 m7 m8 b0 b1 b2 b3 b4 b5 b6 b7 b8 g1 g2 g3 g4 g5 g6 g7 g8 one
  go_enter Tryd.func44, Tryd.ntmps44
  go_wp2_with fail
  go_ret
  refine ⟨rfl, (HM.out).ext fun k => ?_, HB.out⟩
  unfold fnOf
  by_cases h0 : k = 0
  · subst h0; simp
  by_cases h1 : k = 1
  · subst h1; simp
  by_cases h2 : k = 2
  · subst h2; simp
  by_cases h6 : k = 6
  · subst h6; simp
  by_cases h7 : k = 7
  · subst h7; simp
  by_cases h8 : k = 8
  · subst h8; simp
  by_cases h28 : k = 28
  · subst h28; simp
  by_cases h30 : k = 30
  · subst h30; simp
  simp [h0, h1, h2, h6, h7, h8, h28, h30]
#print axioms bodies_any
end Go.Proofs.YtgcgmgcgbnepeaaDoor
