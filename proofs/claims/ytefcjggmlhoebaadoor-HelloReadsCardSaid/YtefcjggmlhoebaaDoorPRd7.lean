/- params.Read: what holds in its loop over the fields. -/
import Derived.Test.YtefcjggmlhoebaaDoorPRd4
import Derived.Test.YtefcjggmlhoebaaDoorPRd5
import Derived.Maps.Own
import Derived.Maps.OwnSet
import Derived.Maps.RangeWalk
namespace Go.Proofs.YtefcjggmlhoebaaDoor
open Go Go.RowKit
open Go.Maps (Keyed)

theorem keyMP : Keyed Tryd.prog 3 := Go.Maps.int_keyed Tryd.underlying3
theorem keyOfMP {k : Int} (h : (Lit.int .i64 k).wf = true) : keyOf Tryd.prog 3 (.int .i64 k) = some (.int .i64 k) := by
  simp [keyOf, Tryd.underlying3, mapKey, h]
theorem wfMP {k : Int} (h0 : 0 ≤ k) (h1 : k ≤ 9223372036854775807) : (Lit.int .i64 k).wf = true := by
  simp [Lit.wf, IntKind.min, IntKind.max, IntKind.bits, IntKind.signed]; omega
/-- A function among the map's elements is told by itself. -/
def fRP (v : Value) : Option (DataW Value × List MemPlace) :=
  match v with
  | .func _ _ _ => some (.held v, [])
  | .nilFunc => some (.held v, [])
  | _ => none
theorem fR_funcP (f : Fn) (a c : Array Value) : fRP (.func f a c) = some (.held (.func f a c), []) := rfl
theorem fR_invP {v : Value} {y : DataW Value × List MemPlace} (h : fRP v = some y) : y = (.held v, []) := by
  cases v <;> simp [fRP] at h <;> exact h.symm
theorem zeroFP (w : World) : (zeroValue 112).run Tryd.prog w = .ok .nilFunc w := by kernel_rfl
/-- What the map's datum says of f. -/
def SaysFP (D : DataW Value) (f : Int → Option Value) : Prop := ∀ k, (Lit.int .i64 k).wf = true → (f k = none → Maps.has D (.int .i64 k) = false) ∧ ∀ v, f k = some v → Maps.has D (.int .i64 k) = true ∧ ∀ z, D.atKey (.int .i64 k) z = .held v
/-- Block mb is a map of at most n entries that holds f's values at their keys, and nothing else. -/
def MapFP (w : World) (mb n : Nat) (f : Int → Option Value) : Prop := ∃ D : DataW Value, w.ownsMap Tryd.prog 3 fRP mb n D ∧ SaysFP D f
theorem MapFP.made (w : World) : MapFP (w.alloc (.map #[] 0)) w.heap.size 0 (fun _ => none) :=
  ⟨.map [], World.ownsMap_made _ _ _ _, fun k _ => ⟨fun _ => rfl, fun v h => by cases h⟩⟩
theorem MapFP.lt {w : World} {mb n : Nat} {f : Int → Option Value} (h : MapFP w mb n f) : mb < w.heap.size := by
  obtain ⟨D, h1, _⟩ := h; exact h1.lt
theorem MapFP.keep {w w' : World} {mb n : Nat} {f : Int → Option Value} (h : MapFP w mb n f) (e : w'.heap[mb]? = w.heap[mb]?) : MapFP w' mb n f := by
  obtain ⟨D, ⟨es, clock, hb, r⟩, h2⟩ := h
  exact ⟨D, ⟨es, clock, by rw [e]; exact hb, r⟩, h2⟩
theorem MapFP.below {w w' : World} {mb n : Nat} {f : Int → Option Value} (h : MapFP w mb n f) (hb : Below w.heap.size w w') : MapFP w' mb n f := h.keep (hb.block mb h.lt)
theorem MapFP.mono {w : World} {mb n n' : Nat} {f : Int → Option Value} (h : MapFP w mb n f) (hn : n ≤ n') : MapFP w mb n' f := by
  obtain ⟨D, h1, h2⟩ := h
  exact ⟨D, h1.mono hn, h2⟩
/-- A look-up, and whether it is there. -/
theorem MapFP.look {w : World} {mb n : Nat} {f : Int → Option Value} (h : MapFP w mb n f) {k : Int} (hk : (Lit.int .i64 k).wf = true) :
    (Instr.lookup 110 (.map (some mb)) (.int .i64 k) true).run Tryd.prog w = .ok (.tuple #[(f k).getD .nilFunc, .bool (f k).isSome]) w := by
  obtain ⟨D, h1, h2⟩ := h
  obtain ⟨h3, h4⟩ := h2 k hk
  obtain ⟨v, q, hrun, hv⟩ := h1.look_ok keyMP Tryd.underlying110 (zeroFP w) (show fRP .nilFunc = some (.held .nilFunc, []) from rfl) (keyOfMP hk)
  have e := fR_invP hv
  simp only [Prod.mk.injEq] at e
  rw [hrun]
  cases hf : f k with
  | none =>
    rw [Maps.atKey_of_not_has (h3 hf)] at e
    simp only [DataW.held.injEq] at e
    rw [← e.1, h3 hf]; rfl
  | some u =>
    rw [(h4 u hf).2] at e
    simp only [DataW.held.injEq] at e
    rw [← e.1, (h4 u hf).1]; rfl
/-- A store. -/
theorem MapFP.update {w : World} {mb n : Nat} {f : Int → Option Value} (h : MapFP w mb n f) (hn : n < maxLen) {k : Int} (hk : (Lit.int .i64 k).wf = true) (g : Fn) (a c : Array Value) :
    ∃ w', (Instr.mapUpdate 110 (.map (some mb)) (.int .i64 k) (.func g a c)).run Tryd.prog w = .ok () w' ∧ MapFP w' mb (n + 1) (fun j => if j = k then some (.func g a c) else f j) ∧ w.grownBy w' (some mb) := by
  obtain ⟨D, h1, h2⟩ := h
  obtain ⟨w', hrun, hw, hg⟩ := h1.update keyMP Tryd.underlying110 hn (keyOfMP hk) (fR_funcP g a c)
  refine ⟨w', hrun, ⟨_, hw, fun j hj => ?_⟩, hg⟩
  by_cases e : j = k
  · subst e
    dsimp only
    rw [if_pos rfl]
    refine ⟨(fun h => by cases h), fun v hv => ?_⟩
    cases hv
    exact ⟨Maps.has_put_same h1.isMap (keyMP.key (keyOfMP hj)) _, fun z => Maps.atKey_put_same h1.isMap (keyMP.key (keyOfMP hj)) _ _⟩
  · have hne : (Lit.int IntKind.i64 j) ≠ .int .i64 k := fun h => e (by cases h; rfl)
    dsimp only
    rw [if_neg e]
    obtain ⟨h3, h4⟩ := h2 j hj
    refine ⟨fun hf => ?_, fun v hv => ?_⟩
    · rw [Maps.has_put_other hne]; exact h3 hf
    · rw [Maps.has_put_other hne]; exact ⟨(h4 v hv).1, fun z => by rw [Maps.atKey_put_other hne]; exact (h4 v hv).2 z⟩
/-- A delete. -/
theorem MapFP.drop {w : World} {mb n : Nat} {f : Int → Option Value} (h : MapFP w mb n f) {k : Int} (hk : (Lit.int .i64 k).wf = true) (ty : TypeId) :
    ∃ w', (Builtin.delete_ #[110, 3] ty #[.map (some mb), .int .i64 k]).run Tryd.prog w = .ok (.tuple #[]) w' ∧ MapFP w' mb n (fun j => if j = k then none else f j) ∧ w.grownBy w' (some mb) := by
  obtain ⟨D, h1, h2⟩ := h
  obtain ⟨w', hrun, hw, hg⟩ := h1.drop keyMP Tryd.underlying110 (keyOfMP hk) ty
  refine ⟨w', hrun, ⟨_, hw, fun j hj => ?_⟩, hg.grown⟩
  by_cases e : j = k
  · subst e
    dsimp only
    rw [if_pos rfl]
    exact ⟨fun _ => Maps.has_del_same, fun v hv => by cases hv⟩
  · have hne : (Lit.int IntKind.i64 j) ≠ .int .i64 k := fun h => e (by cases h; rfl)
    dsimp only
    rw [if_neg e]
    obtain ⟨h3, h4⟩ := h2 j hj
    refine ⟨fun hf => ?_, fun v hv => ?_⟩
    · rw [Maps.has_del_other hne]; exact h3 hf
    · rw [Maps.has_del_other hne]; exact ⟨(h4 v hv).1, fun z => by rw [Maps.atKey_del_other hne]; exact (h4 v hv).2 z⟩
theorem SaysFP.del {D : DataW Value} {f : Int → Option Value} (h : SaysFP D f) (k : Int) : SaysFP (D.del (.int .i64 k)) (fun j => if j = k then none else f j) := fun j hj => by
  by_cases e : j = k
  · subst e
    dsimp only
    rw [if_pos rfl]
    exact ⟨fun _ => Maps.has_del_same, fun v hv => by cases hv⟩
  · have hne : (Lit.int IntKind.i64 j) ≠ .int .i64 k := fun h => e (by cases h; rfl)
    dsimp only
    rw [if_neg e]
    obtain ⟨h3, h4⟩ := h j hj
    refine ⟨fun hf => ?_, fun v hv => ?_⟩
    · rw [Maps.has_del_other hne]; exact h3 hf
    · rw [Maps.has_del_other hne]; exact ⟨(h4 v hv).1, fun z => by rw [Maps.atKey_del_other hne]; exact (h4 v hv).2 z⟩

/-- A field's method. -/
def fnOfP (n : Int) : Option Value :=
  if n = 0 then some (.func (.func 93) #[] #[])
  else if n = 1 then some (.func (.func 94) #[] #[])
  else if n = 4 then some (.func (.func 95) #[] #[])
  else if n = 15 then some (.func (.func 96) #[] #[])
  else if n = 16 then some (.func (.func 97) #[] #[])
  else if n = 17 then some (.func (.func 98) #[] #[])
  else none
theorem fn_tk {n : Int} {v : Value} (h : fnOfP n = some v) : ∃ F, v = .func (.func F) #[] #[] ∧ Tk F n ∧ n ≤ 17 := by
  unfold fnOfP at h
  split at h
  · rename_i e; subst e; cases h
    exact ⟨_, rfl, ⟨enterpP Tryd.func93 (by kernel_rfl) (by kernel_rfl), does_goal⟩, by omega⟩
  split at h
  · rename_i e; subst e; cases h
    exact ⟨_, rfl, ⟨enterpP Tryd.func94 (by kernel_rfl) (by kernel_rfl), does_idle⟩, by omega⟩
  split at h
  · rename_i e; subst e; cases h
    exact ⟨_, rfl, ⟨enterpP Tryd.func95 (by kernel_rfl) (by kernel_rfl), does_data⟩, by omega⟩
  split at h
  · rename_i e; subst e; cases h
    exact ⟨_, rfl, ⟨enterpP Tryd.func96 (by kernel_rfl) (by kernel_rfl), does_own⟩, by omega⟩
  split at h
  · rename_i e; subst e; cases h
    exact ⟨_, rfl, ⟨enterpP Tryd.func97 (by kernel_rfl) (by kernel_rfl), does_retry⟩, by omega⟩
  split at h
  · rename_i e; subst e; cases h
    exact ⟨_, rfl, ⟨enterpP Tryd.func98 (by kernel_rfl) (by kernel_rfl), does_versions⟩, by omega⟩
  · cases h
theorem fn_noneP {n : Int} (h : fnOfP n = none) (p : Pv) (v : List Int) : putP p n v = none := by
  unfold fnOfP at h
  unfold putP
  split at h
  · cases h
  · split at h
    · cases h
    · split at h
      · cases h
      · split at h
        · cases h
        · split at h
          · cases h
          · split at h
            · cases h
            · simp_all
theorem MapFP.ext {w : World} {mb n : Nat} {f g : Int → Option Value} (h : MapFP w mb n f) (e : ∀ k, f k = g k) : MapFP w mb n g := by
  have : f = g := funext e
  rw [← this]; exact h
theorem made_runP (w : World) : (Instr.makeMap 110 none).run Tryd.prog w = .ok (.map (some w.heap.size)) (w.alloc (.map #[] 0)) := by kernel_rfl
set_option maxRecDepth 20000 in
set_option maxHeartbeats 2000000 in
theorem takers_any (w : World) : Calls Tryd.prog 82 #[] w fun e w' => e = .returned (.map (some w.heap.size)) ∧ MapFP w' w.heap.size 6 fnOfP ∧ Below w.heap.size w w' := by
  have hm := made_runP w
  have m0 := MapFP.made w
  have b0 := below_alloc w (.map #[] 0)
  obtain ⟨w1, r1, m1, g1⟩ := m0.update (by unfold maxLen; omega) (wfMP (k := 0) (by omega) (by omega)) (.func 93) #[] #[]
  obtain ⟨w2, r2, m2, g2⟩ := m1.update (by unfold maxLen; omega) (wfMP (k := 1) (by omega) (by omega)) (.func 94) #[] #[]
  obtain ⟨w3, r3, m3, g3⟩ := m2.update (by unfold maxLen; omega) (wfMP (k := 4) (by omega) (by omega)) (.func 95) #[] #[]
  obtain ⟨w4, r4, m4, g4⟩ := m3.update (by unfold maxLen; omega) (wfMP (k := 15) (by omega) (by omega)) (.func 96) #[] #[]
  obtain ⟨w5, r5, m5, g5⟩ := m4.update (by unfold maxLen; omega) (wfMP (k := 16) (by omega) (by omega)) (.func 97) #[] #[]
  obtain ⟨w6, r6, m6, g6⟩ := m5.update (by unfold maxLen; omega) (wfMP (k := 17) (by omega) (by omega)) (.func 98) #[] #[]
  have one : ∀ k, some w.heap.size = some k → w.heap.size ≤ k := fun k e => by cases e; exact Nat.le_refl _
  have b1 := b0.grown g1 b0.size one
  have b2 := b1.grown g2 b1.size one
  have b3 := b2.grown g3 b2.size one
  have b4 := b3.grown g4 b3.size one
  have b5 := b4.grown g5 b4.size one
  have b6 := b5.grown g6 b5.size one
  have HM := Lib.hid m6
  have HB := Lib.hid b6
  clear m0 m1 m2 m3 m4 m5 m6 b0 b1 b2 b3 b4 b5 b6 g1 g2 g3 g4 g5 g6 one
  go_enter Tryd.func82, Tryd.ntmps82
  go_wp2_with fail
  go_ret
  refine ⟨rfl, (HM.out).ext fun k => ?_, HB.out⟩
  unfold fnOfP
  by_cases h0 : k = 0
  · subst h0; simp
  by_cases h1 : k = 1
  · subst h1; simp
  by_cases h4 : k = 4
  · subst h4; simp
  by_cases h15 : k = 15
  · subst h15; simp
  by_cases h16 : k = 16
  · subst h16; simp
  by_cases h17 : k = 17
  · subst h17; simp
  · simp [h0, h1, h4, h15, h16, h17]
#print axioms takers_any
end Go.Proofs.YtefcjggmlhoebaaDoor
namespace Go.Proofs.YtefcjggmlhoebaaDoor
open Go Go.RowKit

theorem rf_nil (k : Nat) (last : Int) (m : Nat) (p : Pv) : readF k last m p [] = some (p, m) := readF_nil k last m p
theorem rf_cut {k : Nat} {last : Int} {m : Nat} {p : Pv} {zs : List Int} (hz : 0 < zs.length) (h : cutP zs = none) : readF k last m p zs = none := by
  cases zs with
  | nil => simp at hz
  | cons z r =>
    cases k with
    | zero => rfl
    | succ k => simp only [readF, h]
theorem rf_low {k : Nat} {last : Int} {m : Nat} {p : Pv} {zs : List Int} {n : Int} {v s : List Int} (hz : 0 < zs.length) (h : cutP zs = some (n, v, s)) (hn : n ≤ last ∨ putP p n v = none) : readF k last m p zs = none := by
  cases zs with
  | nil => simp at hz
  | cons z r =>
    cases k with
    | zero => rfl
    | succ k =>
      simp only [readF, h]
      by_cases hl : n ≤ last
      · rw [if_pos hl]
      · rw [if_neg hl]
        rcases hn with hn | hn
        · exact absurd hn hl
        · rw [hn]
theorem rf_step {k : Nat} {last : Int} {m : Nat} {p p' : Pv} {zs : List Int} {n : Int} {v s : List Int} (hz : 0 < zs.length) (h : cutP zs = some (n, v, s)) (hn : last < n) (hp : putP p n v = some p') : readF (k + 1) last m p zs = readF k n (m + manyP n) p' s := by
  cases zs with
  | nil => simp at hz
  | cons z r =>
    simp only [readF, h, hp]
    rw [if_neg (by omega)]
theorem cut_n {zs : List Int} {n : Int} {v s : List Int} (h : cutP zs = some (n, v, s)) : n = (rd zs).1 := by
  unfold cutP at h
  split at h
  · split at h
    · split at h
      · cases h
      · cases h; rfl
    · cases h
  · cases h
theorem cut_no1 {zs : List Int} (h : (rd zs).2.2 ≠ 0) : cutP zs = none := by unfold cutP; rw [if_neg h]
theorem cut_no2 {zs : List Int} (h : (rd (zs.drop (rd zs).2.1.toNat)).2.2 ≠ 0) : cutP zs = none := by
  unfold cutP
  by_cases h1 : (rd zs).2.2 = 0
  · rw [if_pos h1, if_neg h]
  · rw [if_neg h1]
theorem cut_no3 {zs : List Int} (h : ((zs.drop (rd zs).2.1.toNat).drop (rd (zs.drop (rd zs).2.1.toNat)).2.1.toNat).length < (rd (zs.drop (rd zs).2.1.toNat)).1.toNat) : cutP zs = none := by
  unfold cutP
  by_cases h1 : (rd zs).2.2 = 0
  · by_cases h2 : (rd (zs.drop (rd zs).2.1.toNat)).2.2 = 0
    · rw [if_pos h1, if_pos h2, if_pos h]
    · rw [if_pos h1, if_neg h2]
  · rw [if_neg h1]
theorem cut_yes {zs : List Int} (h1 : (rd zs).2.2 = 0) (h2 : (rd (zs.drop (rd zs).2.1.toNat)).2.2 = 0) (h3 : ¬ ((zs.drop (rd zs).2.1.toNat).drop (rd (zs.drop (rd zs).2.1.toNat)).2.1.toNat).length < (rd (zs.drop (rd zs).2.1.toNat)).1.toNat) :
    cutP zs = some ((rd zs).1, ((zs.drop (rd zs).2.1.toNat).drop (rd (zs.drop (rd zs).2.1.toNat)).2.1.toNat).take (rd (zs.drop (rd zs).2.1.toNat)).1.toNat, ((zs.drop (rd zs).2.1.toNat).drop (rd (zs.drop (rd zs).2.1.toNat)).2.1.toNat).drop (rd (zs.drop (rd zs).2.1.toNat)).1.toNat) := by
  unfold cutP; rw [if_pos h1, if_pos h2, if_neg h3]

theorem Fq.kqP {w0 w w' : World} {R D B : Nat} {rest : List Int} {t : Nat} {short : Int} (h : Fq w0 w B rest t short) (hb : KqP R D w w') (hR : w0.heap.size ≤ R) (hD : w0.heap.size ≤ D) (h1 : B ≠ R) (h2 : B ≠ D) : Fq w0 w' B rest t short := by
  obtain ⟨rv, h3, h4⟩ := h.box
  exact ⟨hb.below h.bel hR hD, h.lo, h.sum, rv, by rw [hb.block B h.lt h1 h2]; exact h3, h4⟩
/-- No params. -/
def nilS : Value := .slice none 0 0
/-- What stands in the loop: the reader, the fields' reader, the map of what is missing, the result's box. -/
structure Lc (w0 w : World) (B R G mb : Nat) (bd : Value) (p : Pv) (v5 v6 v7 v9 : Value) (f : Int → Option Value) (wr : World) : Prop where
  fq : ∃ rest t, Fq w0 wr B rest t 3
  rq : Rq wr R B bd p v5 v6 v7 v9
  mp : MapFP wr mb 6 f
  gx : wr.heap[G]? = some (.cells (pCells p0 nilS nilS nilS nilS) 79 (0, 0))
  kqP : KqP R B w wr
  ord : w0.heap.size ≤ B ∧ B < R ∧ R < w.heap.size ∧ G = w.heap.size ∧ mb = w.heap.size + 1
theorem Lc.c0 {w0 w wr : World} {B R G mb : Nat} {bd : Value} {p : Pv} {v5 v6 v7 v9 : Value} {f : Int → Option Value} (h : Lc w0 w B R G mb bd p v5 v6 v7 v9 f wr) : wr.cell? ⟨R, 0, none⟩ = some (.pointer (some ⟨B, 0, none⟩)) := h.rq.cells.1
theorem Lc.c1 {w0 w wr : World} {B R G mb : Nat} {bd : Value} {p : Pv} {v5 v6 v7 v9 : Value} {f : Int → Option Value} (h : Lc w0 w B R G mb bd p v5 v6 v7 v9 f wr) : wr.cell? ⟨R, 1, none⟩ = some bd := h.rq.cells.2.1
theorem Lc.fz {w0 w wr : World} {B R G mb : Nat} {bd : Value} {p : Pv} {v5 v6 v7 v9 : Value} {f : Int → Option Value} (h : Lc w0 w B R G mb bd p v5 v6 v7 v9 f wr) : ∀ j, wr.frozen? ⟨R, j, none⟩ = false := h.rq.cells.2.2.2.2.2.2.2.2.2.2.2.2
theorem Lc.but {w0 w wr w1 : World} {B R G mb : Nat} {bd : Value} {p : Pv} {v5 v6 v7 v9 : Value} {f : Int → Option Value} (h : Lc w0 w B R G mb bd p v5 v6 v7 v9 f wr) (hb : But B wr w1) {rest : List Int} {t : Nat} (hF : Fq w0 w1 B rest t 3) : Lc w0 w B R G mb bd p v5 v6 v7 v9 f w1 := by
  obtain ⟨o1, o2, o3, o4, o5⟩ := h.ord
  obtain ⟨_, _, hF0⟩ := h.fq
  exact ⟨⟨_, _, hF⟩, h.rq.keep hb hF0.noB (by omega), h.mp.keep (hb.block mb h.mp.lt (by omega)), by rw [hb.block G (Array.getElem?_eq_some_iff.1 h.gx).1 (by omega)]; exact h.gx, h.kqP.trans (KqP.r hb), h.ord⟩
theorem Lc.below {w0 w wr w1 : World} {B R G mb : Nat} {bd : Value} {p : Pv} {v5 v6 v7 v9 : Value} {f : Int → Option Value} (h : Lc w0 w B R G mb bd p v5 v6 v7 v9 f wr) (hb : Below wr.heap.size wr w1) : Lc w0 w B R G mb bd p v5 v6 v7 v9 f w1 := by
  obtain ⟨_, _, hF0⟩ := h.fq
  exact ⟨⟨_, _, hF0.keep hb⟩, h.rq.below hb, h.mp.below hb, by rw [hb.block G (Array.getElem?_eq_some_iff.1 h.gx).1]; exact h.gx, h.kqP.trans (KqP.of_below hb), h.ord⟩
theorem Lc.set1 {w0 w wr : World} {B R G mb : Nat} {bd : Value} {p : Pv} {v5 v6 v7 v9 : Value} {f : Int → Option Value} (h : Lc w0 w B R G mb bd p v5 v6 v7 v9 f wr) (D : Nat) : Lc w0 w B R G mb (.pointer (some ⟨D, 0, none⟩)) p v5 v6 v7 v9 f (wr.setCell ⟨R, 1, none⟩ (.pointer (some ⟨D, 0, none⟩))) := by
  obtain ⟨o1, o2, o3, o4, o5⟩ := h.ord
  obtain ⟨_, _, hF0⟩ := h.fq
  have hb := But.set wr R 1 (.pointer (some ⟨D, 0, none⟩))
  have hn := h.rq.noB
  exact ⟨⟨_, _, hF0.but hb (by omega) (by omega)⟩, ⟨rset h.rq 1 _, h.rq.g.but hb hn, h.rq.o.but hb hn, h.rq.r.but hb hn, h.rq.s9, ⟨_, rfl⟩⟩, h.mp.keep (hb.block mb h.mp.lt (by omega)), by rw [hb.block G (Array.getElem?_eq_some_iff.1 h.gx).1 (by omega)]; exact h.gx, h.kqP.trans (KqP.l hb), h.ord⟩
/-- Behind a method. -/
theorem Lc.took {w0 w wr w1 : World} {B R G mb D : Nat} {bd bd' : Value} {p p' : Pv} {v5 v6 v7 v9 u5 u6 u7 u9 : Value} {f : Int → Option Value} (h : Lc w0 w B R G mb bd p v5 v6 v7 v9 f wr) (hk : KqP R D wr w1) (hD : mb < D) (hq : Rq w1 R B bd' p' u5 u6 u7 u9) : Lc w0 w B R G mb bd' p' u5 u6 u7 u9 f w1 := by
  obtain ⟨o1, o2, o3, o4, o5⟩ := h.ord
  obtain ⟨_, _, hF0⟩ := h.fq
  exact ⟨⟨_, _, hF0.kqP hk (by omega) (by omega) (by omega) (by omega)⟩, hq, h.mp.keep (hk.block mb h.mp.lt (by omega) (by omega)), by rw [hk.block G (Array.getElem?_eq_some_iff.1 h.gx).1 (by omega) (by omega)]; exact h.gx,
    ⟨hk.os.trans h.kqP.os, hk.tape.trans h.kqP.tape, hk.output.trans h.kqP.output, Nat.le_trans h.kqP.size hk.size, fun k hk1 hn hm => (hk.block k (Nat.lt_of_lt_of_le hk1 h.kqP.size) hn (by omega)).trans (h.kqP.block k hk1 hn hm)⟩, h.ord⟩
theorem Lc.kqd {w0 w wr w1 : World} {B R G mb D : Nat} {bd : Value} {p : Pv} {v5 v6 v7 v9 : Value} {f : Int → Option Value} (h : Lc w0 w B R G mb bd p v5 v6 v7 v9 f wr) (hk : KqP R D wr w1) (hD : mb < D) : KqP R B w w1 := by
  obtain ⟨o1, o2, o3, o4, o5⟩ := h.ord
  exact ⟨hk.os.trans h.kqP.os, hk.tape.trans h.kqP.tape, hk.output.trans h.kqP.output, Nat.le_trans h.kqP.size hk.size, fun k hk1 hn hm => (hk.block k (Nat.lt_of_lt_of_le hk1 h.kqP.size) hn (by omega)).trans (h.kqP.block k hk1 hn hm)⟩
theorem noB_map {w : World} {mb n : Nat} {f : Int → Option Value} (h : MapFP w mb n f) : NoB w mb := by
  obtain ⟨D, ⟨es, clock, hb, _⟩, _⟩ := h
  intro a x ha he
  unfold World.cell? at he
  rw [ha, hb] at he
  cases he
theorem noC_map {w : World} {mb n : Nat} {f : Int → Option Value} (h : MapFP w mb n f) : ∀ a x, a.block = mb → w.cell? a ≠ some x := by
  obtain ⟨D, ⟨es, clock, hb, _⟩, _⟩ := h
  intro a x ha he
  unfold World.cell? at he
  rw [ha, hb] at he
  cases he
theorem Ri.butC {w w' : World} {v : Value} {zs : List Int} {K : Nat} (h : Ri w v zs) (hb : But K w w') (hn : ∀ a x, a.block = K → w.cell? a ≠ some x) : Ri w' v zs := by
  obtain ⟨ao, cap, hv, h1, h2, h3, hc⟩ := h
  refine ⟨ao, cap, hv, h1, h2, h3, fun a ha j hj => ?_⟩
  have hcell := hc a ha j hj
  rw [← hcell]
  exact World.cell?_of_block (w := w) (hb.block _ (cell_lt hcell) fun e => hn _ _ e hcell)
theorem RiA.butC {w w' : World} {v : Value} {zs : List Int} {K lo : Nat} (h : RiA lo w v zs) (hb : But K w w') (hn : ∀ a x, a.block = K → w.cell? a ≠ some x) : RiA lo w' v zs := ⟨h.rd.butC hb hn, h.far⟩
theorem RiA.but {w w' : World} {v : Value} {zs : List Int} {K lo : Nat} (h : RiA lo w v zs) (hb : But K w w') (hK : K < lo) : Ri w' v zs := by
  obtain ⟨ao, cap, hv, h1, h2, h3, hc⟩ := h.rd
  refine ⟨ao, cap, hv, h1, h2, h3, fun a ha j hj => ?_⟩
  have hcell := hc a ha j hj
  have hz : zs ≠ [] := fun e => by rw [e] at hj; simp at hj
  have hne := h.far a zs.length cap (by rw [hv, ha]) hz
  rw [← hcell]
  exact World.cell?_of_block (w := w) (hb.block _ (cell_lt hcell) (by have e : (a.add j).block = a.block := (by unfold Addr.add; split <;> rfl); rw [e]; omega))
theorem RiA.below {w w' : World} {v : Value} {zs : List Int} {lo : Nat} (h : RiA lo w v zs) (hb : Below w.heap.size w w') : RiA lo w' v zs := ⟨h.rd.below hb, h.far⟩
theorem but_grown {w w' : World} {K : Nat} (h : w.grownBy w' (some K)) : But K w w' := ⟨h.os, h.tape, h.output, h.size, fun k hk hn => h.block k hk (fun e => hn (by cases e; rfl))⟩
/-- Behind the delete. -/
theorem Lc.del {w0 w wr w1 : World} {B R G mb : Nat} {bd : Value} {p : Pv} {v5 v6 v7 v9 : Value} {f g : Int → Option Value} (h : Lc w0 w B R G mb bd p v5 v6 v7 v9 f wr) (hm : MapFP w1 mb 6 g) (hg : wr.grownBy w1 (some mb)) : Lc w0 w B R G mb bd p v5 v6 v7 v9 g w1 := by
  obtain ⟨o1, o2, o3, o4, o5⟩ := h.ord
  obtain ⟨_, _, hF0⟩ := h.fq
  have hb := but_grown hg
  have hn := noB_map h.mp
  exact ⟨⟨_, _, hF0.but hb (by omega) (by omega)⟩, h.rq.keep hb hn (by omega), hm, by rw [hb.block G (Array.getElem?_eq_some_iff.1 h.gx).1 (by omega)]; exact h.gx,
    ⟨hb.os.trans h.kqP.os, hb.tape.trans h.kqP.tape, hb.output.trans h.kqP.output, Nat.le_trans h.kqP.size hb.size, fun k hk1 hn hm => (hb.block k (Nat.lt_of_lt_of_le hk1 h.kqP.size) (by omega)).trans (h.kqP.block k hk1 hn hm)⟩, h.ord⟩
theorem MapFP.fewer {w : World} {mb n : Nat} {f : Int → Option Value} (h : MapFP w mb n f) (k : Int) (e : f k = none) : MapFP w mb n (fun j => if j = k then none else f j) := h.ext fun j => by
  by_cases hj : j = k
  · rw [if_pos hj, hj, e]
  · rw [if_neg hj]
/-- A delete, for the walk. -/
theorem wpList_delF {w : World} {ops : Array Oper} {rest : List Oper} {o : Oper} {a : Act} {Q : Exit → Act → World → Prop} (hg : o.guard = none) (m x : Operand) (hop : o.op = Op.call { callee := Callee.builtin Builtin.delete, args := #[m, x], argTypes := #[110, 3] })
    {mb n : Nat} {f : Int → Option Value} (h : MapFP w mb n f) {k : Int} (hk : (Lit.int .i64 k).wf = true) (hm : a.eval m = .map (some mb)) (hx : a.eval x = .int .i64 k)
    (hK : ∀ w', MapFP w' mb n (fun j => if j = k then none else f j) → w.grownBy w' (some mb) → wpList Tryd.prog ops Q rest (a.put o.dst (.tuple #[])) w') : wpList Tryd.prog ops Q (o :: rest) a w := by
  obtain ⟨D, h1, h2⟩ := h
  refine wpList_delete_own w hg m x 110 3 hop 112 keyMP Tryd.underlying110 fRP mb n D hm h1 _ _ hx (keyOfMP hk) fun w' hw ht => hK w' ⟨_, hw, fun j hj => ?_⟩ ht.grown
  by_cases e : j = k
  · subst e
    dsimp only
    rw [if_pos rfl]
    exact ⟨fun _ => Maps.has_del_same, fun v hv => by cases hv⟩
  · have hne : (Lit.int IntKind.i64 j) ≠ .int .i64 k := fun h => e (by cases h; rfl)
    dsimp only
    rw [if_neg e]
    obtain ⟨h3, h4⟩ := h2 j hj
    refine ⟨fun hf => ?_, fun v hv => ?_⟩
    · rw [Maps.has_del_other hne]; exact h3 hf
    · rw [Maps.has_del_other hne]; exact ⟨(h4 v hv).1, fun z => by rw [Maps.atKey_del_other hne]; exact (h4 v hv).2 z⟩

/-- How many of the three that must be are taken. -/
def cntF (f : Int → Option Value) : Nat := (f 1).isNone.toNat + (f 4).isNone.toNat + (f 17).isNone.toNat
theorem cnt_del {f : Int → Option Value} {n : Int} {v : Value} (h : f n = some v) : cntF (fun j => if j = n then none else f j) = cntF f + manyP n := by
  unfold cntF manyP
  by_cases h1 : n = 1
  · subst h1; simp [h]; omega
  by_cases h4 : n = 4
  · subst h4; simp [h]; omega
  by_cases h17 : n = 17
  · subst h17; simp [h]
  · have e1 : ¬ (1 : Int) = n := fun e => h1 e.symm
    have e4 : ¬ (4 : Int) = n := fun e => h4 e.symm
    have e17 : ¬ (17 : Int) = n := fun e => h17 e.symm
    simp [h1, h4, h17, e1, e4, e17]
/-- What holds at the loop's head. -/
structure Lp (w0 w : World) (zs : List Int) (B R G mb : Nat) (last : Int) (m k : Nat) (bd : Value) (p : Pv) (v5 v6 v7 v9 : Value) (f : Int → Option Value) (rest : List Int) (t : Nat) (wr : World) : Prop where
  lc : Lc w0 w B R G mb bd p v5 v6 v7 v9 f wr
  fq : Fq w0 wr B rest t 3
  l9 : (v9 = nilS ∧ p.l = []) ∨ (17 ≤ last ∧ RiA (G + 1) wr v9 p.l)
  up : ∀ j, last < j → f j = fnOfP j
  cnt : m = cntF f
  run : readF zs.length (-1) 0 p0 zs = readF k last m p rest
  fuel : rest.length ≤ k
  lo : -1 ≤ last
/-- A field more. -/
theorem Lp.step {w0 w wr w1 : World} {zs : List Int} {B R G mb : Nat} {last : Int} {m k : Nat} {bd bd' : Value} {p p' : Pv} {v5 v6 v7 v9 u5 u6 u7 u9 x : Value} {f : Int → Option Value} {rest s v : List Int} {t t' : Nat} {n : Int} (h : Lp w0 w zs B R G mb last m k bd p v5 v6 v7 v9 f rest t wr) (hpos : 0 < rest.length)
    (hc : cutP rest = some (n, v, s)) (hl : last < n) (hf : f n = some x) (hp : putP p n v = some p') (h1 : Lc w0 w B R G mb bd' p' u5 u6 u7 u9 (fun j => if j = n then none else f j) w1) (hF : Fq w0 w1 B s t' 3) (h9 : (u9 = nilS ∧ p'.l = []) ∨ (17 ≤ n ∧ RiA (G + 1) w1 u9 p'.l)) (hs : s.length < rest.length) :
    Lp w0 w zs B R G mb n (m + manyP n) (k - 1) bd' p' u5 u6 u7 u9 (fun j => if j = n then none else f j) s t' w1 := by
  have hk := h.fuel
  have hk1 : k = (k - 1) + 1 := by omega
  refine ⟨h1, hF, h9, fun j hj => ?_, ?_, ?_, by omega, by have := h.lo; omega⟩
  · have := h.up j (by omega)
    rw [if_neg (by omega)]; exact this
  · rw [h.cnt, cnt_del hf]
  · rw [h.run, hk1]
    exact rf_step hpos hc hl hp
/-- All fields are taken. -/
theorem Lp.done {w0 w wr : World} {zs : List Int} {B R G mb : Nat} {last : Int} {m k : Nat} {bd : Value} {p : Pv} {v5 v6 v7 v9 : Value} {f : Int → Option Value} {t : Nat} (h : Lp w0 w zs B R G mb last m k bd p v5 v6 v7 v9 f [] t wr) : readF zs.length (-1) 0 p0 zs = some (p, cntF f) ∧ RiA (G + 1) wr v9 p.l := by
  refine ⟨by rw [h.run, rf_nil, h.cnt], ?_⟩
  rcases h.l9 with ⟨e, e2⟩ | ⟨_, h⟩
  · rw [e, e2]; exact RiA.nil _ _
  · exact h
theorem cnt3 {f : Int → Option Value} : cntF f = 3 ↔ (f 1 = none ∧ f 4 = none ∧ f 17 = none) := by
  unfold cntF
  cases f 1 <;> cases f 4 <;> cases f 17 <;> simp
theorem readP_lack {zs : List Int} {p : Pv} {f : Int → Option Value} (h : readF zs.length (-1) 0 p0 zs = some (p, cntF f)) (hn : ¬ (f 1 = none ∧ f 4 = none ∧ f 17 = none)) : readP zs = none := by
  unfold readP
  rw [h]
  have : cntF f ≠ 3 := fun e => hn (cnt3.1 e)
  simp [this]
theorem readP_wrong {zs : List Int} {p : Pv} {f : Int → Option Value} (h : readF zs.length (-1) 0 p0 zs = some (p, cntF f)) (hn : rightP p = false) : readP zs = none := by
  unfold readP
  rw [h]
  simp [hn]
theorem readP_yes {zs : List Int} {p : Pv} {f : Int → Option Value} (h : readF zs.length (-1) 0 p0 zs = some (p, cntF f)) (hn : f 1 = none ∧ f 4 = none ∧ f 17 = none) (hr : rightP p = true) : readP zs = some p := by
  unfold readP
  rw [h]
  simp [cnt3.2 hn, hr]
/-- What the reader's params end with. -/
def PPost (zs : List Int) (w : World) (R B : Nat) (e : Ending) (w' : World) : Prop :=
  (readP zs = none ∧ e = errPanic 3 ∧ KqP R B w w') ∨ ∃ p v5 v6 v7 v9, readP zs = some p ∧ e = .returned (pAgg p v5 v6 v7 v9) ∧ Pr w' p v5 v6 v7 v9 ∧ KqP R B w w'
theorem readP_no {zs : List Int} (h : readF zs.length (-1) 0 p0 zs = none) : readP zs = none := by unfold readP; rw [h]
end Go.Proofs.YtefcjggmlhoebaaDoor
