/- The table's map, told key by key: what a look-up gives, what a store makes of it; two laws for regions whose order is open and that only read. -/
import Derived.WalkKit
import Derived.WalkSpells
import Derived.WalkLawsBesides
import Derived.Lib.Hide
import Derived.Laws.CopyOwn
import Derived.Laws.AppendOwnNone
import Derived.Maps.AppendAt
import Derived.Test.YtepkhhpdpmhfaaaDoorChecked
import Derived.Maps.OwnSet
import Derived.ProofKit
import Derived.StillTailTactics
import Derived.RegionTactic
namespace Go.Proofs.YtepkhhpdpmhfaaaDoor.T
open Go Go.RowKit

/-- The cells of a list of integers of kind k. -/
def cs (k : IntKind) (zs : List Int) : List Value := zs.map (Value.int k)
theorem cs_len (k : IntKind) (zs : List Int) : (cs k zs).length = zs.length := by simp [cs]
theorem cs_app (k : IntKind) (xs ys : List Int) : cs k (xs ++ ys) = cs k xs ++ cs k ys := by simp [cs]
theorem cs_get (k : IntKind) (zs : List Int) (j : Nat) (h : j < zs.length) : (cs k zs)[j]? = some (.int k (zs.getD j 0)) := by simp [cs, h]
theorem cs_one (k : IntKind) (zs : List Int) : ∀ u ∈ cs k zs, u.oneCell' = true := ints_oneCell k zs

/-- The value v is a slice that reads as the integers zs of kind k. -/
def Rd (k : IntKind) (w : World) (v : Value) (zs : List Int) : Prop :=
  ∃ (ao : Option Addr) (cap : Nat), v = .slice ao zs.length cap ∧ zs.length ≤ cap ∧ cap ≤ maxLen ∧ (ao = none → cap = 0) ∧
    (∀ a, ao = some a → ∀ j, j < zs.length → w.cell? (a.add j) = some (.int k (zs.getD j 0)))

theorem Rd.nil (k : IntKind) (w : World) : Rd k w (.slice none 0 0) [] := ⟨none, 0, rfl, by simp, by simp [maxLen], fun _ => rfl, fun a h => by cases h⟩
theorem Rd.len {k : IntKind} {w : World} {v : Value} {zs : List Int} (h : Rd k w v zs) : zs.length ≤ 9223372036854775807 := by
  obtain ⟨_, _, _, h1, h2, _⟩ := h; unfold maxLen at h2; omega

theorem cell_lt {w : World} {a : Addr} {x : Value} (h : w.cell? a = some x) : a.block < w.heap.size := by
  unfold World.cell? at h
  by_cases hb : a.block < w.heap.size
  · exact hb
  · rw [Array.getElem?_eq_none (Nat.not_lt.1 hb)] at h; simp at h
theorem blk_lt {w : World} {b : Nat} {o : Obj} (h : w.heap[b]? = some o) : b < w.heap.size := (Array.getElem?_eq_some_iff.1 h).1

/-- What reads reads so still where nothing that was there has changed. -/
theorem Rd.below {k : IntKind} {w w' : World} {v : Value} {zs : List Int} (h : Rd k w v zs) (hb : Below w.heap.size w w') : Rd k w' v zs := by
  obtain ⟨ao, cap, hv, h1, h2, h3, hc⟩ := h
  refine ⟨ao, cap, hv, h1, h2, h3, fun a ha j hj => ?_⟩
  have := hc a ha j hj
  rw [hb.cell (cell_lt this)]; exact this
theorem below_alloc (w : World) (o : Obj) : Below w.heap.size w (w.alloc o) := (Below.refl _ _).alloc (Nat.le_refl _) o
theorem Rd.alloc {k : IntKind} {w : World} {v : Value} {zs : List Int} (h : Rd k w v zs) (o : Obj) : Rd k (w.alloc o) v zs := h.below (below_alloc w o)

/-- The two shapes. -/
theorem Rd.cases {k : IntKind} {w : World} {v : Value} {zs : List Int} (h : Rd k w v zs) :
    (zs = [] ∧ ∃ ao cap, v = .slice ao 0 cap ∧ cap ≤ 9223372036854775807) ∨
    ∃ b off cap, v = .slice (some ⟨b, off, none⟩) zs.length cap ∧ 0 < zs.length ∧ zs.length ≤ cap ∧ cap ≤ 9223372036854775807 ∧ b < w.heap.size ∧
      ∀ j, j < zs.length → w.cell? ⟨b, off + j, none⟩ = some (.int k (zs.getD j 0)) := by
  obtain ⟨ao, cap, hv, h1, h2, h3, hc⟩ := h
  unfold maxLen at h2
  by_cases hz : zs = []
  · subst hz; exact .inl ⟨rfl, ao, cap, hv, h2⟩
  · have hl : 0 < zs.length := List.length_pos_iff.2 hz
    cases ao with
    | none => have := h3 rfl; omega
    | some a =>
      obtain ⟨b, off, spot⟩ := a
      have h0 := hc _ rfl 0 hl
      have hs : spot = none := by simpa [Addr.add] using World.cell?_spot h0
      subst hs
      refine .inr ⟨b, off, cap, hv, hl, h1, h2, cell_lt (by simpa [Addr.add] using h0), fun j hj => ?_⟩
      have := hc _ rfl j hj
      rwa [Addr.add_lit] at this

/-- A slice that the call owns reads. -/
theorem Rd.of_own {k : IntKind} {w : World} {base e : Nat} {v : Value} {n : Nat} {zs : List Int} (h : w.ownsRow base e 1 v n (cs k zs)) : Rd k w v zs ∧ n = zs.length := by
  have hn : zs.length = n := by have := h.1; simpa [cs_len] using this
  subst hn
  refine ⟨?_, rfl⟩
  have hcell := fun g (hg : v.ownBlock = some g) => World.ownsRow.cells h hg
  rcases h.2 with ⟨rfl, h0⟩ | ⟨g, cap, cur, rfl, _, hh, h1, h2, h3, h4⟩
  · have : zs = [] := List.eq_nil_of_length_eq_zero h0
    subst this; exact Rd.nil k w
  · refine ⟨some ⟨g, 0, none⟩, cap, rfl, h1, h2, (fun h => by cases h), fun a ha j hj => ?_⟩
    cases ha
    exact hcell g rfl j _ (cs_get k zs j hj)

theorem own_mono {w : World} {base base' : Nat} {e : TypeId} {size : Nat} {v : Value} {n : Nat} {xs : List Value} (h : w.ownsRow base e size v n xs) (hb : base' ≤ base) : w.ownsRow base' e size v n xs := by
  obtain ⟨h1, h2⟩ := h
  refine ⟨h1, ?_⟩
  rcases h2 with h2 | ⟨g, cap, cur, hv, hg, r⟩
  · exact .inl h2
  · exact .inr ⟨g, cap, cur, hv, by omega, r⟩
/-- What is owned stays owned where its own block has not changed. -/
theorem own_keep {w w' : World} {base : Nat} {e : TypeId} {size : Nat} {v : Value} {n : Nat} {xs : List Value} (h : w.ownsRow base e size v n xs) (hb : ∀ g, v.ownBlock = some g → w'.heap[g]? = w.heap[g]?) : w'.ownsRow base e size v n xs := by
  obtain ⟨h1, h2⟩ := h
  refine ⟨h1, ?_⟩
  rcases h2 with h2 | ⟨g, cap, cur, rfl, hg, hh, r⟩
  · exact .inl h2
  · exact .inr ⟨g, cap, cur, rfl, hg, by rw [hb g rfl]; exact hh, r⟩
theorem own_below {w w' : World} {base : Nat} {e : TypeId} {size : Nat} {v : Value} {n : Nat} {xs : List Value} (h : w.ownsRow base e size v n xs) (hb : Below w.heap.size w w') : w'.ownsRow base e size v n xs :=
  own_keep h fun g hg => hb.block g (h.lt g hg).2
theorem own_alloc {w : World} {base : Nat} {e : TypeId} {size : Nat} {v : Value} {n : Nat} {xs : List Value} (h : w.ownsRow base e size v n xs) (o : Obj) : (w.alloc o).ownsRow base e size v n xs := own_below h (below_alloc w o)
/-- The block of what is owned, as it lies there. -/
theorem own_blk {w : World} {base : Nat} {e : TypeId} {size : Nat} {v : Value} {n : Nat} {xs : List Value} (h : w.ownsRow base e size v n xs) {g : Nat} (hg : v.ownBlock = some g) : ∃ cur, w.heap[g]? = some (.cells cur e (0, 0)) := by
  rcases h.2 with ⟨rfl, _⟩ | ⟨g', cap, cur, rfl, _, hh, _⟩
  · cases hg
  · cases hg; exact ⟨cur, hh⟩
theorem own_base {w : World} {base base' : Nat} {e : TypeId} {size : Nat} {v : Value} {n : Nat} {xs : List Value} (h : w.ownsRow base e size v n xs) (hb : ∀ g, v.ownBlock = some g → base' ≤ g) : w.ownsRow base' e size v n xs := by
  obtain ⟨h1, h2⟩ := h
  refine ⟨h1, ?_⟩
  rcases h2 with h2 | ⟨g, cap, cur, rfl, hg, r⟩
  · exact .inl h2
  · exact .inr ⟨g, cap, cur, rfl, hb g rfl, r⟩

theorem below_own {base : Nat} {w w' : World} {e : TypeId} {size : Nat} {v : Value} {n : Nat} {xs : List Value} (h : w.ownsRow base e size v n xs) (hb : base ≤ w.heap.size) (hg : w.grownBy w' v.ownBlock) : Below base w w' :=
  (Below.refl base w).grown hg hb fun k hk => (h.lt k hk).1
theorem below_made {w w' : World} (hg : w.grownBy w' none) : Below w.heap.size w w' :=
  (Below.refl _ w).grown hg (Nat.le_refl _) fun k hk => by cases hk

theorem own_lit (k : IntKind) (e : Nat) (w : World) (zs : List Int) (h : zs.length ≤ 1000) : (w.alloc (.cells (cs k zs).toArray e)).ownsRow w.heap.size e 1 (.slice (some ⟨w.heap.size, 0, none⟩) zs.length zs.length) zs.length (cs k zs) := by
  have := World.ownsRow_lit (e := e) (size := 1) (base := w.heap.size) w (cs k zs).toArray zs.length (Nat.le_refl _) (by unfold maxLen; omega) (by simp [cs_len])
  simpa using this
theorem Rd.lit (k : IntKind) (e : Nat) (w : World) (zs : List Int) (h : zs.length ≤ 1000) : Rd k (w.alloc (.cells (cs k zs).toArray e)) (.slice (some ⟨w.heap.size, 0, none⟩) zs.length zs.length) zs :=
  (Rd.of_own (own_lit k e w zs h)).1

theorem own_block {w : World} {base g n : Nat} {e : TypeId} {xs : List Value} (h : w.ownsRow base e 1 (.slice (some ⟨g, 0, none⟩) n n) n xs) : w.heap[g]? = some (.cells xs.toArray e (0, 0)) ∧ xs.length = n ∧ base ≤ g ∧ n ≤ maxLen := by
  obtain ⟨h1, h2⟩ := h
  rcases h2 with ⟨h2, _⟩ | ⟨g', cap, cur, hv, hg, hh, h3, h4, h5, h6⟩
  · simp at h2
  · simp only [Value.slice.injEq, Option.some.injEq, Addr.mk.injEq, and_true, true_and] at hv
    obtain ⟨rfl, rfl⟩ := hv
    refine ⟨?_, by simpa using h1, hg, h4⟩
    have e : cur = xs.toArray := by
      rw [← h6, List.take_of_length_le (by simp [h5])]
    rw [← e]; exact hh
theorem own_of_block {w : World} {base g n : Nat} {e : TypeId} {xs : List Value} (h : w.heap[g]? = some (.cells xs.toArray e (0, 0))) (hn : xs.length = n) (hg : base ≤ g) (hm : n ≤ maxLen) : w.ownsRow base e 1 (.slice (some ⟨g, 0, none⟩) n n) n xs :=
  ⟨by omega, .inr ⟨g, n, xs.toArray, rfl, hg, h, Nat.le_refl _, hm, by simp [hn], List.take_of_length_le (by simp [hn])⟩⟩

/-- append of integers onto a slice that the call owns, whatever is appended; whatever the guard says, if it says yes. -/
theorem wpList_append_ints {P : Program} {w : World} {ops : Array Oper} {rest : List Oper} {o : Oper} {a : Act} {Q : Exit → Act → World → Prop} (k : IntKind) (e bytes : Nat) (s x : Operand) (t : TypeId)
    (hgd : Region.wanted o (yielded ops a.tmps) = true) (ho : o.op = .call { callee := .builtin .append, args := #[s, x], argTypes := #[t, t] })
    (hinfo : (P.info? e).map (fun i => (i.zero, i.size, i.bytes)) = some (some (.int k 0), 1, bytes)) (ht : P.underlying t = some (.slice e))
    (base : Nat) (v : Value) (n : Nat) (xs : List Int) (hs : a.eval s = v) (hown : w.ownsRow base e 1 v n (cs k xs))
    (xv : Value) (ys : List Int) (hx : a.eval x = xv) (hr : Rd k w xv ys) (hbound : (n + ys.length) * bytes ≤ 140737488355328) (hb1 : n + ys.length ≤ 140737488355328) (hbase : base ≤ w.heap.size)
    (h : ∀ v' w', w'.ownsRow base e 1 v' (n + ys.length) (cs k (xs ++ ys)) → Below base w w' → w.grownBy w' v.ownBlock → wpList P ops Q rest (a.put o.dst v') w') : wpList P ops Q (o :: rest) a w := by
  refine wpList_step fun K hK => ?_
  rw [if_pos hgd]
  obtain ⟨i, hi, hz0, hz1, hz2⟩ := info_parts hinfo
  obtain ⟨ao, cap, rfl, h1, h2, h3, hc⟩ := hr
  cases ao with
  | none =>
    have hcap := h3 rfl
    have hy : ys = [] := List.eq_nil_of_length_eq_zero (by omega)
    subst hy; subst hcap
    have hrun := run_append_owned_none (P := P) (w := w) base t o.type e i 1 ht hi v n (cs k xs) hown
    unfold Oper.wp
    simp [execOp, ho, resolve, invoke, builtin, hs, hx, hrun, Result.andThen]
    exact hK _ _ (h v w (by simpa using hown) (Below.refl _ _) (World.grownBy.refl _ _))
  | some ad =>
    refine wp_append_own w s x t ho base e i (.int k 0) 1 bytes ht hi hz0 hz1 hz2 rfl (by decide) v n (cs k xs) hs hown ad ys.length cap (cs k ys) hx (by simp [cs_len]) ?_ (cs_one k ys) (by unfold maxLen; omega) hbound hbase ?_
    · intro j u hu
      have hj : j < ys.length := by
        have := (List.getElem?_eq_some_iff.1 hu).1
        simpa [cs_len] using this
      rw [cs_get k ys j hj] at hu
      cases hu
      exact hc ad rfl j hj
    · intro v' w' hown' hg _
      exact hK _ _ (h v' w' (by rw [cs_app]; exact hown') (below_own hown hbase hg) hg)

/-- copy of integers to the head of a row that the call owns. -/
theorem wpList_copy_ints {P : Program} {w : World} {ops : Array Oper} {rest : List Oper} {o : Oper} {a : Act} {Q : Exit → Act → World → Prop} (k : IntKind) (e bytes : Nat) (d s : Operand) (t : TypeId)
    (hgd : o.guard = none) (ho : o.op = .call { callee := .builtin .copy, args := #[d, s], argTypes := #[t, t] })
    (hinfo : (P.info? e).map (fun i => (i.zero, i.size, i.bytes)) = some (some (.int k 0), 1, bytes)) (ht : P.underlying t = some (.slice e))
    (base g n : Nat) (xs : List Value) (hd : a.eval d = .slice (some ⟨g, 0, none⟩) n n) (hown : w.ownsRow base e 1 (.slice (some ⟨g, 0, none⟩) n n) n xs)
    (xv : Value) (ys : List Int) (hx : a.eval s = xv) (hr : Rd k w xv ys) (hle : ys.length ≤ n)
    (h : ∀ w', w'.ownsRow base e 1 (.slice (some ⟨g, 0, none⟩) n n) n (cs k ys ++ xs.drop ys.length) → Below base w w' → wpList P ops Q rest (a.put o.dst (.int .i64 ys.length)) w') : wpList P ops Q (o :: rest) a w := by
  obtain ⟨i, hi, hz0, hz1, hz2⟩ := info_parts hinfo
  obtain ⟨ao, cap, rfl, h1, h2, h3, hc⟩ := hr
  obtain ⟨hh, hl, hg, hm⟩ := own_block hown
  refine wpList_copy_splice hgd d s t t ho e ht (by simp [hi, hz1]) (some ⟨g, 0, none⟩) ao n n ys.length cap hd hx g 0 xs e hh (cs k ys) (by rw [cs_len]; exact (Nat.min_eq_left hle).symm) ?_ (by rw [cs_len]; omega) (cs_one k ys) base w (Below.refl _ _) hg ?_
  · intro hp
    refine ⟨rfl, ?_⟩
    cases ao with
    | none => have := h3 rfl; rw [cs_len] at hp; omega
    | some ad =>
      refine ⟨ad, rfl, fun j u hu => ?_⟩
      have hj : j < ys.length := by
        have := (List.getElem?_eq_some_iff.1 hu).1
        simpa [cs_len] using this
      rw [cs_get k ys j hj] at hu
      cases hu
      exact hc ad rfl j hj
  · intro w' hw' hb
    have e1 : splice xs 0 (cs k ys) = cs k ys ++ xs.drop ys.length := by simp [splice, cs_len]
    have h' := hw'.out
    rw [e1] at h'
    have := h w' (own_of_block h' (by simp [cs_len]; omega) hg hm) hb
    simpa [cs_len, goInt] using this
#print axioms wpList_append_ints
#print axioms wpList_copy_ints
end Go.Proofs.YtepkhhpdpmhfaaaDoor.T
namespace Go.Proofs.YtepkhhpdpmhfaaaDoor.T
open Go Go.RowKit

theorem laidOut : laidOutB Tryd.prog = true := by kernel_rfl
theorem nTypes : Tryd.prog.types.size = (Tryd.prog.types.size - 2) + 1 + 1 := by kernel_rfl
theorem keyed : Go.Maps.Keyed Tryd.prog 98 := Go.Maps.Keyed.of_law (deep_law_laid laidOut (m := 5) (by decide) (of_decide_eq_true (by kernel_rfl)) (by kernel_rfl) (by kernel_rfl))
theorem cells71 : Tryd.prog.cellsOf 98 = 18 := by kernel_rfl
theorem cells69 : Tryd.prog.cellsOf 96 = 16 := by kernel_rfl
theorem cells32 : Tryd.prog.cellsOf 27 = 1 := by kernel_rfl
theorem cells3 : Tryd.prog.cellsOf 3 = 1 := by kernel_rfl
theorem cells9 : Tryd.prog.cellsOf 9 = 1 := by kernel_rfl
theorem isKey71 : Tryd.prog.keyType 98 = true := by kernel_rfl

theorem lits_int (d : Nat) (t : TypeId) (h : Tryd.prog.underlying t = some (.int .i64)) (n : Int) (hn : (Lit.int .i64 n).wf = true) : Tryd.prog.keyLits (d + 1) t [.int .i64 n] = some [.int .i64 n] := by
  unfold Program.keyLits
  simp [h, hn]
theorem lits_str (d : Nat) (s : ByteArray) (hs : s.size ≤ maxLen) : Tryd.prog.keyLits (d + 1) 9 [.string s] = some [.string s.data.toList] := by
  unfold Program.keyLits
  simp [Tryd.underlying9, hs]

theorem mapM_some {α β : Type} (f : α → Option β) (l : List α) (h : ∀ a ∈ l, ∃ b, f a = some b) : ∃ r, l.mapM f = some r := by
  induction l with
  | nil => exact ⟨[], rfl⟩
  | cons a l ih =>
    obtain ⟨b, hb⟩ := h a (by simp)
    obtain ⟨r, hr⟩ := ih (fun a ha => h a (by simp [ha]))
    exact ⟨b :: r, by simp [List.mapM_cons, hb, hr]⟩

theorem lits_arr (d : Nat) (ps : List Int) (hl : ps.length = 16) (hp : ∀ p ∈ ps, (Lit.int .i64 p).wf = true) : ∃ l, Tryd.prog.keyLits (d + 1 + 1) 96 (cs .i64 ps) = some l := by
  unfold Program.keyLits
  simp only [Tryd.underlying96, cells69, cells32, Nat.mul_one]
  rw [if_pos (by rw [cs_len]; exact hl)]
  obtain ⟨r, hr⟩ := mapM_some (fun i => Tryd.prog.keyLits (d + 1) 27 (((cs .i64 ps).drop i).take 1)) (List.range 16) (by
    intro i hi
    have hi' : i < ps.length := by rw [hl]; exact List.mem_range.1 hi
    have e : ((cs .i64 ps).drop i).take 1 = [.int .i64 ps[i]] := by
      unfold cs
      rw [← List.map_drop, ← List.map_take, List.drop_eq_getElem_cons hi']
      rfl
    rw [e]
    exact ⟨_, lits_int d 27 Tryd.underlying27 _ (hp _ (List.getElem_mem hi'))⟩)
  exact ⟨_, by rw [hr]; rfl⟩

/-- The key of a kind, a text, and sixteen numbers. -/
def kval (k : Int) (s : ByteArray) (ps : List Int) : Value := .agg (.int .i64 k :: .string s :: cs .i64 ps).toArray
theorem keyOf_kval (k : Int) (s : ByteArray) (ps : List Int) (hk : (Lit.int .i64 k).wf = true) (hs : s.size ≤ maxLen) (hl : ps.length = 16) (hp : ∀ p ∈ ps, (Lit.int .i64 p).wf = true) : ∃ l, keyOf Tryd.prog 98 (kval k s ps) = some l := by
  obtain ⟨l, ha⟩ := lits_arr (Tryd.prog.types.size - 2) ps hl hp
  have hf : (kval k s ps).formed Tryd.prog 98 = true := by simp [kval, Value.formed, Tryd.underlying98, cells71, cs_len, hl]
  have hlits : ∃ r, Tryd.prog.keyLits (Tryd.prog.types.size + 1) 98 (kval k s ps).cells.toList = some r := by
    rw [show Tryd.prog.types.size + 1 = (Tryd.prog.types.size - 2) + 1 + 1 + 1 by kernel_rfl]
    unfold Program.keyLits
    simp only [Tryd.underlying98]
    have hlen : (kval k s ps).cells.toList.length = Tryd.prog.cellsOf 98 := by simp [kval, Value.cells, cells71, cs_len, hl]
    rw [if_pos ⟨hlen, by kernel_rfl⟩]
    have h1 := lits_int (Tryd.prog.types.size - 2 + 1) 3 Tryd.underlying3 k hk
    have h2 := lits_str (Tryd.prog.types.size - 2 + 1) s hs
    have h3 : (cs .i64 ps).take 16 = cs .i64 ps := List.take_of_length_le (by rw [cs_len, hl]; exact Nat.le_refl _)
    simp only [List.mapM_cons, List.mapM_nil, kval, Value.cells, cells3, cells9, cells69, List.drop_zero, List.drop_succ_cons, List.take_succ_cons, List.take_zero, h1, h2, h3, ha]
    exact ⟨_, rfl⟩
  obtain ⟨r, hr⟩ := hlits
  refine ⟨.string (keyBytes r), ?_⟩
  unfold keyOf
  simp only [Tryd.underlying98, isKey71, hf, hr, Bool.and_self, if_true, Option.map_some]
#print axioms keyOf_kval
end Go.Proofs.YtepkhhpdpmhfaaaDoor.T
namespace Go.Proofs.YtepkhhpdpmhfaaaDoor.T
open Go Go.RowKit

/-- A key that a map can hold. -/
def KeyOk (k : Int) (s : ByteArray) (ps : List Int) : Prop := (Lit.int .i64 k).wf = true ∧ s.size ≤ maxLen ∧ ps.length = 16 ∧ ∀ p ∈ ps, (Lit.int .i64 p).wf = true
theorem KeyOk.lit {k : Int} {s : ByteArray} {ps : List Int} (h : KeyOk k s ps) : ∃ l, keyOf Tryd.prog 98 (kval k s ps) = some l := keyOf_kval k s ps h.1 h.2.1 h.2.2.1 h.2.2.2
theorem cs_inj (k : IntKind) {xs ys : List Int} (h : cs k xs = cs k ys) : xs = ys := by
  induction xs generalizing ys with
  | nil => cases ys with
    | nil => rfl
    | cons y ys => simp [cs] at h
  | cons x xs ih => cases ys with
    | nil => simp [cs] at h
    | cons y ys =>
      simp only [cs, List.map_cons, List.cons.injEq, Value.int.injEq, true_and] at h
      rw [h.1, ih h.2]
theorem kval_inj {k k' : Int} {s s' : ByteArray} {ps ps' : List Int} (h : kval k s ps = kval k' s' ps') : k = k' ∧ s = s' ∧ ps = ps' := by
  simp only [kval, Value.agg.injEq, List.toArray_eq_iff, List.cons.injEq, Value.int.injEq, true_and, Value.string.injEq] at h
  exact ⟨h.1, h.2.1, cs_inj .i64 h.2.2⟩

/-- Block mb is a map of at most n entries that holds f's numbers at their keys, and nothing else. -/
def MapV (w : World) (mb n : Nat) (f : Int → ByteArray → List Int → Option Int) : Prop :=
  ∃ D : DataW Unit, w.ownsMap Tryd.prog 98 (plainElem Tryd.prog 27) mb n D ∧ ∀ k s ps, KeyOk k s ps → ∀ l, keyOf Tryd.prog 98 (kval k s ps) = some l →
    (f k s ps = none → Maps.has D l = false) ∧ (∀ c, f k s ps = some c → Maps.has D l = true ∧ D.atKey l (.lit (.int .i64 0)) = .lit (.int .i64 c))

theorem MapV.made (w : World) : MapV (w.alloc (.map #[] 0)) w.heap.size 0 (fun _ _ _ => none) :=
  ⟨.map [], World.ownsMap_made _ _ _ _, fun k s ps _ l _ => ⟨fun _ => rfl, fun c h => by cases h⟩⟩
theorem MapV.congr {w : World} {mb n : Nat} {f g : Int → ByteArray → List Int → Option Int} (h : MapV w mb n f) (e : ∀ k s ps, KeyOk k s ps → f k s ps = g k s ps) : MapV w mb n g := by
  obtain ⟨D, h1, h2⟩ := h
  exact ⟨D, h1, fun k s ps hk l hl => by rw [← e k s ps hk]; exact h2 k s ps hk l hl⟩
theorem MapV.mono {w : World} {mb n n' : Nat} {f : Int → ByteArray → List Int → Option Int} (h : MapV w mb n f) (hn : n ≤ n') : MapV w mb n' f := by
  obtain ⟨D, h1, h2⟩ := h
  exact ⟨D, h1.mono hn, h2⟩
theorem MapV.lt {w : World} {mb n : Nat} {f : Int → ByteArray → List Int → Option Int} (h : MapV w mb n f) : mb < w.heap.size := by
  obtain ⟨D, h1, _⟩ := h; exact h1.lt
theorem MapV.keep {w w' : World} {mb n : Nat} {f : Int → ByteArray → List Int → Option Int} (h : MapV w mb n f) (e : w'.heap[mb]? = w.heap[mb]?) : MapV w' mb n f := by
  obtain ⟨D, ⟨es, clock, hb, r⟩, h2⟩ := h
  exact ⟨D, ⟨es, clock, by rw [e]; exact hb, r⟩, h2⟩

theorem zero32 (w : World) : (zeroValue 27).run Tryd.prog w = .ok (.int .i64 0) w := by kernel_rfl

theorem MapV.look {w : World} {mb n : Nat} {f : Int → ByteArray → List Int → Option Int} (h : MapV w mb n f) {k : Int} {s : ByteArray} {ps : List Int} (hk : KeyOk k s ps) :
    (Instr.lookup 48 (.map (some mb)) (kval k s ps) true).run Tryd.prog w = .ok (.tuple #[.int .i64 ((f k s ps).getD 0), .bool (f k s ps).isSome]) w := by
  obtain ⟨D, h1, h2⟩ := h
  obtain ⟨l, hl⟩ := hk.lit
  obtain ⟨h3, h4⟩ := h2 k s ps hk l hl
  obtain ⟨v, q, hrun, hv⟩ := h1.look_ok keyed Tryd.underlying48 (zero32 w) (plainElem_int (q := .i64) (a := 0) Tryd.underlying27 (by decide)) hl
  obtain ⟨a, rfl, ha, _⟩ := plainElem_int_inv Tryd.underlying27 hv
  simp only [Prod.mk.injEq] at ha
  cases hf : f k s ps with
  | none =>
    have e := h3 hf
    rw [Maps.atKey_of_not_has e] at ha
    simp only [DataW.lit.injEq, Lit.int.injEq, true_and] at ha
    rw [hrun, e, ← ha.1]
    rfl
  | some c =>
    obtain ⟨e1, e2⟩ := h4 c hf
    rw [e2] at ha
    simp only [DataW.lit.injEq, Lit.int.injEq, true_and] at ha
    rw [hrun, e1, ← ha.1]
    rfl

/-- A look-up, in a region that only reads. -/
theorem wpStill_lookup {ops : Array Oper} {rest : List Oper} {o : Oper} {a : Act} {w : World} {Q : Act → Prop} (m x : Operand) (hw : Region.wanted o (yielded ops a.tmps) = true) (hop : o.op = .lookup 48 m x true)
    {mb n : Nat} {f : Int → ByteArray → List Int → Option Int} (hmap : MapV w mb n f) (hm : a.eval m = .map (some mb)) {k : Int} {s : ByteArray} {ps : List Int} (hk : KeyOk k s ps) (hx : a.eval x = kval k s ps)
    (h : wpStill Tryd.prog ops w Q rest (a.put o.dst (.tuple #[.int .i64 ((f k s ps).getD 0), .bool (f k s ps).isSome]))) : wpStill Tryd.prog ops w Q (o :: rest) a := by
  refine wpStill_step fun K hK => ?_
  rw [if_pos hw]
  have hrun := hmap.look hk
  have e : (execOp a.eval o).run Tryd.prog w = .ok (.value (.tuple #[.int .i64 ((f k s ps).getD 0), .bool (f k s ps).isSome])) w := by
    simp [execOp, hop, hm, hx, hrun, Result.andThen]
  unfold Oper.still
  rw [e]
  exact ⟨rfl, hK _ h⟩

/-- A whole block loaded, in a region that only reads. -/
theorem wpStill_load_row {P : Program} {ops : Array Oper} {rest : List Oper} {o : Oper} {a : Act} {w : World} {Q : Act → Prop} (hgw : Region.wanted o (yielded ops a.tmps) = true) (ty : TypeId) (x : Operand) (ho : o.op = .load ty x)
    (g : Nat) (hx : a.eval x = .pointer (some ⟨g, 0, none⟩)) (t : TypeId) (cur : Array Value) (fr : Nat × Nat) (d : TypeDesc) (hg : w.heap[g]? = some (.cells cur t fr))
    (hu : P.underlying ty = some d) (hd : (match d with | .struct _ | .array _ _ => true | _ => false) = true) (hi : (P.info? ty).map (·.size) = some cur.size)
    (h : wpStill P ops w Q rest (a.put o.dst (.agg cur))) : wpStill P ops w Q (o :: rest) a := by
  refine wpStill_step fun K hK => ?_
  rw [if_pos hgw]
  have e : (execOp a.eval o).run P w = .ok (.value (.agg cur)) w := by
    simp only [execOp, ho, hx, Instr.loadAt, Instr.sureAddr, Sem.run_bind, Sem.run_pure, Result.andThen_ok, run_loadVar_row w g t ty cur fr d hg hu hd hi]
  unfold Oper.still
  rw [e]
  exact ⟨rfl, hK _ h⟩

/-- A store. -/
theorem wpList_update {ops : Array Oper} {rest : List Oper} {o : Oper} {a : Act} {w : World} {Q : Exit → Act → World → Prop} (m x v : Operand) (hgd : o.guard = none) (hop : o.op = .mapUpdate 48 m x v)
    {mb n : Nat} {f : Int → ByteArray → List Int → Option Int} (hmap : MapV w mb n f) (hn : n < maxLen) (hm : a.eval m = .map (some mb)) {k : Int} {s : ByteArray} {ps : List Int} (hk : KeyOk k s ps) (hx : a.eval x = kval k s ps)
    {c : Int} (hc : (Lit.int .i64 c).wf = true) (hv : a.eval v = .int .i64 c)
    (h : ∀ w', MapV w' mb (n + 1) (fun k' s' ps' => if k' = k ∧ s' = s ∧ ps' = ps then some c else f k' s' ps') → w.grownBy w' (some mb) → wpList Tryd.prog ops Q rest (a.put o.dst undef) w') : wpList Tryd.prog ops Q (o :: rest) a w := by
  obtain ⟨D, h1, h2⟩ := hmap
  obtain ⟨l, hl⟩ := hk.lit
  refine wpList_mapUpdate_own w hgd m x v 48 hop 98 27 keyed Tryd.underlying48 _ mb n D hm h1 hn _ _ l hx hv hl _ [] (plainElem_int Tryd.underlying27 hc) ?_
  intro w' h1' hg
  refine h w' ⟨_, h1', fun k' s' ps' hk' l' hl' => ?_⟩ hg
  by_cases e : k' = k ∧ s' = s ∧ ps' = ps
  · obtain ⟨rfl, rfl, rfl⟩ := e
    obtain rfl : l = l' := Option.some.inj (hl.symm.trans hl')
    dsimp only
    rw [if_pos ⟨rfl, rfl, rfl⟩]
    refine ⟨(fun h => by cases h), fun c' hc' => ?_⟩
    cases hc'
    exact ⟨Maps.has_put_same h1.isMap (keyed.key hl) _, Maps.atKey_put_same h1.isMap (keyed.key hl) _ _⟩
  · have hne : l' ≠ l := by
      intro e2
      subst e2
      have := kval_inj (keyed.inj hl' hl)
      exact e this
    dsimp only
    rw [if_neg e]
    obtain ⟨h3, h4⟩ := h2 k' s' ps' hk' l' hl'
    refine ⟨fun hf => ?_, fun c' hc' => ?_⟩
    · rw [Maps.has_put_other hne]; exact h3 hf
    · rw [Maps.has_put_other hne, Maps.atKey_put_other hne]; exact h4 c' hc'
#print axioms wpStill_lookup
#print axioms wpList_update
end Go.Proofs.YtepkhhpdpmhfaaaDoor.T
