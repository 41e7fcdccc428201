/- Small laws on slices of integers: what it is for a value to read as a list of integers of a kind, that this is kept by writes elsewhere, walk laws for append and copy; what a call changes, told block by block. -/
import Derived.WalkKit
import Derived.WalkSpells
import Derived.WalkLawsBesides
import Derived.Lib.Hide
import Derived.Laws.CopyOwn
import Derived.Laws.AppendOwnNone
import Derived.Maps.AppendAt
namespace Go.Proofs.Ytmplcibaoanlnaa
open Go Go.RowKit

/-- The cells of a list of integers of kind k. -/
def cs (k : IntKind) (zs : List Int) : List Value := zs.map (Value.int k)
theorem cs_len (k : IntKind) (zs : List Int) : (cs k zs).length = zs.length := by simp [cs]
theorem cs_app (k : IntKind) (xs ys : List Int) : cs k (xs ++ ys) = cs k xs ++ cs k ys := by simp [cs]
theorem cs_get (k : IntKind) (zs : List Int) (j : Nat) (h : j < zs.length) : (cs k zs)[j]? = some (.int k (zs.getD j 0)) := by simp [cs, h]
theorem cs_one (k : IntKind) (zs : List Int) : ∀ u ∈ cs k zs, u.oneCell' = true := ints_oneCell k zs

/-- The value v is a slice that reads as the integers zs of kind k. -/
def Rd (k : IntKind) (w : World) (v : Value) (zs : List Int) : Prop :=
  ∃ (ao : Option Addr) (cap : Nat), v = .slice ao zs.length cap ∧ zs.length ≤ cap ∧ cap ≤ maxLen ∧ (ao = none → cap = 0) ∧
    (∀ a, ao = some a → ∀ j, j < zs.length → w.cell? (a.add j) = some (.int k (zs.getD j 0)))

theorem Rd.nil (k : IntKind) (w : World) : Rd k w (.slice none 0 0) [] := ⟨none, 0, rfl, by simp, by simp [maxLen], fun _ => rfl, fun a h => by cases h⟩
theorem Rd.len {k : IntKind} {w : World} {v : Value} {zs : List Int} (h : Rd k w v zs) : zs.length ≤ 9223372036854775807 := by
  obtain ⟨_, _, _, h1, h2, _⟩ := h; unfold maxLen at h2; omega

theorem cell_lt {w : World} {a : Addr} {x : Value} (h : w.cell? a = some x) : a.block < w.heap.size := by
  unfold World.cell? at h
  by_cases hb : a.block < w.heap.size
  · exact hb
  · rw [Array.getElem?_eq_none (Nat.not_lt.1 hb)] at h; simp at h
theorem blk_lt {w : World} {b : Nat} {o : Obj} (h : w.heap[b]? = some o) : b < w.heap.size := (Array.getElem?_eq_some_iff.1 h).1

/-- What reads reads so still where nothing that was there has changed. -/
theorem Rd.below {k : IntKind} {w w' : World} {v : Value} {zs : List Int} (h : Rd k w v zs) (hb : Below w.heap.size w w') : Rd k w' v zs := by
  obtain ⟨ao, cap, hv, h1, h2, h3, hc⟩ := h
  refine ⟨ao, cap, hv, h1, h2, h3, fun a ha j hj => ?_⟩
  have := hc a ha j hj
  rw [hb.cell (cell_lt this)]; exact this
theorem below_alloc (w : World) (o : Obj) : Below w.heap.size w (w.alloc o) := (Below.refl _ _).alloc (Nat.le_refl _) o
theorem Rd.alloc {k : IntKind} {w : World} {v : Value} {zs : List Int} (h : Rd k w v zs) (o : Obj) : Rd k (w.alloc o) v zs := h.below (below_alloc w o)

/-- The two shapes. -/
theorem Rd.cases {k : IntKind} {w : World} {v : Value} {zs : List Int} (h : Rd k w v zs) :
    (zs = [] ∧ ∃ ao cap, v = .slice ao 0 cap ∧ cap ≤ 9223372036854775807) ∨
    ∃ b off cap, v = .slice (some ⟨b, off, none⟩) zs.length cap ∧ 0 < zs.length ∧ zs.length ≤ cap ∧ cap ≤ 9223372036854775807 ∧ b < w.heap.size ∧
      ∀ j, j < zs.length → w.cell? ⟨b, off + j, none⟩ = some (.int k (zs.getD j 0)) := by
  obtain ⟨ao, cap, hv, h1, h2, h3, hc⟩ := h
  unfold maxLen at h2
  by_cases hz : zs = []
  · subst hz; exact .inl ⟨rfl, ao, cap, hv, h2⟩
  · have hl : 0 < zs.length := List.length_pos_iff.2 hz
    cases ao with
    | none => have := h3 rfl; omega
    | some a =>
      obtain ⟨b, off, spot⟩ := a
      have h0 := hc _ rfl 0 hl
      have hs : spot = none := by simpa [Addr.add] using World.cell?_spot h0
      subst hs
      refine .inr ⟨b, off, cap, hv, hl, h1, h2, cell_lt (by simpa [Addr.add] using h0), fun j hj => ?_⟩
      have := hc _ rfl j hj
      rwa [Addr.add_lit] at this

/-- A slice that the call owns reads. -/
theorem Rd.of_own {k : IntKind} {w : World} {base e : Nat} {v : Value} {n : Nat} {zs : List Int} (h : w.ownsRow base e 1 v n (cs k zs)) : Rd k w v zs ∧ n = zs.length := by
  have hn : zs.length = n := by have := h.1; simpa [cs_len] using this
  subst hn
  refine ⟨?_, rfl⟩
  have hcell := fun g (hg : v.ownBlock = some g) => World.ownsRow.cells h hg
  rcases h.2 with ⟨rfl, h0⟩ | ⟨g, cap, cur, rfl, _, hh, h1, h2, h3, h4⟩
  · have : zs = [] := List.eq_nil_of_length_eq_zero h0
    subst this; exact Rd.nil k w
  · refine ⟨some ⟨g, 0, none⟩, cap, rfl, h1, h2, (fun h => by cases h), fun a ha j hj => ?_⟩
    cases ha
    exact hcell g rfl j _ (cs_get k zs j hj)

theorem own_mono {w : World} {base base' : Nat} {e : TypeId} {size : Nat} {v : Value} {n : Nat} {xs : List Value} (h : w.ownsRow base e size v n xs) (hb : base' ≤ base) : w.ownsRow base' e size v n xs := by
  obtain ⟨h1, h2⟩ := h
  refine ⟨h1, ?_⟩
  rcases h2 with h2 | ⟨g, cap, cur, hv, hg, r⟩
  · exact .inl h2
  · exact .inr ⟨g, cap, cur, hv, by omega, r⟩
/-- What is owned stays owned where its own block has not changed. -/
theorem own_keep {w w' : World} {base : Nat} {e : TypeId} {size : Nat} {v : Value} {n : Nat} {xs : List Value} (h : w.ownsRow base e size v n xs) (hb : ∀ g, v.ownBlock = some g → w'.heap[g]? = w.heap[g]?) : w'.ownsRow base e size v n xs := by
  obtain ⟨h1, h2⟩ := h
  refine ⟨h1, ?_⟩
  rcases h2 with h2 | ⟨g, cap, cur, rfl, hg, hh, r⟩
  · exact .inl h2
  · exact .inr ⟨g, cap, cur, rfl, hg, by rw [hb g rfl]; exact hh, r⟩
theorem own_below {w w' : World} {base : Nat} {e : TypeId} {size : Nat} {v : Value} {n : Nat} {xs : List Value} (h : w.ownsRow base e size v n xs) (hb : Below w.heap.size w w') : w'.ownsRow base e size v n xs :=
  own_keep h fun g hg => hb.block g (h.lt g hg).2
theorem own_alloc {w : World} {base : Nat} {e : TypeId} {size : Nat} {v : Value} {n : Nat} {xs : List Value} (h : w.ownsRow base e size v n xs) (o : Obj) : (w.alloc o).ownsRow base e size v n xs := own_below h (below_alloc w o)
/-- The block of what is owned, as it lies there. -/
theorem own_blk {w : World} {base : Nat} {e : TypeId} {size : Nat} {v : Value} {n : Nat} {xs : List Value} (h : w.ownsRow base e size v n xs) {g : Nat} (hg : v.ownBlock = some g) : ∃ cur, w.heap[g]? = some (.cells cur e (0, 0)) := by
  rcases h.2 with ⟨rfl, _⟩ | ⟨g', cap, cur, rfl, _, hh, _⟩
  · cases hg
  · cases hg; exact ⟨cur, hh⟩
theorem own_base {w : World} {base base' : Nat} {e : TypeId} {size : Nat} {v : Value} {n : Nat} {xs : List Value} (h : w.ownsRow base e size v n xs) (hb : ∀ g, v.ownBlock = some g → base' ≤ g) : w.ownsRow base' e size v n xs := by
  obtain ⟨h1, h2⟩ := h
  refine ⟨h1, ?_⟩
  rcases h2 with h2 | ⟨g, cap, cur, rfl, hg, r⟩
  · exact .inl h2
  · exact .inr ⟨g, cap, cur, rfl, hb g rfl, r⟩

theorem below_own {base : Nat} {w w' : World} {e : TypeId} {size : Nat} {v : Value} {n : Nat} {xs : List Value} (h : w.ownsRow base e size v n xs) (hb : base ≤ w.heap.size) (hg : w.grownBy w' v.ownBlock) : Below base w w' :=
  (Below.refl base w).grown hg hb fun k hk => (h.lt k hk).1
theorem below_made {w w' : World} (hg : w.grownBy w' none) : Below w.heap.size w w' :=
  (Below.refl _ w).grown hg (Nat.le_refl _) fun k hk => by cases hk

theorem own_lit (k : IntKind) (e : Nat) (w : World) (zs : List Int) (h : zs.length ≤ 1000) : (w.alloc (.cells (cs k zs).toArray e)).ownsRow w.heap.size e 1 (.slice (some ⟨w.heap.size, 0, none⟩) zs.length zs.length) zs.length (cs k zs) := by
  have := World.ownsRow_lit (e := e) (size := 1) (base := w.heap.size) w (cs k zs).toArray zs.length (Nat.le_refl _) (by unfold maxLen; omega) (by simp [cs_len])
  simpa using this
theorem Rd.lit (k : IntKind) (e : Nat) (w : World) (zs : List Int) (h : zs.length ≤ 1000) : Rd k (w.alloc (.cells (cs k zs).toArray e)) (.slice (some ⟨w.heap.size, 0, none⟩) zs.length zs.length) zs :=
  (Rd.of_own (own_lit k e w zs h)).1

theorem own_block {w : World} {base g n : Nat} {e : TypeId} {xs : List Value} (h : w.ownsRow base e 1 (.slice (some ⟨g, 0, none⟩) n n) n xs) : w.heap[g]? = some (.cells xs.toArray e (0, 0)) ∧ xs.length = n ∧ base ≤ g ∧ n ≤ maxLen := by
  obtain ⟨h1, h2⟩ := h
  rcases h2 with ⟨h2, _⟩ | ⟨g', cap, cur, hv, hg, hh, h3, h4, h5, h6⟩
  · simp at h2
  · simp only [Value.slice.injEq, Option.some.injEq, Addr.mk.injEq, and_true, true_and] at hv
    obtain ⟨rfl, rfl⟩ := hv
    refine ⟨?_, by simpa using h1, hg, h4⟩
    have e : cur = xs.toArray := by
      rw [← h6, List.take_of_length_le (by simp [h5])]
    rw [← e]; exact hh
theorem own_of_block {w : World} {base g n : Nat} {e : TypeId} {xs : List Value} (h : w.heap[g]? = some (.cells xs.toArray e (0, 0))) (hn : xs.length = n) (hg : base ≤ g) (hm : n ≤ maxLen) : w.ownsRow base e 1 (.slice (some ⟨g, 0, none⟩) n n) n xs :=
  ⟨by omega, .inr ⟨g, n, xs.toArray, rfl, hg, h, Nat.le_refl _, hm, by simp [hn], List.take_of_length_le (by simp [hn])⟩⟩

/-- append of integers onto a slice that the call owns, whatever is appended; whatever the guard says, if it says yes. -/
theorem wpList_append_ints {P : Program} {w : World} {ops : Array Oper} {rest : List Oper} {o : Oper} {a : Act} {Q : Exit → Act → World → Prop} (k : IntKind) (e bytes : Nat) (s x : Operand) (t : TypeId)
    (hgd : Region.wanted o (yielded ops a.tmps) = true) (ho : o.op = .call { callee := .builtin .append, args := #[s, x], argTypes := #[t, t] })
    (hinfo : (P.info? e).map (fun i => (i.zero, i.size, i.bytes)) = some (some (.int k 0), 1, bytes)) (ht : P.underlying t = some (.slice e))
    (base : Nat) (v : Value) (n : Nat) (xs : List Int) (hs : a.eval s = v) (hown : w.ownsRow base e 1 v n (cs k xs))
    (xv : Value) (ys : List Int) (hx : a.eval x = xv) (hr : Rd k w xv ys) (hbound : (n + ys.length) * bytes ≤ 140737488355328) (hb1 : n + ys.length ≤ 140737488355328) (hbase : base ≤ w.heap.size)
    (h : ∀ v' w', w'.ownsRow base e 1 v' (n + ys.length) (cs k (xs ++ ys)) → Below base w w' → w.grownBy w' v.ownBlock → wpList P ops Q rest (a.put o.dst v') w') : wpList P ops Q (o :: rest) a w := by
  refine wpList_step fun K hK => ?_
  rw [if_pos hgd]
  obtain ⟨i, hi, hz0, hz1, hz2⟩ := info_parts hinfo
  obtain ⟨ao, cap, rfl, h1, h2, h3, hc⟩ := hr
  cases ao with
  | none =>
    have hcap := h3 rfl
    have hy : ys = [] := List.eq_nil_of_length_eq_zero (by omega)
    subst hy; subst hcap
    have hrun := run_append_owned_none (P := P) (w := w) base t o.type e i 1 ht hi v n (cs k xs) hown
    unfold Oper.wp
    simp [execOp, ho, resolve, invoke, builtin, hs, hx, hrun, Result.andThen]
    exact hK _ _ (h v w (by simpa using hown) (Below.refl _ _) (World.grownBy.refl _ _))
  | some ad =>
    refine wp_append_own w s x t ho base e i (.int k 0) 1 bytes ht hi hz0 hz1 hz2 rfl (by decide) v n (cs k xs) hs hown ad ys.length cap (cs k ys) hx (by simp [cs_len]) ?_ (cs_one k ys) (by unfold maxLen; omega) hbound hbase ?_
    · intro j u hu
      have hj : j < ys.length := by
        have := (List.getElem?_eq_some_iff.1 hu).1
        simpa [cs_len] using this
      rw [cs_get k ys j hj] at hu
      cases hu
      exact hc ad rfl j hj
    · intro v' w' hown' hg _
      exact hK _ _ (h v' w' (by rw [cs_app]; exact hown') (below_own hown hbase hg) hg)

/-- copy of integers to the head of a row that the call owns. -/
theorem wpList_copy_ints {P : Program} {w : World} {ops : Array Oper} {rest : List Oper} {o : Oper} {a : Act} {Q : Exit → Act → World → Prop} (k : IntKind) (e bytes : Nat) (d s : Operand) (t : TypeId)
    (hgd : o.guard = none) (ho : o.op = .call { callee := .builtin .copy, args := #[d, s], argTypes := #[t, t] })
    (hinfo : (P.info? e).map (fun i => (i.zero, i.size, i.bytes)) = some (some (.int k 0), 1, bytes)) (ht : P.underlying t = some (.slice e))
    (base g n : Nat) (xs : List Value) (hd : a.eval d = .slice (some ⟨g, 0, none⟩) n n) (hown : w.ownsRow base e 1 (.slice (some ⟨g, 0, none⟩) n n) n xs)
    (xv : Value) (ys : List Int) (hx : a.eval s = xv) (hr : Rd k w xv ys) (hle : ys.length ≤ n)
    (h : ∀ w', w'.ownsRow base e 1 (.slice (some ⟨g, 0, none⟩) n n) n (cs k ys ++ xs.drop ys.length) → Below base w w' → wpList P ops Q rest (a.put o.dst (.int .i64 ys.length)) w') : wpList P ops Q (o :: rest) a w := by
  obtain ⟨i, hi, hz0, hz1, hz2⟩ := info_parts hinfo
  obtain ⟨ao, cap, rfl, h1, h2, h3, hc⟩ := hr
  obtain ⟨hh, hl, hg, hm⟩ := own_block hown
  refine wpList_copy_splice hgd d s t t ho e ht (by simp [hi, hz1]) (some ⟨g, 0, none⟩) ao n n ys.length cap hd hx g 0 xs e hh (cs k ys) (by rw [cs_len]; exact (Nat.min_eq_left hle).symm) ?_ (by rw [cs_len]; omega) (cs_one k ys) base w (Below.refl _ _) hg ?_
  · intro hp
    refine ⟨rfl, ?_⟩
    cases ao with
    | none => have := h3 rfl; rw [cs_len] at hp; omega
    | some ad =>
      refine ⟨ad, rfl, fun j u hu => ?_⟩
      have hj : j < ys.length := by
        have := (List.getElem?_eq_some_iff.1 hu).1
        simpa [cs_len] using this
      rw [cs_get k ys j hj] at hu
      cases hu
      exact hc ad rfl j hj
  · intro w' hw' hb
    have e1 : splice xs 0 (cs k ys) = cs k ys ++ xs.drop ys.length := by simp [splice, cs_len]
    have h' := hw'.out
    rw [e1] at h'
    have := h w' (own_of_block h' (by simp [cs_len]; omega) hg hm) hb
    simpa [cs_len, goInt] using this
#print axioms wpList_append_ints
#print axioms wpList_copy_ints
end Go.Proofs.Ytmplcibaoanlnaa
