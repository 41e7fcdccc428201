/- Small laws on slices of bytes: what it is for a value to read as a list of bytes, that this is kept by writes elsewhere, and a walk law for append. -/
import Derived.WalkKit
import Derived.WalkSpells
import Derived.WalkLawsBesides
import Derived.Lib.Hide
import Derived.Laws.CopyOwn
import Derived.Laws.AppendOwnNone
namespace Go.Proofs.YtepkhhpdpmhfaaaDoor
open Go Go.RowKit

/-- The cells of a list of bytes. -/
def by8 (zs : List Int) : List Value := zs.map (Value.int .u8)
theorem by8_len (zs : List Int) : (by8 zs).length = zs.length := by simp [by8]
theorem by8_app (xs ys : List Int) : by8 (xs ++ ys) = by8 xs ++ by8 ys := by simp [by8]
theorem by8_get (zs : List Int) (j : Nat) (h : j < zs.length) : (by8 zs)[j]? = some (.int .u8 (zs.getD j 0)) := by simp [by8, h]
theorem by8_one (zs : List Int) : ∀ u ∈ by8 zs, u.oneCell' = true := ints_oneCell .u8 zs

/-- Every number is a byte's. -/
def Byt (zs : List Int) : Prop := ∀ z ∈ zs, 0 ≤ z ∧ z ≤ 255
theorem Byt.nil : Byt [] := fun _ h => by cases h
theorem Byt.app {xs ys : List Int} (hx : Byt xs) (hy : Byt ys) : Byt (xs ++ ys) := fun z h => by
  rcases List.mem_append.1 h with h | h
  · exact hx z h
  · exact hy z h
theorem Byt.get {zs : List Int} (h : Byt zs) (j : Nat) : 0 ≤ zs.getD j 0 ∧ zs.getD j 0 ≤ 255 := by
  by_cases hj : j < zs.length
  · have e : zs.getD j 0 = zs[j] := by simp [hj]
    rw [e]; exact h _ (List.getElem_mem hj)
  · have e : zs.getD j 0 = 0 := by simp [List.getD, List.getElem?_eq_none (Nat.not_lt.1 hj)]
    rw [e]; omega
theorem Byt.take {zs : List Int} (h : Byt zs) (k : Nat) : Byt (zs.take k) := fun z hz => h z (List.mem_of_mem_take hz)
theorem Byt.drop {zs : List Int} (h : Byt zs) (k : Nat) : Byt (zs.drop k) := fun z hz => h z (List.mem_of_mem_drop hz)

/-- The value v is a slice that reads as the bytes zs. -/
def Rd (w : World) (v : Value) (zs : List Int) : Prop :=
  ∃ (ao : Option Addr) (cap : Nat), v = .slice ao zs.length cap ∧ zs.length ≤ cap ∧ cap ≤ maxLen ∧ (ao = none → cap = 0) ∧ Byt zs ∧
    (∀ a, ao = some a → ∀ j, j < zs.length → w.cell? (a.add j) = some (.int .u8 (zs.getD j 0)))

theorem Rd.nil (w : World) : Rd w (.slice none 0 0) [] := ⟨none, 0, rfl, by simp, by simp [maxLen], fun _ => rfl, Byt.nil, fun a h => by cases h⟩
theorem Rd.byt {w : World} {v : Value} {zs : List Int} (h : Rd w v zs) : Byt zs := by obtain ⟨_, _, _, _, _, _, hb, _⟩ := h; exact hb
theorem Rd.len {w : World} {v : Value} {zs : List Int} (h : Rd w v zs) : zs.length ≤ 9223372036854775807 := by
  obtain ⟨_, _, _, h1, h2, _⟩ := h; unfold maxLen at h2; omega

theorem cell_lt {w : World} {a : Addr} {x : Value} (h : w.cell? a = some x) : a.block < w.heap.size := by
  unfold World.cell? at h
  by_cases hb : a.block < w.heap.size
  · exact hb
  · rw [Array.getElem?_eq_none (Nat.not_lt.1 hb)] at h; simp at h

/-- What reads reads so still where nothing that was there has changed. -/
theorem Rd.below {w w' : World} {v : Value} {zs : List Int} (h : Rd w v zs) (hb : Below w.heap.size w w') : Rd w' v zs := by
  obtain ⟨ao, cap, hv, h1, h2, h3, h4, hc⟩ := h
  refine ⟨ao, cap, hv, h1, h2, h3, h4, fun a ha j hj => ?_⟩
  have := hc a ha j hj
  rw [hb.cell (cell_lt this)]; exact this
theorem Rd.alloc {w : World} {v : Value} {zs : List Int} (h : Rd w v zs) (o : Obj) : Rd (w.alloc o) v zs := h.below ((Below.refl _ _).alloc (Nat.le_refl _) o)
theorem Rd.drew {w : World} {v : Value} {zs : List Int} (h : Rd w v zs) : Rd w.drew v zs := h

/-- The two shapes. -/
theorem Rd.cases {w : World} {v : Value} {zs : List Int} (h : Rd w v zs) :
    (zs = [] ∧ ∃ ao cap, v = .slice ao 0 cap ∧ cap ≤ 9223372036854775807) ∨
    ∃ b off cap, v = .slice (some ⟨b, off, none⟩) zs.length cap ∧ 0 < zs.length ∧ zs.length ≤ cap ∧ cap ≤ 9223372036854775807 ∧ b < w.heap.size ∧
      ∀ j, j < zs.length → w.cell? ⟨b, off + j, none⟩ = some (.int .u8 (zs.getD j 0)) := by
  obtain ⟨ao, cap, hv, h1, h2, h3, _, hc⟩ := h
  unfold maxLen at h2
  by_cases hz : zs = []
  · subst hz; exact .inl ⟨rfl, ao, cap, hv, h2⟩
  · have hl : 0 < zs.length := List.length_pos_iff.2 hz
    cases ao with
    | none => have := h3 rfl; omega
    | some a =>
      obtain ⟨b, off, spot⟩ := a
      have h0 := hc _ rfl 0 hl
      have hs : spot = none := by simpa [Addr.add] using World.cell?_spot h0
      subst hs
      refine .inr ⟨b, off, cap, hv, hl, h1, h2, cell_lt (by simpa [Addr.add] using h0), fun j hj => ?_⟩
      have := hc _ rfl j hj
      rwa [Addr.add_lit] at this

/-- A slice that the call owns reads. -/
theorem Rd.of_own {w : World} {base : Nat} {v : Value} {n : Nat} {zs : List Int} (h : w.ownsRow base 5 1 v n (by8 zs)) (hz : Byt zs) : Rd w v zs ∧ n = zs.length := by
  have hn : zs.length = n := by have := h.1; simpa [by8_len] using this
  subst hn
  refine ⟨?_, rfl⟩
  have hcell := fun g (hg : v.ownBlock = some g) => World.ownsRow.cells h hg
  rcases h.2 with ⟨rfl, h0⟩ | ⟨g, cap, cur, rfl, _, hh, h1, h2, h3, h4⟩
  · have : zs = [] := List.eq_nil_of_length_eq_zero h0
    subst this; exact Rd.nil w
  · refine ⟨some ⟨g, 0, none⟩, cap, rfl, h1, h2, (fun h => by cases h), hz, fun a ha j hj => ?_⟩
    cases ha
    exact hcell g rfl j _ (by8_get zs j hj)

/-- What is owned is owned from a smaller number on, and where nothing that was there has changed. -/
theorem own_mono {w : World} {base base' : Nat} {e : TypeId} {size : Nat} {v : Value} {n : Nat} {xs : List Value} (h : w.ownsRow base e size v n xs) (hb : base' ≤ base) : w.ownsRow base' e size v n xs := by
  obtain ⟨h1, h2⟩ := h
  refine ⟨h1, ?_⟩
  rcases h2 with h2 | ⟨g, cap, cur, hv, hg, r⟩
  · exact .inl h2
  · exact .inr ⟨g, cap, cur, hv, by omega, r⟩
theorem own_below {w w' : World} {base : Nat} {e : TypeId} {size : Nat} {v : Value} {n : Nat} {xs : List Value} (h : w.ownsRow base e size v n xs) (hb : Below w.heap.size w w') : w'.ownsRow base e size v n xs := by
  obtain ⟨h1, h2⟩ := h
  refine ⟨h1, ?_⟩
  rcases h2 with h2 | ⟨g, cap, cur, hv, hg, hh, r⟩
  · exact .inl h2
  · refine .inr ⟨g, cap, cur, hv, hg, ?_, r⟩
    have hlt : g < w.heap.size := (Array.getElem?_eq_some_iff.1 hh).1
    rw [hb.block g hlt]; exact hh
theorem own_fresh (w : World) (e : TypeId) : (w.alloc (.cells #[] e)).ownsRow w.heap.size e 1 (.slice (some ⟨w.heap.size, 0, none⟩) 0 0) 0 [] := by
  simpa using World.ownsRow_lit (e := e) (size := 1) (base := w.heap.size) w #[] 0 (Nat.le_refl _) (by simp [maxLen]) rfl

theorem below_own {base : Nat} {w w' : World} {e : TypeId} {size : Nat} {v : Value} {n : Nat} {xs : List Value} (h : w.ownsRow base e size v n xs) (hb : base ≤ w.heap.size) (hg : w.grownBy w' v.ownBlock) : Below base w w' :=
  (Below.refl base w).grown hg hb fun k hk => (h.lt k hk).1

theorem below_made {w w' : World} (hg : w.grownBy w' none) : Below w.heap.size w w' :=
  (Below.refl _ w).grown hg (Nat.le_refl _) fun k hk => by cases hk

/-- append of bytes onto a slice that the call owns, whatever is appended. -/
theorem wpList_append_bytes {P : Program} {w : World} {ops : Array Oper} {rest : List Oper} {o : Oper} {a : Act} {Q : Exit → Act → World → Prop} (s x : Operand) (t : TypeId)
    (hgd : o.guard = none) (ho : o.op = .call { callee := .builtin .append, args := #[s, x], argTypes := #[t, t] })
    (hinfo : (P.info? 5).map (fun i => (i.zero, i.size, i.bytes)) = some (some (.int .u8 0), 1, 1)) (ht : P.underlying t = some (.slice 5))
    (base : Nat) (v : Value) (n : Nat) (xs : List Int) (hs : a.eval s = v) (hown : w.ownsRow base 5 1 v n (by8 xs))
    (xv : Value) (ys : List Int) (hx : a.eval x = xv) (hr : Rd w xv ys) (hbound : n + ys.length ≤ 140737488355328) (hbase : base ≤ w.heap.size)
    (h : ∀ v' w', w'.ownsRow base 5 1 v' (n + ys.length) (by8 (xs ++ ys)) → Below base w w' → wpList P ops Q rest (a.put o.dst v') w') : wpList P ops Q (o :: rest) a w := by
  obtain ⟨i, hi, hz0, hz1, hz2⟩ := info_parts hinfo
  obtain ⟨ao, cap, rfl, h1, h2, h3, _, hc⟩ := hr
  cases ao with
  | none =>
    have hcap := h3 rfl
    have hy : ys = [] := List.eq_nil_of_length_eq_zero (by omega)
    subst hy; subst hcap
    refine wpList_append_own_none hgd s x t ho base 5 i 1 ht hi v n (by8 xs) hs hown (by simpa using hx) ?_
    exact h v w (by simpa using hown) (Below.refl _ _)
  | some ad =>
    refine wpList_append_own _ hgd s x t ho base 5 i (.int .u8 0) 1 1 ht hi hz0 hz1 hz2 rfl (by decide) v n (by8 xs) hs hown ad ys.length cap (by8 ys) hx (by simp [by8_len]) ?_ (by8_one ys) (by unfold maxLen; omega) (by omega) hbase ?_
    · intro j u hu
      have hj : j < ys.length := by
        have := (List.getElem?_eq_some_iff.1 hu).1
        simpa [by8_len] using this
      rw [by8_get ys j hj] at hu
      cases hu
      exact hc ad rfl j hj
    · intro v' w' hown' hg _
      exact h v' w' (by rw [by8_app]; exact hown') (below_own hown hbase hg)

theorem own_lit (w : World) (zs : List Int) (h : zs.length ≤ 1000) : (w.alloc (.cells (by8 zs).toArray 5)).ownsRow w.heap.size 5 1 (.slice (some ⟨w.heap.size, 0, none⟩) zs.length zs.length) zs.length (by8 zs) := by
  have := World.ownsRow_lit (e := 5) (size := 1) (base := w.heap.size) w (by8 zs).toArray zs.length (Nat.le_refl _) (by unfold maxLen; omega) (by simp [by8_len])
  simpa using this
theorem Rd.lit (w : World) (zs : List Int) (h : zs.length ≤ 1000) (hz : Byt zs) : Rd (w.alloc (.cells (by8 zs).toArray 5)) (.slice (some ⟨w.heap.size, 0, none⟩) zs.length zs.length) zs :=
  (Rd.of_own (own_lit w zs h) hz).1
theorem own_block {w : World} {base g n : Nat} {e : TypeId} {xs : List Value} (h : w.ownsRow base e 1 (.slice (some ⟨g, 0, none⟩) n n) n xs) : w.heap[g]? = some (.cells xs.toArray e (0, 0)) ∧ xs.length = n ∧ base ≤ g ∧ n ≤ maxLen := by
  obtain ⟨h1, h2⟩ := h
  rcases h2 with ⟨h2, _⟩ | ⟨g', cap, cur, hv, hg, hh, h3, h4, h5, h6⟩
  · simp at h2
  · simp only [Value.slice.injEq, Option.some.injEq, Addr.mk.injEq, and_true, true_and] at hv
    obtain ⟨rfl, rfl⟩ := hv
    refine ⟨?_, by simpa using h1, hg, h4⟩
    have e : cur = xs.toArray := by
      rw [← h6, List.take_of_length_le (by simp [h5])]
    rw [← e]; exact hh
theorem own_of_block {w : World} {base g n : Nat} {e : TypeId} {xs : List Value} (h : w.heap[g]? = some (.cells xs.toArray e (0, 0))) (hn : xs.length = n) (hg : base ≤ g) (hm : n ≤ maxLen) : w.ownsRow base e 1 (.slice (some ⟨g, 0, none⟩) n n) n xs :=
  ⟨by omega, .inr ⟨g, n, xs.toArray, rfl, hg, h, Nat.le_refl _, hm, by simp [hn], List.take_of_length_le (by simp [hn])⟩⟩

/-- copy of bytes to the head of a row that the call owns. -/
theorem wpList_copy_bytes {P : Program} {w : World} {ops : Array Oper} {rest : List Oper} {o : Oper} {a : Act} {Q : Exit → Act → World → Prop} (d s : Operand) (t : TypeId)
    (hgd : o.guard = none) (ho : o.op = .call { callee := .builtin .copy, args := #[d, s], argTypes := #[t, t] })
    (hinfo : (P.info? 5).map (fun i => (i.zero, i.size, i.bytes)) = some (some (.int .u8 0), 1, 1)) (ht : P.underlying t = some (.slice 5))
    (base g n : Nat) (xs : List Value) (hd : a.eval d = .slice (some ⟨g, 0, none⟩) n n) (hown : w.ownsRow base 5 1 (.slice (some ⟨g, 0, none⟩) n n) n xs)
    (xv : Value) (ys : List Int) (hx : a.eval s = xv) (hr : Rd w xv ys) (hle : ys.length ≤ n)
    (h : ∀ w', w'.ownsRow base 5 1 (.slice (some ⟨g, 0, none⟩) n n) n (by8 ys ++ xs.drop ys.length) → Below base w w' → wpList P ops Q rest (a.put o.dst (.int .i64 ys.length)) w') : wpList P ops Q (o :: rest) a w := by
  obtain ⟨i, hi, hz0, hz1, hz2⟩ := info_parts hinfo
  obtain ⟨ao, cap, rfl, h1, h2, h3, _, hc⟩ := hr
  obtain ⟨hh, hl, hg, hm⟩ := own_block hown
  refine wpList_copy_splice hgd d s t t ho 5 ht (by simp [hi, hz1]) (some ⟨g, 0, none⟩) ao n n ys.length cap hd hx g 0 xs 5 hh (by8 ys) (by rw [by8_len]; exact (Nat.min_eq_left hle).symm) ?_ (by rw [by8_len]; omega) (by8_one ys) base w (Below.refl _ _) hg ?_
  · intro hp
    refine ⟨rfl, ?_⟩
    cases ao with
    | none => have := h3 rfl; rw [by8_len] at hp; omega
    | some ad =>
      refine ⟨ad, rfl, fun j u hu => ?_⟩
      have hj : j < ys.length := by
        have := (List.getElem?_eq_some_iff.1 hu).1
        simpa [by8_len] using this
      rw [by8_get ys j hj] at hu
      cases hu
      exact hc ad rfl j hj
  · intro w' hw' hb
    have e : splice xs 0 (by8 ys) = by8 ys ++ xs.drop ys.length := by simp [splice, by8_len]
    have h' := hw'.out
    rw [e] at h'
    have := h w' (own_of_block h' (by simp [by8_len]; omega) hg hm) hb
    simpa [by8_len, goInt] using this
#print axioms wpList_append_bytes
#print axioms wpList_copy_bytes
end Go.Proofs.YtepkhhpdpmhfaaaDoor
