/- The document's stream: its Put. -/
import Derived.Test.YtfgjlfcadpmkhaaSFront
import Derived.Test.YtfgjlfcadpmkhaaOwn2
namespace Go.Proofs.Ytfgjlfcadpmkhaa
open Go Go.RowKit

theorem heldL_snoc (hl : List (Int × Int)) (x : Int × Int) (p : Int) (hb : ∀ y ∈ hl, 0 ≤ y.2) : heldL (hl ++ [x]) p = if heldL hl p < 0 then (if x.1 = p then x.2 else -1) else heldL hl p := by
  induction hl with
  | nil => rw [List.nil_append, heldL_cons, heldL_nil]; simp
  | cons y hl ih =>
    rw [List.cons_append, heldL_cons, heldL_cons]
    by_cases h : y.1 = p
    · rw [if_pos h, if_pos h]
      have := hb y (by simp)
      rw [if_neg (by omega)]
    · rw [if_neg h, if_neg h]
      exact ih fun z hz => hb z (by simp [hz])
/-- What the document's Put tells. -/
inductive RPut (hl : List (Int × Int)) (t : Nat) (at' : Int) (zs : List Int) : Int → Prop
  | bad : (at' < 0 ∨ 1073741824 < at') → RPut hl t at' zs 1
  | far : (0 ≤ at' ∧ at' ≤ 1073741824) → (∃ i : Nat, i < zs.length ∧ 4096 ≤ at' + i - t) → RPut hl t at' zs 4
  | clash : (0 ≤ at' ∧ at' ≤ 1073741824) → (∀ i : Nat, i < zs.length → at' + i - t < 4096) → (∃ i : Nat, i < zs.length ∧ 0 ≤ heldL hl (at' + i) ∧ heldL hl (at' + i) ≠ zs.getD i 0) → RPut hl t at' zs 12
/-- The bytes that are held behind i bytes of a piece. -/
def Adds (hl : List (Int × Int)) (t : Nat) (at' : Int) (zs : List Int) (i : Nat) (hl' : List (Int × Int)) : Prop :=
  (∀ p, heldL hl' p = if at' ≤ p ∧ p < at' + i ∧ (t : Int) ≤ p ∧ heldL hl p < 0 then zs.getD (p - at').toNat 0 else heldL hl p) ∧ hl'.length ≤ hl.length + i
/-- The blocks that a Put may change. -/
def blksR (R : Nat) (av bv : Value) : List Nat := R :: (av.ownBlock.toList ++ bv.ownBlock.toList)
/-- Where the rows lie now: where they lay, or in new memory. -/
def NewOr (w : World) (v v' : Value) : Prop := ∀ g, v'.ownBlock = some g → v.ownBlock = some g ∨ w.heap.size ≤ g
def RPutPost (w : World) (R base t : Nat) (av bv : Value) (hl : List (Int × Int)) (at' : Int) (zs : List Int) (e : Ending) (w' : World) : Prop :=
  (∃ c, e = .returned (.int .i64 c) ∧ RPut hl t at' zs c ∧ w = w') ∨
  (e = .returned (.int .i64 0) ∧ (0 ≤ at' ∧ at' ≤ 1073741824) ∧ (∀ i : Nat, i < zs.length → at' + i - t < 4096) ∧ (∀ i : Nat, i < zs.length → heldL hl (at' + i) < 0 ∨ heldL hl (at' + i) = zs.getD i 0) ∧
    ∃ av' bv' hl', Rs w' R base t av' bv' hl' ∧ Adds hl t at' zs zs.length hl' ∧ Chg (blksR R av bv) w w' ∧ NewOr w av av' ∧ NewOr w bv bv')
theorem adds_skip {hl hl' : List (Int × Int)} {t i : Nat} {at' : Int} {zs : List Int} (h : Adds hl t at' zs i hl') (hs : ¬ (t : Int) ≤ at' + i ∨ ¬ heldL hl' (at' + i) < 0) : Adds hl t at' zs (i + 1) hl' := by
  refine ⟨fun p => ?_, by have := h.2; omega⟩
  rw [h.1 p]
  have hi := h.1 (at' + i)
  rw [if_neg (by omega)] at hi
  by_cases hp : p = at' + i
  · subst hp
    rw [if_neg (by omega), if_neg ?_]
    rintro ⟨_, _, h3, h4⟩
    rcases hs with hs | hs
    · exact hs h3
    · rw [hi] at hs; exact hs h4
  · by_cases hq : at' ≤ p ∧ p < at' + i ∧ (t : Int) ≤ p ∧ heldL hl p < 0
    · rw [if_pos hq, if_pos ⟨hq.1, by push_cast; omega, hq.2.2⟩]
    · rw [if_neg hq, if_neg fun h' => hq ⟨h'.1, by have := h'.2.1; push_cast at this; omega, h'.2.2⟩]
theorem heldL_ge {hl : List (Int × Int)} (hb : ∀ y ∈ hl, 0 ≤ y.2) (p : Int) : -1 ≤ heldL hl p := by
  induction hl with
  | nil => rw [heldL_nil]; omega
  | cons y hl ih =>
    rw [heldL_cons]
    split
    · have := hb y (by simp); omega
    · exact ih fun z hz => hb z (by simp [hz])
theorem adds_one {hl hl' : List (Int × Int)} {t i : Nat} {at' : Int} {zs : List Int} (h : Adds hl t at' zs i hl') (h1 : (t : Int) ≤ at' + i) (h2 : heldL hl' (at' + i) < 0) (hb : ∀ y ∈ hl', 0 ≤ y.2) : Adds hl t at' zs (i + 1) (hl' ++ [(at' + i, zs.getD i 0)]) := by
  refine ⟨fun p => ?_, by have := h.2; simp; omega⟩
  have hg := heldL_ge hb p
  rw [heldL_snoc _ _ _ hb]
  have hi := h.1 (at' + i)
  rw [if_neg (by omega)] at hi
  by_cases hp : p = at' + i
  · subst hp
    rw [hi] at h2
    rw [hi, if_pos h2, if_pos rfl, if_pos ⟨by omega, by push_cast; omega, h1, h2⟩]
    rw [show (at' + (i : Int) - at').toNat = i by omega]
  · have e : (if heldL hl' p < 0 then (if at' + (i : Int) = p then zs.getD i 0 else -1) else heldL hl' p) = heldL hl' p := by
      split
      · rw [if_neg (Ne.symm hp)]; omega
      · rfl
    rw [e, h.1 p]
    by_cases hq : at' ≤ p ∧ p < at' + i ∧ (t : Int) ≤ p ∧ heldL hl p < 0
    · rw [if_pos hq, if_pos ⟨hq.1, by push_cast; omega, hq.2.2⟩]
    · rw [if_neg hq, if_neg fun h' => hq ⟨h'.1, by have := h'.2.1; push_cast at this; omega, h'.2.2⟩]
theorem blks_ge {w : World} {R base t : Nat} {av bv : Value} {hl : List (Int × Int)} (h : Rs w R base t av bv hl) {m : Nat} (hm : m ≤ R) : ∀ k ∈ blksR R av bv, m ≤ k := by
  intro k hk
  have hl := h.low
  rcases List.mem_cons.1 hk with rfl | hk
  · exact hm
  · rcases List.mem_append.1 hk with hk | hk
    · have := (h.at'.lt k (by simpa using hk)).1; omega
    · have := (h.byte.lt k (by simpa using hk)).1; omega

theorem rd_at {w : World} {ao : Option Addr} {n c : Nat} {zs : List Int} (h : Rd w (.slice ao n c) zs) {i : Nat} (hi : i < zs.length) : ∃ ad, ao = some ad ∧ w.cell? (ad.add i) = some (.int .u8 (zs.getD i 0)) := by
  obtain ⟨a, cap, e, _, hc, hn, _, hb⟩ := h
  simp only [Value.slice.injEq] at e
  obtain ⟨rfl, rfl, rfl⟩ := e
  cases ao with
  | none => have := hn rfl; omega
  | some ad => exact ⟨ad, rfl, hb ad rfl i hi⟩

end Go.Proofs.Ytfgjlfcadpmkhaa
