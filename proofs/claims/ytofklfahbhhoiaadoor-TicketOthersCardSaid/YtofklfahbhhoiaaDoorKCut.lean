/- What stays but for one block; parts of a slice. -/
import Derived.Test.YtofklfahbhhoiaaDoorTake
import Derived.Laws.Cover3
import Derived.Laws.Rows
import Derived.Lib.BufferMore
import Derived.Laws.IdiomRangeMap
namespace Go.Proofs.YtofklfahbhhoiaaDoor
open Go Go.RowKit

/-- Nothing but the block B has changed of what was there. -/
structure But (B : Nat) (w w' : World) : Prop where
  os : w'.os = w.os
  tape : w'.tape = w.tape
  output : w'.output = w.output
  size : w.heap.size ≤ w'.heap.size
  block : ∀ k, k < w.heap.size → k ≠ B → w'.heap[k]? = w.heap[k]?
theorem But.refl (B : Nat) (w : World) : But B w w := ⟨rfl, rfl, rfl, Nat.le_refl _, fun _ _ _ => rfl⟩
theorem But.trans {B : Nat} {a b c : World} (h : But B a b) (k : But B b c) : But B a c :=
  ⟨k.os.trans h.os, k.tape.trans h.tape, k.output.trans h.output, Nat.le_trans h.size k.size, fun i hi hn => (k.block i (Nat.lt_of_lt_of_le hi h.size) hn).trans (h.block i hi hn)⟩
theorem But.of_below {B : Nat} {w w' : World} (h : Below w.heap.size w w') : But B w w' := ⟨h.os, h.tape, h.output, h.size, fun k hk _ => h.block k hk⟩
theorem But.below {B : Nat} {w0 w w' : World} (h : But B w w') (hb : Below w0.heap.size w0 w) (hB : w0.heap.size ≤ B) : Below w0.heap.size w0 w' :=
  ⟨h.os.trans hb.os, h.tape.trans hb.tape, h.output.trans hb.output, Nat.le_trans hb.size h.size, fun k hk => (h.block k (Nat.lt_of_lt_of_le hk hb.size) (by omega)).trans (hb.block k hk)⟩
theorem But.set (w : World) (B i : Nat) (v : Value) : But B w (w.setCell ⟨B, i, none⟩ v) :=
  ⟨rfl, rfl, rfl, by simp [World.setCell], fun k _ hn => Below.heap_setCell _ _ _ _ hn⟩
theorem But.drew {B : Nat} {w w' : World} (h : But B w w') : But B w w'.drew := ⟨h.os, h.tape, h.output, h.size, h.block⟩
theorem But.drewN {B : Nat} {w : World} : ∀ n, But B w (w.drewN n)
  | 0 => But.refl _ _
  | n + 1 => (But.drewN n).drew
/-- A slice's value that a cut can go through. -/
def Plain (v : Value) : Prop := v = .slice none 0 0 ∨ ∃ b off n cap, v = .slice (some ⟨b, off, none⟩) n cap
theorem rd_part {w : World} {ao : Option Addr} {cap : Nat} {zs : List Int} (h : Rd w (.slice ao zs.length cap) zs) (hp : Plain (.slice ao zs.length cap)) (t k : Nat) (ht : t + k ≤ zs.length) :
    Rd w (.slice (Option.map (fun x => x.add t) ao) k (cap - t)) ((zs.drop t).take k) ∧ Plain (.slice (Option.map (fun x => x.add t) ao) k (cap - t)) := by
  obtain ⟨ao', cap', e, h1, h2, h3, h4, h5⟩ := h
  simp only [Value.slice.injEq] at e
  obtain ⟨rfl, _, rfl⟩ := e
  have hl : ((zs.drop t).take k).length = k := by simp; omega
  rcases hp with hp | ⟨b, off, n', c', hp⟩
  · simp only [Value.slice.injEq] at hp
    obtain ⟨rfl, hz, rfl⟩ := hp
    have hk : k = 0 := by omega
    subst hk
    have ht0 : t = 0 := by omega
    subst ht0
    exact ⟨by simpa using Rd.nil w, .inl (by simp)⟩
  · simp only [Value.slice.injEq] at hp
    obtain ⟨rfl, _, _⟩ := hp
    have e : (⟨b, off, none⟩ : Addr).add t = ⟨b, off + t, none⟩ := Addr.add_lit _ _ _
    simp only [Option.map_some, e]
    refine ⟨⟨_, cap - t, by rw [hl], by omega, by omega, (fun h => by cases h), (h4.drop t).take k, fun a ha j hj => ?_⟩, .inr ⟨_, _, _, _, rfl⟩⟩
    cases ha
    rw [hl] at hj
    have := h5 _ rfl (t + j) (by omega)
    rw [Addr.add_lit] at this ⊢
    rw [show off + t + j = off + (t + j) from by omega, this]
    simp [List.getD, hj]
theorem rd_part0 {w : World} {ao : Option Addr} {cap : Nat} {zs : List Int} (h : Rd w (.slice ao zs.length cap) zs) (hp : Plain (.slice ao zs.length cap)) (t k : Nat) (ht : t + k ≤ zs.length) (hc : cap = t) :
    Rd w (.slice ao k 0) ((zs.drop t).take k) ∧ Plain (.slice ao k 0) := by
  obtain ⟨ao', cap', e, h1, h2, h3, h4, h5⟩ := h
  simp only [Value.slice.injEq] at e
  obtain ⟨rfl, _, rfl⟩ := e
  have hk : k = 0 := by omega
  subst hk
  rw [List.take_zero]
  refine ⟨⟨ao, 0, rfl, Nat.le_refl _, by omega, fun _ => rfl, Byt.nil, fun a _ j hj => by simp at hj⟩, ?_⟩
  rcases hp with hp | ⟨b, off, n', c', hp⟩
  · simp only [Value.slice.injEq] at hp
    obtain ⟨rfl, _⟩ := hp
    exact .inl rfl
  · simp only [Value.slice.injEq] at hp
    obtain ⟨rfl, _⟩ := hp
    exact .inr ⟨_, _, _, _, rfl⟩
/-- What is left behind a number, whichever way it is cut. -/
theorem rd_bound {zs : List Int} (hb : Byt zs) : ∃ s : Nat, (rd zs).2.1 = (s : Int) ∧ s ≤ zs.length := by
  have h := rd_bd zs hb
  by_cases he : (rd zs).2.2 = 0
  · obtain ⟨h1, h2, _⟩ := h.2.1 he
    exact ⟨(rd zs).2.1.toNat, by omega, by omega⟩
  · refine ⟨0, ?_, Nat.zero_le _⟩
    cases zs with
    | nil => rfl
    | cons z r =>
      simp only [rd] at he ⊢
      split
      · rfl
      · rename_i h1
        rw [if_neg h1] at he
        split
        · rename_i h2
          rw [if_pos h2] at he
          exact absurd rfl he
        · rfl
#print axioms rd_part0
end Go.Proofs.YtofklfahbhhoiaaDoor
