/- fields: what a reader of bytes holds, told beside the world where the bytes came in; cut, told so. -/
import Derived.Test.YtgcgmgcgbnepeaaDoorFCut
import Derived.Test.YtgcgmgcgbnepeaaDoorInv
import Derived.Test.YtgcgmgcgbnepeaaDoorHv
namespace Go.Proofs.YtgcgmgcgbnepeaaDoor
open Go Go.RowKit

/-- Nothing but the block B has changed of what was there. -/
structure But (B : Nat) (w w' : World) : Prop where
  os : w'.os = w.os
  tape : w'.tape = w.tape
  output : w'.output = w.output
  size : w.heap.size ≤ w'.heap.size
  block : ∀ k, k < w.heap.size → k ≠ B → w'.heap[k]? = w.heap[k]?
theorem But.refl (B : Nat) (w : World) : But B w w := ⟨rfl, rfl, rfl, Nat.le_refl _, fun _ _ _ => rfl⟩
theorem But.trans {B : Nat} {a b c : World} (h : But B a b) (k : But B b c) : But B a c :=
  ⟨k.os.trans h.os, k.tape.trans h.tape, k.output.trans h.output, Nat.le_trans h.size k.size, fun i hi hn => (k.block i (Nat.lt_of_lt_of_le hi h.size) hn).trans (h.block i hi hn)⟩
theorem But.of_below {B : Nat} {w w' : World} (h : Below w.heap.size w w') : But B w w' := ⟨h.os, h.tape, h.output, h.size, fun k hk _ => h.block k hk⟩
theorem But.below {B : Nat} {w0 w w' : World} (h : But B w w') (hb : Below w0.heap.size w0 w) (hB : w0.heap.size ≤ B) : Below w0.heap.size w0 w' :=
  ⟨h.os.trans hb.os, h.tape.trans hb.tape, h.output.trans hb.output, Nat.le_trans hb.size h.size, fun k hk => (h.block k (Nat.lt_of_lt_of_le hk hb.size) (by omega)).trans (hb.block k hk)⟩
theorem But.set (w : World) (B i : Nat) (v : Value) : But B w (w.setCell ⟨B, i, none⟩ v) :=
  ⟨rfl, rfl, rfl, by simp [World.setCell], fun k _ hn => Below.heap_setCell _ _ _ _ hn⟩
theorem But.drew {B : Nat} {w w' : World} (h : But B w w') : But B w w'.drew := ⟨h.os, h.tape, h.output, h.size, h.block⟩
theorem But.drewN {B : Nat} {w : World} : ∀ n, But B w (w.drewN n)
  | 0 => But.refl _ _
  | n + 1 => (But.drewN n).drew
theorem Ra.but {lo B : Nat} {w w' : World} {v : Value} {zs : List Int} (h : Ra lo w v zs) (hb : But B w w') (hB : B < lo) : Ra lo w' v zs := by
  refine ⟨?_, h.far⟩
  obtain ⟨ao, cap, hv, h1, h2, h3, h4, hc⟩ := h.rd
  refine ⟨ao, cap, hv, h1, h2, h3, h4, fun a ha j hj => ?_⟩
  have hz : zs ≠ [] := fun e => by rw [e] at hj; simp at hj
  have hne := h.far a zs.length cap (by rw [hv, ha]) hz
  have hcell := hc _ ha j hj
  rw [← hcell]
  exact World.cell?_of_block (w := w) (hb.block _ (cell_lt hcell) (by have e : (a.add j).block = a.block := (by unfold Addr.add; split <;> rfl); rw [e]; omega))

/-- A slice's value that a cut can go through. -/
def Plain (v : Value) : Prop := v = .slice none 0 0 ∨ ∃ b off n cap, v = .slice (some ⟨b, off, none⟩) n cap
/-- A reader of bytes in the box B: what is left reads in the world where the bytes came in. -/
structure Fq (w0 w : World) (B : Nat) (rest : List Int) (t : Nat) (short : Int) : Prop where
  bel : Below w0.heap.size w0 w
  lo : w0.heap.size ≤ B
  sum : t + rest.length ≤ 1000000
  box : ∃ rv, w.heap[B]? = some (.cells #[rv, .int .i64 (t : Int), .int .i64 short] 78 (0, 0)) ∧ Rd w0 rv rest ∧ Plain rv
theorem Fq.lt {w0 w : World} {B : Nat} {rest : List Int} {t : Nat} {short : Int} (h : Fq w0 w B rest t short) : B < w.heap.size := by
  obtain ⟨rv, hb, _⟩ := h.box
  exact (Array.getElem?_eq_some_iff.1 hb).1
theorem Fq.keep {w0 w w' : World} {B : Nat} {rest : List Int} {t : Nat} {short : Int} (h : Fq w0 w B rest t short) (hb : Below w.heap.size w w') : Fq w0 w' B rest t short := by
  obtain ⟨rv, h1, h2⟩ := h.box
  exact ⟨h.bel.trans (hb.mono h.bel.size), h.lo, h.sum, rv, by rw [hb.block B h.lt]; exact h1, h2⟩
theorem Fq.but {w0 w w' : World} {B R : Nat} {rest : List Int} {t : Nat} {short : Int} (h : Fq w0 w B rest t short) (hb : But R w w') (hR : w0.heap.size ≤ R) (hne : B ≠ R) : Fq w0 w' B rest t short := by
  obtain ⟨rv, h1, h2⟩ := h.box
  exact ⟨hb.below h.bel hR, h.lo, h.sum, rv, by rw [hb.block B h.lt hne]; exact h1, h2⟩
theorem wrap_in {a : Int} (h : 0 ≤ a) (h2 : a ≤ 1000000) : wrap64 a = a := IntWalk.wrap64_in _ ⟨by omega, by omega⟩

/-- cut, where there are enough bytes. -/
theorem cut_q {w0 w : World} {B : Nat} {rest : List Int} {t : Nat} {short : Int} (h : Fq w0 w B rest t short) (k : Nat) (hk : k ≤ rest.length) :
    Calls Tryd.prog 59 #[.pointer (some ⟨B, 0, none⟩), .int .i64 (k : Int)] w fun r w' => ∃ pv, r = .returned pv ∧ (Rd w0 pv (rest.take k) ∧ Plain pv) ∧ Fq w0 w' B (rest.drop k) (t + k) short ∧ But B w w' := by
  obtain ⟨rv, hbox, hrd, hp⟩ := h.box
  have hw : wrap64 ((t : Int) + (k : Int)) = ((t + k : Nat) : Int) := by rw [wrap_in (by omega) (by have := h.sum; omega)]; omega
  have hlen : (rest.drop k).length = rest.length - k := by simp
  have hbut : ∀ (x y : Value), But B w ((w.setCell ⟨B, 0, none⟩ x).setCell ⟨B, 1, none⟩ y).drew := fun x y => ((But.set w B 0 x).trans (But.set _ B 1 y)).drew
  have hheap : ∀ (x y : Value), ((w.setCell ⟨B, 0, none⟩ x).setCell ⟨B, 1, none⟩ y).drew.heap[B]? = some (.cells #[x, y, .int .i64 short] 78 (0, 0)) := by
    intro x y
    have e0 := heap_setCell_same w B 0 _ 78 x hbox
    simp only [List.setIfInBounds_toArray, List.set_cons_zero] at e0
    have e1 := heap_setCell_same _ B 1 _ 78 y e0
    simp only [List.setIfInBounds_toArray, List.set_cons_zero, List.set_cons_succ] at e1
    exact e1
  have hsum := h.sum
  rcases hp with rfl | ⟨b, off, n, cap, rfl⟩
  · have hz : rest = [] := by
      obtain ⟨_, _, e, _⟩ := hrd
      simp only [Value.slice.injEq] at e
      exact List.eq_nil_of_length_eq_zero e.2.1.symm
    subst hz
    obtain rfl : k = 0 := by simpa using hk
    refine (cut_null (taken := t) (short := short) ⟨hbox, Rd.nil w⟩).mono ?_
    rintro r w' ⟨rfl, rfl⟩
    have hw0 : wrap64 (t : Int) = ((t + 0 : Nat) : Int) := by simpa using hw
    rw [hw0]
    exact ⟨_, rfl, ⟨Rd.nil w0, .inl rfl⟩, ⟨(hbut _ _).below h.bel h.lo, h.lo, by simpa using hsum, _, hheap _ _, Rd.nil w0, .inl rfl⟩, hbut _ _⟩
  · obtain ⟨ao, cap', e, h1, h2, h3, h4, h5⟩ := hrd
    simp only [Value.slice.injEq] at e
    obtain ⟨rfl, rfl, rfl⟩ := e
    have hrd' : Rd w0 (.slice (some ⟨b, off, none⟩) rest.length cap) rest := ⟨_, cap, rfl, h1, h2, h3, h4, h5⟩
    have hrw : Rd w (.slice (some ⟨b, off, none⟩) rest.length cap) rest := hrd'.below h.bel
    refine (cut_some (taken := t) (short := short) ⟨hbox, hrw⟩ k hk h1).mono ?_
    rintro r w' ⟨rfl, o, ho, rfl⟩
    rw [hw]
    refine ⟨_, rfl, ⟨?_, .inr ⟨_, _, _, _, rfl⟩⟩, ⟨(hbut _ _).below h.bel h.lo, h.lo, by rw [hlen]; omega, _, hheap _ _, ?_, .inr ⟨_, _, _, _, rfl⟩⟩, hbut _ _⟩
    · have := hrd'.take k hk
      simpa [Nat.min_eq_left hk] using this
    · refine ⟨_, cap - k, by rw [hlen], by omega, by omega, (fun h => by cases h), h4.drop k, fun a ha j hj => ?_⟩
      cases ha
      rw [hlen] at hj
      rcases ho with rfl | rfl
      · have := h5 _ rfl (k + j) (by omega)
        rw [Addr.add_lit] at this ⊢
        rw [show off + k + j = off + (k + j) from by omega, this]
        simp [List.getD]
      · omega

/-- cut, where there are too few. -/
theorem cut_e {w0 w : World} {B : Nat} {rest : List Int} {t : Nat} {short : Int} (h : Fq w0 w B rest t short) (n : Int) (hn : (rest.length : Int) < n) :
    Calls Tryd.prog 59 #[.pointer (some ⟨B, 0, none⟩), .int .i64 n] w fun r w' => r = errPanic short ∧ But B w w' := by
  obtain ⟨rv, hbox, hrd, hp⟩ := h.box
  obtain ⟨ao, cap, rfl, _⟩ := hrd.shape
  refine (cut_no (taken := t) (short := short) ⟨hbox, hrd.below h.bel⟩ n hn).mono ?_
  rintro r w' ⟨rfl, k, rfl⟩
  exact ⟨rfl, But.drewN k⟩
#print axioms cut_q
#print axioms cut_e
end Go.Proofs.YtgcgmgcgbnepeaaDoor
