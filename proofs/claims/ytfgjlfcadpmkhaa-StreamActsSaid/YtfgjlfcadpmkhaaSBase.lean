/- Slices of bytes in a seat without numbers: their parts, their clones; what stays where few blocks change. -/
import Derived.Test.YtfgjlfcadpmkhaaInv
import Derived.Test.YtfgjlfcadpmkhaaRf
import Derived.Laws.Cover3
namespace Go.Proofs.Ytfgjlfcadpmkhaa
open Go Go.RowKit

theorem Rd.shape {w : World} {v : Value} {zs : List Int} (h : Rd w v zs) : ∃ ao cap, v = .slice ao zs.length cap := by
  obtain ⟨ao, cap, hv, _⟩ := h
  exact ⟨ao, cap, hv⟩
theorem Rd.shape3 {w : World} {v : Value} {zs : List Int} (h : Rd w v zs) : ∃ ao n cap, v = .slice ao n cap := by
  obtain ⟨ao, cap, hv, _⟩ := h
  exact ⟨ao, _, cap, hv⟩
theorem heap_alloc2_new (w : World) (o o' : Obj) : ((w.alloc o).alloc o').heap[w.heap.size + 1]? = some o' := by
  have := heap_alloc_new (w.alloc o) o'
  simpa using this
theorem keepS {w w' : World} {a : Addr} {v : Value} (hb : Below w.heap.size w w') (h : w.cell? a = some v) : w'.cell? a = some v := by rw [hb.cell (cell_lt h)]; exact h
theorem row_keep {w w' : World} {B : Nat} {o : Obj} (hb : Below w.heap.size w w') (h : w.heap[B]? = some o) : w'.heap[B]? = some o := by
  rw [hb.block B (Array.getElem?_eq_some_iff.1 h).1]; exact h
/-- A slice's value that a cut can go through. -/
def Plain (v : Value) : Prop := v = .slice none 0 0 ∨ ∃ b off n cap, v = .slice (some ⟨b, off, none⟩) n cap
/-- A slice does not lie in the block g. -/
def Fa (g : Nat) (v : Value) (zs : List Int) : Prop := ∀ (a : Addr) (n cap : Nat), v = .slice (some a) n cap → zs ≠ [] → a.block ≠ g
theorem Ra.fa {lo g : Nat} {w : World} {v : Value} {zs : List Int} (h : Ra lo w v zs) (hg : g < lo) : Fa g v zs := fun a n cap e hz => by have := h.far a n cap e hz; omega
theorem Rd.lt_of {w : World} {v : Value} {zs : List Int} (h : Rd w v zs) {a : Addr} {n cap : Nat} (e : v = .slice (some a) n cap) (hz : zs ≠ []) : a.block < w.heap.size := by
  obtain ⟨ao, c, hv, _, _, _, _, hc⟩ := h
  rw [e] at hv
  cases hv
  have := cell_lt (hc a rfl 0 (List.length_pos_iff.2 hz))
  have e : (a.add 0).block = a.block := by unfold Addr.add; split <;> rfl
  omega
theorem Rd.fa {w : World} {v : Value} {zs : List Int} (h : Rd w v zs) {g : Nat} (hg : w.heap.size ≤ g) : Fa g v zs := fun a n cap e hz => by have := h.lt_of e hz; omega
/-- Nothing but the blocks S has changed of what was there. -/
structure Chg (S : List Nat) (w w' : World) : Prop where
  os : w'.os = w.os
  tape : w'.tape = w.tape
  output : w'.output = w.output
  size : w.heap.size ≤ w'.heap.size
  block : ∀ k, k < w.heap.size → k ∉ S → w'.heap[k]? = w.heap[k]?
theorem Chg.refl (S : List Nat) (w : World) : Chg S w w := ⟨rfl, rfl, rfl, Nat.le_refl _, fun _ _ _ => rfl⟩
theorem Chg.trans {S : List Nat} {a b c : World} (h : Chg S a b) (k : Chg S b c) : Chg S a c :=
  ⟨k.os.trans h.os, k.tape.trans h.tape, k.output.trans h.output, Nat.le_trans h.size k.size, fun i hi hn => (k.block i (Nat.lt_of_lt_of_le hi h.size) hn).trans (h.block i hi hn)⟩
theorem Chg.of_below {S : List Nat} {w w' : World} (h : Below w.heap.size w w') : Chg S w w' := ⟨h.os, h.tape, h.output, h.size, fun k hk _ => h.block k hk⟩
theorem Chg.alloc {S : List Nat} (w : World) (o : Obj) : Chg S w (w.alloc o) := .of_below (below_alloc w o)
theorem Chg.set {S : List Nat} {B : Nat} (w : World) (i : Nat) (v : Value) (h : B ∈ S) : Chg S w (w.setCell ⟨B, i, none⟩ v) :=
  ⟨rfl, rfl, rfl, by simp [World.setCell], fun k _ hn => Below.heap_setCell _ _ _ _ (fun e => hn (e ▸ h))⟩
theorem Chg.put {S : List Nat} {B : Nat} (w : World) (o : Obj) (h : B ∈ S) : Chg S w (w.putObj B o) :=
  ⟨rfl, rfl, rfl, by simp, fun k _ hn => World.putObj_heap_other (fun e => hn (e ▸ h))⟩
theorem Chg.grown {S : List Nat} {w w' : World} {row : Option Nat} (hg : w.grownBy w' row) (h : ∀ g, row = some g → g ∈ S) : Chg S w w' := by
  have hb : Below 0 w w' := (Below.refl 0 w).grown hg (Nat.zero_le _) fun k _ => Nat.zero_le _
  exact ⟨hb.os, hb.tape, hb.output, hb.size, fun k hk hn => hg.block k hk (fun e => hn (h k e.symm))⟩
theorem Chg.below {S : List Nat} {w0 w w' : World} (h : Chg S w w') (hb : Below w0.heap.size w0 w) (hS : ∀ k ∈ S, w0.heap.size ≤ k) : Below w0.heap.size w0 w' :=
  ⟨h.os.trans hb.os, h.tape.trans hb.tape, h.output.trans hb.output, Nat.le_trans hb.size h.size, fun k hk => (h.block k (Nat.lt_of_lt_of_le hk hb.size) (fun e => by have := hS k e; omega)).trans (hb.block k hk)⟩
theorem Rd.chg {S : List Nat} {w w' : World} {v : Value} {zs : List Int} (h : Rd w v zs) (hc : Chg S w w') (hf : ∀ g ∈ S, Fa g v zs) : Rd w' v zs := by
  obtain ⟨ao, cap, hv, h1, h2, h3, h4, hcell⟩ := h
  refine ⟨ao, cap, hv, h1, h2, h3, h4, fun a ha j hj => ?_⟩
  have hz : zs ≠ [] := fun e => by rw [e] at hj; simp at hj
  have hx := hcell _ ha j hj
  rw [← hx]
  have e : (a.add j).block = a.block := by unfold Addr.add; split <;> rfl
  refine World.cell?_of_block (w := w) (hc.block _ (cell_lt hx) fun hin => ?_)
  rw [e] at hin
  exact hf _ hin a zs.length cap (by rw [hv, ha]) hz rfl
theorem Ra.chg {S : List Nat} {lo : Nat} {w w' : World} {v : Value} {zs : List Int} (h : Ra lo w v zs) (hc : Chg S w w') (hf : ∀ g ∈ S, Fa g v zs) : Ra lo w' v zs := ⟨h.rd.chg hc hf, h.far⟩
theorem own_same {w w' : World} {base : Nat} {e : TypeId} {size : Nat} {v : Value} {n : Nat} {xs : List Value} (h : w.ownsRow base e size v n xs) (hs : ∀ g, v.ownBlock = some g → w'.heap[g]? = w.heap[g]?) : w'.ownsRow base e size v n xs := by
  obtain ⟨h1, h2⟩ := h
  refine ⟨h1, ?_⟩
  rcases h2 with h2 | ⟨g, cap, cur, rfl, hg, hh, r⟩
  · exact .inl h2
  · exact .inr ⟨g, cap, cur, rfl, hg, by rw [hs g rfl]; exact hh, r⟩
theorem wpIn_world {F : Fence} {n : Nat} {P : Program} {c : Code} {Q : Exit → Act → World → Prop} {a : Act} {W : World} (C : World → Prop) (hC : C W) (h : ∀ W', C W' → Code.wpIn F n P c Q a W') : Code.wpIn F n P c Q a W := h W hC
theorem unfrozen {w : World} {b : Nat} {cs : Array Value} {t : TypeId} (h : w.heap[b]? = some (.cells cs t (0, 0))) : ∀ j, w.frozen? ⟨b, j, none⟩ = false := fun j => by simp [World.frozen?, h]
theorem cells_at {w : World} {b : Nat} {l : List Value} (h : ∀ i, w.cell? ⟨b, i, none⟩ = l.toArray[i]?) : ∀ j u, l[j]? = some u → w.cell? (({ block := b, off := 0, spot := none } : Addr).add j) = some u := fun j u hu => by
  rw [Addr.add_lit, show 0 + j = j by omega, h j]
  simpa using hu
theorem ra_own {w : World} {base : Nat} {v : Value} {n : Nat} {zs : List Int} (h : w.ownsRow base 5 1 v n (by8 zs)) (hz : Byt zs) : Ra base w v zs ∧ Plain v := by
  have hr := (Rd.of_own h hz).1
  rcases h.2 with ⟨rfl, _⟩ | ⟨g, cap, cur, rfl, hg, _⟩
  · exact ⟨⟨hr, fun a n cap e => by cases e⟩, .inl rfl⟩
  · exact ⟨⟨hr, fun a n cap e _ => by cases e; exact hg⟩, .inr ⟨_, _, _, _, rfl⟩⟩
theorem elem_bytes : Try.prog.underlying 29 = some (.slice (Try.prog.elem 29)) := by kernel_rfl
theorem size_elem (w : World) : (sizeOf (Try.prog.elem 29)).run Try.prog w = .ok 1 w := by
  have e : Try.prog.elem 29 = 5 := by kernel_rfl
  rw [e]
  have hi : ∃ i, Try.prog.info? 5 = some i ∧ i.size = 1 := by
    obtain ⟨i, hi, _, hz, _⟩ := info_parts info5
    exact ⟨i, hi, hz⟩
  obtain ⟨i, hi, hs⟩ := hi
  simp [sizeOf, typeInfo, hi, hs, go_sem]
theorem rd_piece {w : World} {ao : Option Addr} {cap : Nat} {zs : List Int} (hr : Rd w (.slice ao zs.length cap) zs) (hp : Plain (.slice ao zs.length cap)) (l h : Nat) (h1 : l ≤ h) (h2 : h ≤ zs.length) :
    ∃ a', sliced ao l h cap 1 = .slice a' (h - l) (cap - l) ∧ Rd w (.slice a' (h - l) (cap - l)) ((zs.take h).drop l) ∧ Plain (.slice a' (h - l) (cap - l)) := by
  have hlen : ((zs.take h).drop l).length = h - l := by simp; omega
  obtain ⟨ao', cap', e, c1, c2, c3, c4, c5⟩ := hr
  simp only [Value.slice.injEq] at e
  obtain ⟨rfl, _, rfl⟩ := e
  rcases hp with e | ⟨b, off, n, cp, e⟩
  · simp only [Value.slice.injEq] at e
    obtain ⟨rfl, e2, rfl⟩ := e
    have hl0 : l = 0 := by omega
    have hh0 : h = 0 := by omega
    subst hl0
    subst hh0
    refine ⟨none, rfl, ?_, .inl rfl⟩
    have hz : zs = [] := List.eq_nil_of_length_eq_zero e2
    subst hz
    exact Rd.nil w
  · simp only [Value.slice.injEq] at e
    obtain ⟨rfl, rfl, rfl⟩ := e
    refine ⟨if cap = l then some ⟨b, off, none⟩ else some ⟨b, off + l, none⟩, ?_, ?_, ?_⟩
    · unfold sliced
      congr 1
      by_cases hc : cap = l
      · rw [if_pos hc, if_pos hc]
      · rw [if_neg hc, if_neg hc]
        simp [Addr.add_lit]
    · rw [← hlen]
      refine ⟨_, cap - l, rfl, by omega, by omega, fun e => ?_, (c4.take h).drop l, fun a ha j hj => ?_⟩
      · split at e <;> cases e
      · rw [hlen] at hj
        rw [if_neg (by omega)] at ha
        cases ha
        have hc := c5 _ rfl (l + j) (by omega)
        rw [Addr.add_lit] at hc ⊢
        rw [show off + l + j = off + (l + j) from by omega, hc]
        simp [List.getD, show l + j < h by omega]
    · by_cases hc : cap = l
      · rw [if_pos hc]; exact .inr ⟨_, _, _, _, rfl⟩
      · rw [if_neg hc]; exact .inr ⟨_, _, _, _, rfl⟩
theorem part_h {w : World} {ao : Option Addr} {cap : Nat} {zs : List Int} (hr : Rd w (.slice ao zs.length cap) zs) (hp : Plain (.slice ao zs.length cap)) (h : Nat) (h2 : h ≤ zs.length) :
    ∃ a', (∀ wx, (Instr.slice 29 (.slice ao zs.length cap) none (some (.int .i64 h)) none).run Try.prog wx = .ok (.slice a' h cap) wx) ∧ Rd w (.slice a' h cap) (zs.take h) ∧ Plain (.slice a' h cap) := by
  obtain ⟨a', e, h3, h4⟩ := rd_piece hr hp 0 h (Nat.zero_le _) h2
  have hc : zs.length ≤ cap := by obtain ⟨_, _, e, c1, _⟩ := hr; simp only [Value.slice.injEq] at e; omega
  refine ⟨a', fun wx => ?_, by simpa using h3, by simpa using h4⟩
  rw [run_slice_h _ _ _ _ _ elem_bytes .i64 h (by omega) (by omega), size_elem]
  simp only [Result.andThen, Int.toNat_natCast, e, Nat.sub_zero]
theorem part_lh {w : World} {ao : Option Addr} {cap : Nat} {zs : List Int} (hr : Rd w (.slice ao zs.length cap) zs) (hp : Plain (.slice ao zs.length cap)) (l h : Nat) (h1 : l ≤ h) (h2 : h ≤ zs.length) :
    ∃ a', (∀ wx, (Instr.slice 29 (.slice ao zs.length cap) (some (.int .i64 l)) (some (.int .i64 h)) none).run Try.prog wx = .ok (.slice a' (h - l) (cap - l)) wx) ∧ Rd w (.slice a' (h - l) (cap - l)) ((zs.take h).drop l) ∧ Plain (.slice a' (h - l) (cap - l)) := by
  obtain ⟨a', e, h3, h4⟩ := rd_piece hr hp l h h1 h2
  have hc : zs.length ≤ cap := by obtain ⟨_, _, e, c1, _⟩ := hr; simp only [Value.slice.injEq] at e; omega
  refine ⟨a', fun wx => ?_, h3, h4⟩
  rw [run_slice_lh _ _ _ _ _ elem_bytes .i64 .i64 l h (by omega) (by omega) (by omega), size_elem]
  simp only [Result.andThen, Int.toNat_natCast, e]
theorem part_l {w : World} {ao : Option Addr} {cap : Nat} {zs : List Int} (hr : Rd w (.slice ao zs.length cap) zs) (hp : Plain (.slice ao zs.length cap)) (l : Nat) (h2 : l ≤ zs.length) :
    ∃ a', (∀ wx, (Instr.slice 29 (.slice ao zs.length cap) (some (.int .i64 l)) none none).run Try.prog wx = .ok (.slice a' (zs.length - l) (cap - l)) wx) ∧ Rd w (.slice a' (zs.length - l) (cap - l)) (zs.drop l) ∧ Plain (.slice a' (zs.length - l) (cap - l)) := by
  obtain ⟨a', e, h3, h4⟩ := rd_piece hr hp l zs.length h2 (Nat.le_refl _)
  refine ⟨a', fun wx => ?_, by simpa using h3, h4⟩
  rw [run_slice_l _ _ _ _ _ elem_bytes .i64 l (by omega) (by omega), size_elem]
  simp only [Result.andThen, Int.toNat_natCast, e]
#print axioms part_lh
end Go.Proofs.Ytfgjlfcadpmkhaa
