/- stream.first: the message with which bytes begin, in their memory. -/
import Derived.Test.YtefcjggmlhoebaaDoorGPure
import Derived.WalkSpells
import Derived.WalkLawsBesides
import Derived.Outline
import Derived.Lib.Hide
import Derived.RangeFuncNested
import Derived.RangeFuncBound
import Derived.RangeFuncCalls
import Derived.RangeFuncLeaves
import Derived.Shelf.Abstract
import Derived.Shelf.RegionOpen
import Derived.WalkKit
import Derived.OwnWalkIn
import Derived.TacticsInMore
import Derived.LoopNIn
import Derived.LoopIn
import Derived.Maps.AppendAt
import Derived.Maps.OwnIn
import Derived.Test.YtefcjggmlhoebaaDoorInv
import Derived.Laws.Cover3
import Derived.Deep.QuietTactic
import Derived.BigQuiet
import Derived.IntWalk
namespace Go.Proofs.YtefcjggmlhoebaaDoor
open Go Go.RowKit

end Go.Proofs.YtefcjggmlhoebaaDoor
namespace Go.Proofs.YtefcjggmlhoebaaDoor
open Go Go.RowKit

/-- The record of the loop that begins at the activation a. -/
def recd (fn : FuncId) (a : Act) (ps : Array Tmp) (assign body : Code) (D : Nat) (st : LoopState) (pe : Option Code) : Loop :=
  { state := st, pending := pe, fn := fn, tmps := a.tmps, params := ps, assign := assign, body := body, defers := D }
/-- The activation behind the loop: the block for the rounds' deferred calls is marked. -/
def marked (a : Act) (D : Nat) : Act := { a with defers := { target := .collected D, args := #[] } :: a.defers }

/-- The loop: its iterator is called once, with the record laid; it ends with the record ready (all have come) or with a jump taken up. -/
theorem range_open {P : Program} {g : Operand} {ps : Array Tmp} {assign body : Code} {Q : Exit → Act → World → Prop} {a : Act} {w : World} {gf : Nat} {lb : Array Value}
    (hg : a.eval g = .func (.func gf) #[] lb) (eg : ∀ args w, (callFunc gf args).run P w = .ok (.enter gf args) w)
    (h : ∀ fn, Calls P gf (#[.func (.yield (w.heap.size + 1)) #[] #[]] ++ lb) ((w.alloc (.deferred (some []))).alloc (.loop (recd fn a ps assign body w.heap.size .ready none))) fun e W =>
      (∃ v, e = .returned v) ∧
        ((W.heap[w.heap.size + 1]? = some (.loop (recd fn a ps assign body w.heap.size .ready none)) ∧ ∀ o, Q .normal (marked a w.heap.size) (W.putObj (w.heap.size + 1) o)) ∨
         ∃ c, W.heap[w.heap.size + 1]? = some (.loop (recd fn a ps assign body w.heap.size .done (some c))) ∧ ∀ o, c.wp P Q (marked a w.heap.size) (W.putObj (w.heap.size + 1) o))) :
    (Code.rangeFunc g ps assign body).wp P Q a w := by
  refine (wpIn_wide (n := 0)).1 (wpIn_rangeFunc fun fn _ => ?_)
  obtain ⟨W1, hW1⟩ : ∃ W1, (w.alloc (.deferred (some []))).alloc (.loop (recd fn a ps assign body w.heap.size .ready none)) = W1 := ⟨_, rfl⟩
  have h := h fn
  rw [hW1] at h
  refine ⟨w.heap.size + 1, [{ target := .collected w.heap.size, args := #[] }], W1, { target := .fn (.func gf) lb, args := #[.func (.yield (w.heap.size + 1)) #[] #[]] }, W1, gf,
    #[.func (.yield (w.heap.size + 1)) #[] #[]] ++ lb, W1, hW1 ▸ run_enterLoop_outer fn a.tmps ps assign body, ?_, fun _ _ => trivial, ?_, (by intro h; cases h), ?_⟩
  · simp only [resolve, hg]
    simp [go_sem]
  · simp [invoke, go_sem, eg]
  · refine (callsIn_wide.2 h).mono ?_
    rintro e W ⟨⟨v, rfl⟩, (⟨hl, hq⟩ | ⟨c, hl, hq⟩)⟩
    · exact ⟨none, _, run_endLoop (P := P) hl (by simp [recd]), hq _⟩
    · exact ⟨some c, _, run_endLoop (P := P) hl (by simp [recd]), wpIn_wide.2 (hq _)⟩

/-- How a round's body may be left, the record busy. -/
def roundEnd (l : Nat) (fn : FuncId) (a : Act) (ps : Array Tmp) (assign body : Code) (D : Nat) (R : Ending → World → Prop) : Exit → Act → World → Prop
  | .normal, _, W => W.heap[l]? = some (.loop (recd fn a ps assign body D .busy none)) ∧ R (.returned (.bool true)) (W.putObj l (.loop (recd fn a ps assign body D .ready none)))
  | .ret, _, W => W.heap[l]? = some (.loop (recd fn a ps assign body D .busy none)) ∧ R (.returned (.bool false)) (W.putObj l (.loop (recd fn a ps assign body D .done (some .ret))))
  | .exit id, _, W => W.heap[l]? = some (.loop (recd fn a ps assign body D .busy none)) ∧ R (.returned (.bool false)) (W.putObj l (.loop (recd fn a ps assign body D .done (some (.exit id)))))
  | .goto t, _, W => W.heap[l]? = some (.loop (recd fn a ps assign body D .busy none)) ∧ R (.returned (.bool false)) (W.putObj l (.loop (recd fn a ps assign body D .done (some (.goto t)))))
  | .panic _, _, _ => False
  | .outgrown, _, _ => False

/-- One round: the assignments, then the body, the record busy. -/
theorem yield_open {P : Program} {W : World} {l n : Nat} {fn : FuncId} {a : Act} {ps : Array Tmp} {assign body : Code} {D : Nat} {args : Array Value} {R : Ending → World → Prop}
    (hl : W.heap[l]? = some (.loop (recd fn a ps assign body D .ready none))) (hs : args.size = ps.size)
    (h : assign.wpIn (Fence.wide.inRound l) n P (Exit.then (fun a1 W1 => W1.heap[l]? = some (.loop (recd fn a ps assign body D .ready none)) ∧
        body.wpIn (Fence.wide.inRound l) n P (roundEnd l fn a ps assign body D R) a1 (W1.putObj l (.loop (recd fn a ps assign body D .busy none)))) (fun _ _ _ => False))
      { tmps := (ps.zip args).foldl (fun t (p, v) => t.setIfInBounds p v) a.tmps, defers := [] } W) :
    YieldAt Fence.wide n P l args W R := by
  refine ⟨fn, _, assign, body, run_yield hl hs, roundIn_of_wpIn trivial (wpIn_mono h ?_)⟩
  intro e a1 W1 hq
  cases e with
  | normal =>
    obtain ⟨hl1, hb⟩ := hq
    refine ⟨_, run_beginRound hl1 rfl, wpIn_mono hb ?_⟩
    intro e2 a2 W2 h2
    cases e2 with
    | normal => exact ⟨_, _, run_endRound (P := P) none h2.1, h2.2⟩
    | ret => exact ⟨_, _, run_endRound (P := P) (some .ret) h2.1, h2.2⟩
    | exit id => exact ⟨_, _, run_endRound (P := P) (some (.exit id)) h2.1, h2.2⟩
    | goto t => exact ⟨_, _, run_endRound (P := P) (some (.goto t)) h2.1, h2.2⟩
    | panic ch => exact h2.elim
    | outgrown => exact h2.elim
  | ret => exact hq.elim
  | exit id => exact hq.elim
  | goto t => exact hq.elim
  | panic ch => exact hq.elim
  | outgrown => exact hq.elim
#print axioms range_open
#print axioms yield_open
end Go.Proofs.YtefcjggmlhoebaaDoor
namespace Go.Proofs.YtefcjggmlhoebaaDoor
open Go Go.RowKit

theorem Rd.shape3 {w : World} {v : Value} {zs : List Int} (h : Rd w v zs) : ∃ ao n cap, v = .slice ao n cap := by
  obtain ⟨ao, cap, hv, _⟩ := h
  exact ⟨ao, _, cap, hv⟩
theorem row_keep {w w' : World} {B : Nat} {o : Obj} (hb : Below w.heap.size w w') (h : w.heap[B]? = some o) : w'.heap[B]? = some o := by
  rw [hb.block B (Array.getElem?_eq_some_iff.1 h).1]; exact h
/-- A slice does not lie in the block g. -/
def Fa (g : Nat) (v : Value) (zs : List Int) : Prop := ∀ (a : Addr) (n cap : Nat), v = .slice (some a) n cap → zs ≠ [] → a.block ≠ g
theorem Ra.fa {lo g : Nat} {w : World} {v : Value} {zs : List Int} (h : Ra lo w v zs) (hg : g < lo) : Fa g v zs := fun a n cap e hz => by have := h.far a n cap e hz; omega
theorem Rd.lt_of {w : World} {v : Value} {zs : List Int} (h : Rd w v zs) {a : Addr} {n cap : Nat} (e : v = .slice (some a) n cap) (hz : zs ≠ []) : a.block < w.heap.size := by
  obtain ⟨ao, c, hv, _, _, _, _, hc⟩ := h
  rw [e] at hv
  cases hv
  have := cell_lt (hc a rfl 0 (List.length_pos_iff.2 hz))
  have e : (a.add 0).block = a.block := by unfold Addr.add; split <;> rfl
  omega
theorem Rd.fa {w : World} {v : Value} {zs : List Int} (h : Rd w v zs) {g : Nat} (hg : w.heap.size ≤ g) : Fa g v zs := fun a n cap e hz => by have := h.lt_of e hz; omega
/-- Nothing but the blocks S has changed of what was there. -/
structure Chg (S : List Nat) (w w' : World) : Prop where
  os : w'.os = w.os
  tape : w'.tape = w.tape
  output : w'.output = w.output
  size : w.heap.size ≤ w'.heap.size
  block : ∀ k, k < w.heap.size → k ∉ S → w'.heap[k]? = w.heap[k]?
theorem Chg.refl (S : List Nat) (w : World) : Chg S w w := ⟨rfl, rfl, rfl, Nat.le_refl _, fun _ _ _ => rfl⟩
theorem Chg.trans {S : List Nat} {a b c : World} (h : Chg S a b) (k : Chg S b c) : Chg S a c :=
  ⟨k.os.trans h.os, k.tape.trans h.tape, k.output.trans h.output, Nat.le_trans h.size k.size, fun i hi hn => (k.block i (Nat.lt_of_lt_of_le hi h.size) hn).trans (h.block i hi hn)⟩
theorem Chg.of_below {S : List Nat} {w w' : World} (h : Below w.heap.size w w') : Chg S w w' := ⟨h.os, h.tape, h.output, h.size, fun k hk _ => h.block k hk⟩
theorem Chg.alloc {S : List Nat} (w : World) (o : Obj) : Chg S w (w.alloc o) := .of_below (below_alloc w o)
theorem Chg.set {S : List Nat} {B : Nat} (w : World) (i : Nat) (v : Value) (h : B ∈ S) : Chg S w (w.setCell ⟨B, i, none⟩ v) :=
  ⟨rfl, rfl, rfl, by simp [World.setCell], fun k _ hn => Below.heap_setCell _ _ _ _ (fun e => hn (e ▸ h))⟩
theorem Chg.put {S : List Nat} {B : Nat} (w : World) (o : Obj) (h : B ∈ S) : Chg S w (w.putObj B o) :=
  ⟨rfl, rfl, rfl, by simp, fun k _ hn => World.putObj_heap_other (fun e => hn (e ▸ h))⟩
theorem Chg.grown {S : List Nat} {w w' : World} {row : Option Nat} (hg : w.grownBy w' row) (h : ∀ g, row = some g → g ∈ S) : Chg S w w' := by
  have hb : Below 0 w w' := (Below.refl 0 w).grown hg (Nat.zero_le _) fun k _ => Nat.zero_le _
  exact ⟨hb.os, hb.tape, hb.output, hb.size, fun k hk hn => hg.block k hk (fun e => hn (h k e.symm))⟩
theorem Chg.below {S : List Nat} {w0 w w' : World} (h : Chg S w w') (hb : Below w0.heap.size w0 w) (hS : ∀ k ∈ S, w0.heap.size ≤ k) : Below w0.heap.size w0 w' :=
  ⟨h.os.trans hb.os, h.tape.trans hb.tape, h.output.trans hb.output, Nat.le_trans hb.size h.size, fun k hk => (h.block k (Nat.lt_of_lt_of_le hk hb.size) (fun e => by have := hS k e; omega)).trans (hb.block k hk)⟩
theorem Rd.chg {S : List Nat} {w w' : World} {v : Value} {zs : List Int} (h : Rd w v zs) (hc : Chg S w w') (hf : ∀ g ∈ S, Fa g v zs) : Rd w' v zs := by
  obtain ⟨ao, cap, hv, h1, h2, h3, h4, hcell⟩ := h
  refine ⟨ao, cap, hv, h1, h2, h3, h4, fun a ha j hj => ?_⟩
  have hz : zs ≠ [] := fun e => by rw [e] at hj; simp at hj
  have hx := hcell _ ha j hj
  rw [← hx]
  have e : (a.add j).block = a.block := by unfold Addr.add; split <;> rfl
  refine World.cell?_of_block (w := w) (hc.block _ (cell_lt hx) fun hin => ?_)
  rw [e] at hin
  exact hf _ hin a zs.length cap (by rw [hv, ha]) hz rfl
theorem Ra.chg {S : List Nat} {lo : Nat} {w w' : World} {v : Value} {zs : List Int} (h : Ra lo w v zs) (hc : Chg S w w') (hf : ∀ g ∈ S, Fa g v zs) : Ra lo w' v zs := ⟨h.rd.chg hc hf, h.far⟩
theorem own_same {w w' : World} {base : Nat} {e : TypeId} {size : Nat} {v : Value} {n : Nat} {xs : List Value} (h : w.ownsRow base e size v n xs) (hs : ∀ g, v.ownBlock = some g → w'.heap[g]? = w.heap[g]?) : w'.ownsRow base e size v n xs := by
  obtain ⟨h1, h2⟩ := h
  refine ⟨h1, ?_⟩
  rcases h2 with h2 | ⟨g, cap, cur, rfl, hg, hh, r⟩
  · exact .inl h2
  · exact .inr ⟨g, cap, cur, rfl, hg, by rw [hs g rfl]; exact hh, r⟩
theorem wpIn_world {F : Fence} {n : Nat} {P : Program} {c : Code} {Q : Exit → Act → World → Prop} {a : Act} {W : World} (C : World → Prop) (hC : C W) (h : ∀ W', C W' → Code.wpIn F n P c Q a W') : Code.wpIn F n P c Q a W := h W hC
theorem unfrozen {w : World} {b : Nat} {cs : Array Value} {t : TypeId} (h : w.heap[b]? = some (.cells cs t (0, 0))) : ∀ j, w.frozen? ⟨b, j, none⟩ = false := fun j => by simp [World.frozen?, h]
theorem cells_at {w : World} {b : Nat} {l : List Value} (h : ∀ i, w.cell? ⟨b, i, none⟩ = l.toArray[i]?) : ∀ j u, l[j]? = some u → w.cell? (({ block := b, off := 0, spot := none } : Addr).add j) = some u := fun j u hu => by
  rw [Addr.add_lit, show 0 + j = j by omega, h j]
  simpa using hu
theorem elem_bytes : Tryd.prog.underlying 22 = some (.slice (Tryd.prog.elem 22)) := by kernel_rfl
theorem size_elem (w : World) : (sizeOf (Tryd.prog.elem 22)).run Tryd.prog w = .ok 1 w := by
  have e : Tryd.prog.elem 22 = 5 := by kernel_rfl
  rw [e]
  have hi : ∃ i, Tryd.prog.info? 5 = some i ∧ i.size = 1 := by
    obtain ⟨i, hi, _, hz, _⟩ := info_parts info5
    exact ⟨i, hi, hz⟩
  obtain ⟨i, hi, hs⟩ := hi
  simp [sizeOf, typeInfo, hi, hs, go_sem]
theorem rd_piece {w : World} {ao : Option Addr} {cap : Nat} {zs : List Int} (hr : Rd w (.slice ao zs.length cap) zs) (hp : Plain (.slice ao zs.length cap)) (l h : Nat) (h1 : l ≤ h) (h2 : h ≤ zs.length) :
    ∃ a', sliced ao l h cap 1 = .slice a' (h - l) (cap - l) ∧ Rd w (.slice a' (h - l) (cap - l)) ((zs.take h).drop l) ∧ Plain (.slice a' (h - l) (cap - l)) := by
  have hlen : ((zs.take h).drop l).length = h - l := by simp; omega
  obtain ⟨ao', cap', e, c1, c2, c3, c4, c5⟩ := hr
  simp only [Value.slice.injEq] at e
  obtain ⟨rfl, _, rfl⟩ := e
  rcases hp with e | ⟨b, off, n, cp, e⟩
  · simp only [Value.slice.injEq] at e
    obtain ⟨rfl, e2, rfl⟩ := e
    have hl0 : l = 0 := by omega
    have hh0 : h = 0 := by omega
    subst hl0
    subst hh0
    refine ⟨none, rfl, ?_, .inl rfl⟩
    have hz : zs = [] := List.eq_nil_of_length_eq_zero e2
    subst hz
    exact Rd.nil w
  · simp only [Value.slice.injEq] at e
    obtain ⟨rfl, rfl, rfl⟩ := e
    refine ⟨if cap = l then some ⟨b, off, none⟩ else some ⟨b, off + l, none⟩, ?_, ?_, ?_⟩
    · unfold sliced
      congr 1
      by_cases hc : cap = l
      · rw [if_pos hc, if_pos hc]
      · rw [if_neg hc, if_neg hc]
        simp [Addr.add_lit]
    · rw [← hlen]
      refine ⟨_, cap - l, rfl, by omega, by omega, fun e => ?_, (c4.take h).drop l, fun a ha j hj => ?_⟩
      · split at e <;> cases e
      · rw [hlen] at hj
        rw [if_neg (by omega)] at ha
        cases ha
        have hc := c5 _ rfl (l + j) (by omega)
        rw [Addr.add_lit] at hc ⊢
        rw [show off + l + j = off + (l + j) from by omega, hc]
        simp [List.getD, show l + j < h by omega]
    · by_cases hc : cap = l
      · rw [if_pos hc]; exact .inr ⟨_, _, _, _, rfl⟩
      · rw [if_neg hc]; exact .inr ⟨_, _, _, _, rfl⟩
theorem part_h {w : World} {ao : Option Addr} {cap : Nat} {zs : List Int} (hr : Rd w (.slice ao zs.length cap) zs) (hp : Plain (.slice ao zs.length cap)) (h : Nat) (h2 : h ≤ zs.length) :
    ∃ a', (∀ wx, (Instr.slice 22 (.slice ao zs.length cap) none (some (.int .i64 h)) none).run Tryd.prog wx = .ok (.slice a' h cap) wx) ∧ Rd w (.slice a' h cap) (zs.take h) ∧ Plain (.slice a' h cap) := by
  obtain ⟨a', e, h3, h4⟩ := rd_piece hr hp 0 h (Nat.zero_le _) h2
  have hc : zs.length ≤ cap := by obtain ⟨_, _, e, c1, _⟩ := hr; simp only [Value.slice.injEq] at e; omega
  refine ⟨a', fun wx => ?_, by simpa using h3, by simpa using h4⟩
  rw [run_slice_h _ _ _ _ _ elem_bytes .i64 h (by omega) (by omega), size_elem]
  simp only [Result.andThen, Int.toNat_natCast, e, Nat.sub_zero]
theorem part_lh {w : World} {ao : Option Addr} {cap : Nat} {zs : List Int} (hr : Rd w (.slice ao zs.length cap) zs) (hp : Plain (.slice ao zs.length cap)) (l h : Nat) (h1 : l ≤ h) (h2 : h ≤ zs.length) :
    ∃ a', (∀ wx, (Instr.slice 22 (.slice ao zs.length cap) (some (.int .i64 l)) (some (.int .i64 h)) none).run Tryd.prog wx = .ok (.slice a' (h - l) (cap - l)) wx) ∧ Rd w (.slice a' (h - l) (cap - l)) ((zs.take h).drop l) ∧ Plain (.slice a' (h - l) (cap - l)) := by
  obtain ⟨a', e, h3, h4⟩ := rd_piece hr hp l h h1 h2
  have hc : zs.length ≤ cap := by obtain ⟨_, _, e, c1, _⟩ := hr; simp only [Value.slice.injEq] at e; omega
  refine ⟨a', fun wx => ?_, h3, h4⟩
  rw [run_slice_lh _ _ _ _ _ elem_bytes .i64 .i64 l h (by omega) (by omega) (by omega), size_elem]
  simp only [Result.andThen, Int.toNat_natCast, e]
theorem part_l {w : World} {ao : Option Addr} {cap : Nat} {zs : List Int} (hr : Rd w (.slice ao zs.length cap) zs) (hp : Plain (.slice ao zs.length cap)) (l : Nat) (h2 : l ≤ zs.length) :
    ∃ a', (∀ wx, (Instr.slice 22 (.slice ao zs.length cap) (some (.int .i64 l)) none none).run Tryd.prog wx = .ok (.slice a' (zs.length - l) (cap - l)) wx) ∧ Rd w (.slice a' (zs.length - l) (cap - l)) (zs.drop l) ∧ Plain (.slice a' (zs.length - l) (cap - l)) := by
  obtain ⟨a', e, h3, h4⟩ := rd_piece hr hp l zs.length h2 (Nat.le_refl _)
  refine ⟨a', fun wx => ?_, by simpa using h3, h4⟩
  rw [run_slice_l _ _ _ _ _ elem_bytes .i64 l (by omega) (by omega), size_elem]
  simp only [Result.andThen, Int.toNat_natCast, e]
#print axioms part_lh
end Go.Proofs.YtefcjggmlhoebaaDoor
namespace Go.Proofs.YtefcjggmlhoebaaDoor
open Go Go.RowKit

/-- The length that a message's head tells. -/
def headN (zs : List Int) : Nat := (65536 * zs.getD 1 0 + 256 * zs.getD 2 0 + zs.getD 3 0).toNat
/-- What is wrong with the message that bytes begin with; 0: nothing. -/
def firstE (zs : List Int) : Int := if zs.length < 4 then 2 else if 2000 < headN zs then 4 else if zs.length < headN zs + 4 then 2 else 0
theorem headN_eq {zs : List Int} (hz : Byt zs) : (headN zs : Int) = 65536 * zs.getD 1 0 + 256 * zs.getD 2 0 + zs.getD 3 0 := by
  have h1 := hz.get 1
  have h2 := hz.get 2
  have h3 := hz.get 3
  unfold headN
  omega
/-- The messages of bytes; an error's number. -/
def msgF : Nat → List Int → List (List Int) × Int
  | 0, _ => ([], 0)
  | n + 1, zs =>
    if zs = [] then ([], 0)
    else if firstE zs = 0 then (zs.take (headN zs + 4) :: (msgF n (zs.drop (headN zs + 4))).1, (msgF n (zs.drop (headN zs + 4))).2)
    else ([], firstE zs)
theorem msgF_fuel : ∀ (n m : Nat) (zs : List Int), zs.length ≤ n → zs.length ≤ m → msgF n zs = msgF m zs := by
  intro n
  induction n with
  | zero =>
    intro m zs hn _
    have : zs = [] := List.eq_nil_of_length_eq_zero (by omega)
    subst this
    cases m with
    | zero => rfl
    | succ m => simp [msgF]
  | succ n ih =>
    intro m zs hn hm
    cases m with
    | zero =>
      have : zs = [] := List.eq_nil_of_length_eq_zero (by omega)
      subst this
      simp [msgF]
    | succ m =>
      simp only [msgF]
      by_cases hz : zs = []
      · rw [if_pos hz, if_pos hz]
      · rw [if_neg hz, if_neg hz]
        by_cases he : firstE zs = 0
        · rw [if_pos he, if_pos he, ih m (zs.drop (headN zs + 4)) (by simp; omega) (by simp; omega)]
        · rw [if_neg he, if_neg he]
def msgP (zs : List Int) : List (List Int) × Int := msgF zs.length zs
theorem msgP_nil : msgP [] = ([], 0) := rfl
theorem msgP_err {zs : List Int} (hz : zs ≠ []) (he : firstE zs ≠ 0) : msgP zs = ([], firstE zs) := by
  unfold msgP
  cases hl : zs.length with
  | zero => exact absurd (List.eq_nil_of_length_eq_zero hl) hz
  | succ n => simp only [msgF]; rw [if_neg hz, if_neg he]
theorem msgP_ok {zs : List Int} (hz : zs ≠ []) (he : firstE zs = 0) : msgP zs = (zs.take (headN zs + 4) :: (msgP (zs.drop (headN zs + 4))).1, (msgP (zs.drop (headN zs + 4))).2) := by
  unfold msgP
  cases hl : zs.length with
  | zero => exact absurd (List.eq_nil_of_length_eq_zero hl) hz
  | succ n =>
    simp only [msgF]
    rw [if_neg hz, if_pos he, msgF_fuel n (zs.drop (headN zs + 4)).length (zs.drop (headN zs + 4)) (by simp; omega) (Nat.le_refl _)]
theorem first_ok {zs : List Int} (he : firstE zs = 0) : 4 ≤ zs.length ∧ headN zs ≤ 2000 ∧ headN zs + 4 ≤ zs.length := by
  unfold firstE at he
  by_cases h1 : zs.length < 4
  · rw [if_pos h1] at he; cases he
  · rw [if_neg h1] at he
    by_cases h2 : 2000 < headN zs
    · rw [if_pos h2] at he; cases he
    · rw [if_neg h2] at he
      by_cases h3 : zs.length < headN zs + 4
      · rw [if_pos h3] at he; cases he
      · omega
end Go.Proofs.YtefcjggmlhoebaaDoor
namespace Go.Proofs.YtefcjggmlhoebaaDoor
open Go Go.RowKit

theorem below_drewN (w : World) : ∀ n, Below w.heap.size w (w.drewN n)
  | 0 => Below.refl _ _
  | n + 1 => (below_drewN w n).drew
theorem or_add (i a b : Nat) (hb : b < 2 ^ i) (h : 2 ^ i * a + b < 9223372036854775808) : bits .or .i64 ((2 ^ i * a : Nat) : Int) (b : Int) = ((2 ^ i * a + b : Nat) : Int) := by
  have h1 : 2 ^ i * a < 18446744073709551616 := by omega
  have h2 : b < 18446744073709551616 := by omega
  have e : (2 ^ i * a ||| b) = 2 ^ i * a + b := (Nat.two_pow_add_eq_or_of_lt hb a).symm
  show IntKind.i64.wrap (((BitVec.ofInt 64 ((2 ^ i * a : Nat) : Int)) ||| (BitVec.ofInt 64 (b : Int))).toNat : Int) = _
  simp only [BitVec.ofInt_natCast, BitVec.toNat_or, BitVec.toNat_ofNat]
  rw [Nat.mod_eq_of_lt h1, Nat.mod_eq_of_lt h2, e]
  generalize 2 ^ i * a + b = m at *
  exact IntWalk.i64_in (m : Int) ⟨by omega, by omega⟩
theorem or3 {z1 z2 z3 : Int} (h1 : 0 ≤ z1 ∧ z1 ≤ 255) (h2 : 0 ≤ z2 ∧ z2 ≤ 255) (h3 : 0 ≤ z3 ∧ z3 ≤ 255) : bits .or .i64 (bits .or .i64 (z1 * 65536) (z2 * 256)) z3 = 65536 * z1 + 256 * z2 + z3 := by
  obtain ⟨a, rfl⟩ := Int.eq_ofNat_of_zero_le h1.1
  obtain ⟨b, rfl⟩ := Int.eq_ofNat_of_zero_le h2.1
  obtain ⟨c, rfl⟩ := Int.eq_ofNat_of_zero_le h3.1
  have e1 := or_add 16 a (256 * b) (by omega) (by omega)
  have e2 := or_add 8 (256 * a + b) c (by omega) (by omega)
  rw [show ((a : Int) * 65536) = ((2 ^ 16 * a : Nat) : Int) by omega, show ((b : Int) * 256) = ((256 * b : Nat) : Int) by omega, e1, show (2 ^ 16 * a + 256 * b) = 2 ^ 8 * (256 * a + b) by omega, e2]
  omega
theorem slice3 {ao : Option Addr} {n cap h : Nat} (hh : h ≤ cap) (hp : Plain (.slice ao n cap)) (wx : World) :
    (Instr.slice 22 (.slice ao n cap) none (some (.int .i64 h)) (some (.int .i64 h))).run Tryd.prog wx = .ok (.slice ao h h) wx := by
  rw [run_slice_any _ _ _ _ _ elem_bytes]
  have hb : (Instr.sliceBounds true n cap none (some (.int .i64 h)) (some (.int .i64 h))).run Tryd.prog wx = .ok (0, h, h) wx := by
    simp [Instr.sliceBounds, run_sliceBound, hh, go_sem]
  rw [hb]
  simp only [Result.andThen, size_elem, sliced, Nat.sub_zero]
  congr 2
  rcases hp with e | ⟨b, off, _, _, e⟩
  · simp only [Value.slice.injEq] at e
    obtain ⟨rfl, _, _⟩ := e
    simp
  · simp only [Value.slice.injEq] at e
    obtain ⟨rfl, _, _⟩ := e
    by_cases h0 : h = 0
    · rw [if_pos h0]
    · rw [if_neg h0]; simp [Addr.add_lit]
theorem Rd.front {w : World} {ao : Option Addr} {cap : Nat} {zs : List Int} (hr : Rd w (.slice ao zs.length cap) zs) (h : Nat) (hh : h ≤ zs.length) (hpos : 0 < h) : Rd w (.slice ao h h) (zs.take h) := by
  obtain ⟨ao', cap', e, c1, c2, c3, c4, c5⟩ := hr
  simp only [Value.slice.injEq] at e
  obtain ⟨rfl, _, rfl⟩ := e
  have hl : (zs.take h).length = h := by simp; omega
  refine ⟨ao, h, by rw [hl], by omega, by omega, fun e => ?_, c4.take h, fun a ha j hj => ?_⟩
  · have := c3 e; omega
  · rw [hl] at hj
    rw [c5 a ha j (by omega)]
    simp [List.getD, hj]
theorem Plain.front {ao : Option Addr} {n cap : Nat} (hp : Plain (.slice ao n cap)) (h : Nat) (hc : 0 < cap) : Plain (.slice ao h h) := by
  rcases hp with e | ⟨b, off, _, _, e⟩
  · simp only [Value.slice.injEq] at e; omega
  · simp only [Value.slice.injEq] at e
    obtain ⟨rfl, _, _⟩ := e
    exact .inr ⟨_, _, _, _, rfl⟩
/-- A row of bytes does not lie in a block that holds one thing that is no byte. -/
theorem Rd.off {w : World} {v : Value} {zs : List Int} {g : Nat} {x : Value} {t : TypeId} {fr : Nat × Nat} (h : Rd w v zs) (hg : w.heap[g]? = some (.cells #[x] t fr)) (hx : ∀ z, x ≠ .int .u8 z) : Fa g v zs := by
  obtain ⟨ao, cap, hv, _, _, _, _, hc⟩ := h
  intro a n c e hz hb
  rw [e] at hv
  cases hv
  have h0 := hc a rfl 0 (List.length_pos_iff.2 hz)
  obtain ⟨b, off, spot⟩ := a
  have hs : spot = none := by simpa [Addr.add] using World.cell?_spot h0
  subst hs
  simp only at hb
  subst hb
  rw [Addr.add_lit, cell_of_row w b _ _ t fr hg] at h0
  have : off + 0 = 0 := by
    by_cases h : off + 0 = 0
    · exact h
    · rw [Array.getElem?_eq_none (by simp; omega)] at h0; cases h0
  rw [this] at h0
  simp at h0
  exact hx _ h0
set_option maxRecDepth 20000 in
set_option maxHeartbeats 2000000 in
theorem first_any {w : World} {ao : Option Addr} {cap : Nat} {zs : List Int} (hr : Rd w (.slice ao zs.length cap) zs) (hp : Plain (.slice ao zs.length cap)) :
    Calls Tryd.prog 72 #[.slice ao zs.length cap] w fun e w' => Below w.heap.size w w' ∧
      (firstE zs ≠ 0 ∧ e = .returned (.tuple #[.slice none 0 0, .int .i64 (firstE zs)]) ∨
       firstE zs = 0 ∧ e = .returned (.tuple #[.slice ao (headN zs + 4) (headN zs + 4), .int .i64 0])) := by
  have hl := hr.len
  by_cases h4 : zs.length < 4
  · have he : firstE zs = 2 := by simp [firstE, h4]
    have hd : decide ((zs.length : Int) < 4) = true := decide_eq_true (by omega)
    clear hr hp
    go_enter Tryd.func72, Tryd.ntmps72
    go_wp2_with fail
    go_ret2
    exact ⟨Below.refl _ _, .inl ⟨by rw [he]; decide, by rw [he]; rfl⟩⟩
  · have hd : decide ((zs.length : Int) < 4) = false := decide_eq_false (by omega)
    rcases hr.cases with ⟨rfl, _⟩ | ⟨b, off, cap', e, hpos, hlc, hcm, hbl, hcell⟩
    · simp at h4
    simp only [Value.slice.injEq] at e
    obtain ⟨rfl, _, rfl⟩ := e
    have c1 := hcell 1 (by omega)
    have c2 := hcell 2 (by omega)
    have c3 := hcell 3 (by omega)
    have b1 := hr.byt.get 1
    have b2 := hr.byt.get 2
    have b3 := hr.byt.get 3
    have hN := headN_eq hr.byt
    generalize zs.getD 1 0 = z1 at *
    generalize zs.getD 2 0 = z2 at *
    generalize zs.getD 3 0 = z3 at *
    have l1 : (1 : Int) < (zs.length : Int) := by omega
    have l2 : (2 : Int) < (zs.length : Int) := by omega
    have l3 : (3 : Int) < (zs.length : Int) := by omega
    have ho := or3 b1 b2 b3
    rw [← hN] at ho
    have HN := Lib.hid hN
    clear hcell hN
    go_enter Tryd.func72, Tryd.ntmps72
    go_wp2_with fail
    go_quiet (fail)
    by_cases h5 : 2000 < headN zs
    · have he : firstE zs = 4 := by simp [firstE, h4, h5]
      have hd2 : decide (2000 < (headN zs : Int)) = true := decide_eq_true (by omega)
      go_wp2_with fail
      go_ret2
      exact ⟨below_drewN _ _, .inl ⟨by rw [he]; decide, by rw [he]; rfl⟩⟩
    · have hd2 : decide (2000 < (headN zs : Int)) = false := decide_eq_false (by omega)
      have hw : IntKind.i64.wrap (4 + (headN zs : Int)) = ((headN zs + 4 : Nat) : Int) := by
        have : headN zs ≤ 2000 := by omega
        generalize headN zs = m at *
        rw [show (4 + (m : Int)) = ((m + 4 : Nat) : Int) by omega]
        exact IntWalk.i64_in _ ⟨by omega, by omega⟩
      by_cases h6 : zs.length < headN zs + 4
      · have he : firstE zs = 2 := by simp [firstE, h4, h5, h6]
        go_wp2_with fail
        go_ret2
        exact ⟨below_drewN _ _, .inl ⟨by rw [he]; decide, by rw [he]; rfl⟩⟩
      · have he : firstE zs = 0 := by simp [firstE, h4, h5, h6]
        have hsl := fun wx => slice3 (ao := some ⟨b, off, none⟩) (n := zs.length) (cap := cap) (h := headN zs + 4) (by omega) (.inr ⟨_, _, _, _, rfl⟩) wx
        clear hr hp
        go_wp2_with fail
        go_ret2
        exact ⟨below_drewN _ _, .inr ⟨he, rfl⟩⟩
#print axioms first_any
end Go.Proofs.YtefcjggmlhoebaaDoor
