/- A range over a function where nothing is fenced: the loop's record laid open, so that the iterator's own walk goes through the rounds, and the rounds may know what the iterator knows. -/
import Derived.RangeFuncNested
import Derived.RangeFuncBound
import Derived.RangeFuncCalls
import Derived.RangeFuncLeaves
import Derived.Shelf.Abstract
import Derived.Shelf.RegionOpen
import Derived.WalkKit
import Derived.OwnWalkIn
import Derived.TacticsInMore
import Derived.LoopNIn
import Derived.LoopIn
import Derived.Maps.AppendAt
import Derived.Maps.OwnIn
namespace Go.Proofs.Ytmplcibaoanlnaa
open Go Go.RowKit

/-- The record of the loop that begins at the activation a. -/
def recd (fn : FuncId) (a : Act) (ps : Array Tmp) (assign body : Code) (D : Nat) (st : LoopState) (pe : Option Code) : Loop :=
  { state := st, pending := pe, fn := fn, tmps := a.tmps, params := ps, assign := assign, body := body, defers := D }
/-- The activation behind the loop: the block for the rounds' deferred calls is marked. -/
def marked (a : Act) (D : Nat) : Act := { a with defers := { target := .collected D, args := #[] } :: a.defers }

/-- The loop: its iterator is called once, with the record laid; it ends with the record ready (all have come) or with a jump taken up. -/
theorem range_open {P : Program} {g : Operand} {ps : Array Tmp} {assign body : Code} {Q : Exit → Act → World → Prop} {a : Act} {w : World} {gf : Nat} {lb : Array Value}
    (hg : a.eval g = .func (.func gf) #[] lb) (eg : ∀ args w, (callFunc gf args).run P w = .ok (.enter gf args) w)
    (h : ∀ fn, Calls P gf (#[.func (.yield (w.heap.size + 1)) #[] #[]] ++ lb) ((w.alloc (.deferred (some []))).alloc (.loop (recd fn a ps assign body w.heap.size .ready none))) fun e W =>
      (∃ v, e = .returned v) ∧
        ((W.heap[w.heap.size + 1]? = some (.loop (recd fn a ps assign body w.heap.size .ready none)) ∧ ∀ o, Q .normal (marked a w.heap.size) (W.putObj (w.heap.size + 1) o)) ∨
         ∃ c, W.heap[w.heap.size + 1]? = some (.loop (recd fn a ps assign body w.heap.size .done (some c))) ∧ ∀ o, c.wp P Q (marked a w.heap.size) (W.putObj (w.heap.size + 1) o))) :
    (Code.rangeFunc g ps assign body).wp P Q a w := by
  refine (wpIn_wide (n := 0)).1 (wpIn_rangeFunc fun fn _ => ?_)
  obtain ⟨W1, hW1⟩ : ∃ W1, (w.alloc (.deferred (some []))).alloc (.loop (recd fn a ps assign body w.heap.size .ready none)) = W1 := ⟨_, rfl⟩
  have h := h fn
  rw [hW1] at h
  refine ⟨w.heap.size + 1, [{ target := .collected w.heap.size, args := #[] }], W1, { target := .fn (.func gf) lb, args := #[.func (.yield (w.heap.size + 1)) #[] #[]] }, W1, gf,
    #[.func (.yield (w.heap.size + 1)) #[] #[]] ++ lb, W1, hW1 ▸ run_enterLoop_outer fn a.tmps ps assign body, ?_, fun _ _ => trivial, ?_, (by intro h; cases h), ?_⟩
  · simp only [resolve, hg]
    simp [go_sem]
  · simp [invoke, go_sem, eg]
  · refine (callsIn_wide.2 h).mono ?_
    rintro e W ⟨⟨v, rfl⟩, (⟨hl, hq⟩ | ⟨c, hl, hq⟩)⟩
    · exact ⟨none, _, run_endLoop (P := P) hl (by simp [recd]), hq _⟩
    · exact ⟨some c, _, run_endLoop (P := P) hl (by simp [recd]), wpIn_wide.2 (hq _)⟩

/-- How a round's body may be left, the record busy. -/
def roundEnd (l : Nat) (fn : FuncId) (a : Act) (ps : Array Tmp) (assign body : Code) (D : Nat) (R : Ending → World → Prop) : Exit → Act → World → Prop
  | .normal, _, W => W.heap[l]? = some (.loop (recd fn a ps assign body D .busy none)) ∧ R (.returned (.bool true)) (W.putObj l (.loop (recd fn a ps assign body D .ready none)))
  | .ret, _, W => W.heap[l]? = some (.loop (recd fn a ps assign body D .busy none)) ∧ R (.returned (.bool false)) (W.putObj l (.loop (recd fn a ps assign body D .done (some .ret))))
  | .exit id, _, W => W.heap[l]? = some (.loop (recd fn a ps assign body D .busy none)) ∧ R (.returned (.bool false)) (W.putObj l (.loop (recd fn a ps assign body D .done (some (.exit id)))))
  | .goto t, _, W => W.heap[l]? = some (.loop (recd fn a ps assign body D .busy none)) ∧ R (.returned (.bool false)) (W.putObj l (.loop (recd fn a ps assign body D .done (some (.goto t)))))
  | .panic _, _, _ => False
  | .outgrown, _, _ => False

/-- One round: the assignments, then the body, the record busy. -/
theorem yield_open {P : Program} {W : World} {l n : Nat} {fn : FuncId} {a : Act} {ps : Array Tmp} {assign body : Code} {D : Nat} {args : Array Value} {R : Ending → World → Prop}
    (hl : W.heap[l]? = some (.loop (recd fn a ps assign body D .ready none))) (hs : args.size = ps.size)
    (h : assign.wpIn (Fence.wide.inRound l) n P (Exit.then (fun a1 W1 => W1.heap[l]? = some (.loop (recd fn a ps assign body D .ready none)) ∧
        body.wpIn (Fence.wide.inRound l) n P (roundEnd l fn a ps assign body D R) a1 (W1.putObj l (.loop (recd fn a ps assign body D .busy none)))) (fun _ _ _ => False))
      { tmps := (ps.zip args).foldl (fun t (p, v) => t.setIfInBounds p v) a.tmps, defers := [] } W) :
    YieldAt Fence.wide n P l args W R := by
  refine ⟨fn, _, assign, body, run_yield hl hs, roundIn_of_wpIn trivial (wpIn_mono h ?_)⟩
  intro e a1 W1 hq
  cases e with
  | normal =>
    obtain ⟨hl1, hb⟩ := hq
    refine ⟨_, run_beginRound hl1 rfl, wpIn_mono hb ?_⟩
    intro e2 a2 W2 h2
    cases e2 with
    | normal => exact ⟨_, _, run_endRound (P := P) none h2.1, h2.2⟩
    | ret => exact ⟨_, _, run_endRound (P := P) (some .ret) h2.1, h2.2⟩
    | exit id => exact ⟨_, _, run_endRound (P := P) (some (.exit id)) h2.1, h2.2⟩
    | goto t => exact ⟨_, _, run_endRound (P := P) (some (.goto t)) h2.1, h2.2⟩
    | panic ch => exact h2.elim
    | outgrown => exact h2.elim
  | ret => exact hq.elim
  | exit id => exact hq.elim
  | goto t => exact hq.elim
  | panic ch => exact hq.elim
  | outgrown => exact hq.elim
#print axioms range_open
#print axioms yield_open
end Go.Proofs.Ytmplcibaoanlnaa
