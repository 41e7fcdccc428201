/- The document's text of a token: tokB, in new memory; none, if it may not be. -/
import Derived.Test.YtepkhhpdpmhfaaaDoorZBytes
import Derived.Test.YtepkhhpdpmhfaaaDoorZKCut
import Derived.Deep.QuietTactic
import Derived.BigQuiet
namespace Go.Proofs.YtepkhhpdpmhfaaaDoor
open Go Go.RowKit

end Go.Proofs.YtepkhhpdpmhfaaaDoor
namespace Go.Proofs.YtepkhhpdpmhfaaaDoor
open Go Go.RowKit

/-- May a token be? -/
def tokOk (a t : Int) (n : Nat) : Bool := !(sz a == 0) && !(sz t == 0) && !(decide (20 < n))
def textB (l : Bool) (a t : Int) (nm : List Int) : List Int := if tokOk a t nm.length then tokB l a t nm else []
theorem textB_ok {l : Bool} {a t : Int} {nm : List Int} (h : tokOk a t nm.length = true) : textB l a t nm = tokB l a t nm := if_pos h
theorem textB_no {l : Bool} {a t : Int} {nm : List Int} (h : tokOk a t nm.length = false) : textB l a t nm = [] := by unfold textB; rw [h]; rfl
theorem own_none (w : World) (base : Nat) : w.ownsRow base 5 1 (.slice none 0 0) 0 (by8 []) := ⟨rfl, .inl ⟨rfl, rfl⟩⟩
/-- A row of the call's own. -/
def OwnB (w w' : World) (e : Ending) (zs : List Int) : Prop := ∃ v', e = .returned v' ∧ w'.ownsRow w.heap.size 5 1 v' zs.length (by8 zs) ∧ Below w.heap.size w w'
theorem OwnB.none {w w' : World} (h : Below w.heap.size w w') : OwnB w w' (.returned (.slice none 0 0)) [] := ⟨_, rfl, own_none _ _, h⟩
end Go.Proofs.YtepkhhpdpmhfaaaDoor
