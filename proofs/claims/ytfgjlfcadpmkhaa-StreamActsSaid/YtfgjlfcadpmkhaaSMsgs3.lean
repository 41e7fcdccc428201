/- stream.Messages, whatever the bytes: its walk. -/
import Derived.Test.YtfgjlfcadpmkhaaSMsgs2
namespace Go.Proofs.Ytfgjlfcadpmkhaa
open Go Go.RowKit Go.Shelf
attribute [local go_sem] Oper.semAt_some

theorem own_slice {w : World} {base : Nat} {e : TypeId} {size : Nat} {v : Value} {n : Nat} {xs : List Value} (h : w.ownsRow base e size v n xs) : ∃ a b c, v = .slice a b c := by
  rcases h.2 with ⟨rfl, _⟩ | ⟨g, cap, cur, rfl, _⟩
  · exact ⟨_, _, _, rfl⟩
  · exact ⟨_, _, _, rfl⟩
/-- What Messages tells. -/
def MsgsPost (w : World) (zs : List Int) (e : Ending) (W' : World) : Prop := ∃ (lv : Value) (qs : List (Value × List Int)) (ok : Bool), e = .returned (.tuple #[lv, .bool ok]) ∧ W'.ownsRow w.heap.size 29 1 lv qs.length (qs.map (·.1)) ∧ (∀ q ∈ qs, Rd W' q.1 q.2) ∧
  (ok = true ∧ (msgP zs).2 = 0 ∧ qs.map (·.2) = (msgP zs).1 ∨ ok = false ∧ (msgP zs).2 ≠ 0 ∧ qs = []) ∧ Below w.heap.size w W'
end Go.Proofs.Ytfgjlfcadpmkhaa
