/- told: are params the document's? -/
import Derived.Test.YtmglhlfjddgllaaDoorPGive
import Derived.Test.YtmglhlfjddgllaaDoorPPs
namespace Go.Proofs.YtmglhlfjddgllaaDoor
open Go Go.RowKit

/-- The two boxes stand. -/
structure Tb (w0 : World) (A B : Nat) (ca cb : Array Value) (w : World) : Prop where
  bel : Below w0.heap.size w0 w
  ba : w.heap[A]? = some (.cells ca 27 (0, 0))
  bb : w.heap[B]? = some (.cells cb 25 (0, 0))
theorem Tb.below {w0 w w' : World} {A B : Nat} {ca cb : Array Value} (h : Tb w0 A B ca cb w) (hb : Below w.heap.size w w') : Tb w0 A B ca cb w' :=
  ⟨h.bel.trans (hb.mono h.bel.size), by rw [hb.block A (Array.getElem?_eq_some_iff.1 h.ba).1]; exact h.ba, by rw [hb.block B (Array.getElem?_eq_some_iff.1 h.bb).1]; exact h.bb⟩
theorem take_sn9 {l : List Int} {k : Nat} (h : k < l.length) : l.take (k + 1) = l.take k ++ [l.getD k 0] := by
  rw [List.take_succ_eq_append_getElem h]; simp [List.getD, h]
theorem bl_drT {b : Nat} {w0 w : World} (h : Below b w0 w) : ∀ n, Below b w0 (w.drewN n)
  | 0 => h
  | n + 1 => (bl_drT h n).drew
end Go.Proofs.YtmglhlfjddgllaaDoor
