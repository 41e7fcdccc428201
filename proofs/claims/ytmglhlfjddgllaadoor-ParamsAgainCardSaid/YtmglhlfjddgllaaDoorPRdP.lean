/- What Read tells of bytes, as the program and the document have it. -/
import Derived.Test.YtmglhlfjddgllaaDoorPRd9
namespace Go.Proofs.YtmglhlfjddgllaaDoor
open Go Go.RowKit

/-- What Read tells of bytes: params, an error's number. -/
def resP (zs : List Int) : Pv × Int := if 500 < zs.length then (p0, 4) else match readP zs with | some p => (p, 0) | none => (p0, 3)
theorem pr_zero (w : World) : Pr w p0 (.slice none 0 0) (.slice none 0 0) (.slice none 0 0) (.slice none 0 0) := ⟨Rd.nil w, Rd.nil w, Rd.nil w, Ri.nil w⟩
def RPost (zs : List Int) (w : World) (e : Ending) (w' : World) : Prop :=
  ∃ v5 v6 v7 v9, e = .returned (.tuple #[pAgg (resP zs).1 v5 v6 v7 v9, .int .i64 (resP zs).2]) ∧ Pr w' (resP zs).1 v5 v6 v7 v9 ∧ Below w.heap.size w w'
theorem rpost_no {zs : List Int} {w w' : World} {k : Int} (h : resP zs = (p0, k)) (hb : Below w.heap.size w w') : RPost zs w (.returned (.tuple #[.agg zP, .int .i64 k])) w' :=
  ⟨.slice none 0 0, .slice none 0 0, .slice none 0 0, .slice none 0 0, by rw [h]; rfl, by rw [h]; exact pr_zero _, hb⟩
end Go.Proofs.YtmglhlfjddgllaaDoor
