/- HeaderBack: a header that is written is read as it was. -/
import Derived.Test.YtgnjmmaahpngpaaDoorHCut
namespace Go.Proofs.YtgnjmmaahpngpaaDoor
open Go Go.RowKit

/-- What is read of a header's bytes, a body and what stands behind. -/
theorem refP_back {h : Hv} {body behind : List Int} (hX : rightB h = true) (hb : body.length ≤ 16384) (hz : Byt (wrB h body.length ++ body ++ behind)) (hk : h.k = 3 → behind = []) :
    refP (wrB h body.length ++ body ++ behind) = (h, (wrB h body.length).length, ((wrB h body.length ++ body).length : Int), 0) := by
  rw [ref_eq hz]
  by_cases h3 : h.k = 3
  · have hn := hk h3
    subst hn
    rw [List.append_nil, read_short h body.length body hX h3]; rfl
  · rw [List.append_assoc, read_long h body.length (body ++ behind) hX h3 ⟨by omega, by omega⟩ (by simp; omega)]
    simp only [outP]
    simp

theorem row_keep6 {w4 w6 w7 : World} {B : Nat} {o : Obj} (_hs : w4.heap.size ≤ w6.heap.size) (hb : Below w4.heap.size w6 w7) (h : w6.heap[B]? = some o) (hB : B < w4.heap.size) : w7.heap[B]? = some o := by
  rw [hb.block B hB]; exact h
end Go.Proofs.YtgnjmmaahpngpaaDoor
