/- The document's answer Bytes hands back a new slice of the number's bytes, and writes nothing that was there. -/
import Derived.Test.YtgnjmmaahpngpaaDoorVal
namespace Go.Proofs.YtgnjmmaahpngpaaDoor
open Go Go.RowKit

theorem bytes_step {w0 wr : World} {base g cap k j m : Nat} {n : Int}
    (hown : wr.ownsRow base 5 1 (.slice (some ⟨g, 0, none⟩) k cap) k (by8 (List.replicate (m + 1) 0 ++ tl j n))) (hb : Below base w0 wr) {x : Int} (hx : x = (n / 256 ^ j) % 256) :
    (wr.setCell ⟨g, m, none⟩ (.int .u8 x)).ownsRow base 5 1 (.slice (some ⟨g, 0, none⟩) k cap) k (by8 (List.replicate m 0 ++ tl (j + 1) n)) ∧ Below base w0 (wr.setCell ⟨g, m, none⟩ (.int .u8 x)) := by
  obtain ⟨h1, _⟩ := hown.stored m (.int .u8 x)
  have hg := (hown.lt g rfl).1
  refine ⟨?_, hb.setCell hg _⟩
  have e : (by8 (List.replicate (m + 1) 0 ++ tl j n)).set m (.int .u8 x) = by8 (List.replicate m 0 ++ tl (j + 1) n) := by
    have := set_tail (by8 (List.replicate (m + 1) 0)) m (by8 (tl j n)) (.int .u8 x) (by simp [by8])
    rw [List.take_of_length_le (by simp [by8])] at this
    rw [by8_app, this]
    subst hx
    simp [by8, tl]
  rw [← e]
  exact h1

theorem put0 {w0 wr : World} {base g cap k : Nat} {x y : Int} {r : List Int} (hown : wr.ownsRow base 5 1 (.slice (some ⟨g, 0, none⟩) k cap) k (by8 (x :: r))) (hb : Below base w0 wr) :
    (wr.setCell ⟨g, 0, none⟩ (.int .u8 y)).ownsRow base 5 1 (.slice (some ⟨g, 0, none⟩) k cap) k (by8 (y :: r)) ∧ Below base w0 (wr.setCell ⟨g, 0, none⟩ (.int .u8 y)) := by
  obtain ⟨h1, _⟩ := hown.stored 0 (.int .u8 y)
  exact ⟨h1, hb.setCell (hown.lt g rfl).1 _⟩

end Go.Proofs.YtgnjmmaahpngpaaDoor
