/- The document's own Read of a long header tells what refP says. -/
import Derived.Test.YtgnjmmaahpngpaaDoorHRefRd
namespace Go.Proofs.YtgnjmmaahpngpaaDoor
open Go Go.RowKit

theorem inBytes_zs (n : Nat) (s : In) : (inBytes n s).2.zs = s.zs := by
  unfold inBytes
  split
  · split <;> rfl
  · rfl
theorem inNumber_zs (n : Nat) (s : In) : (inNumber n s).2.zs = s.zs := inBytes_zs n s
theorem inNeed_zs (b : Bool) (k : Int) (s : In) : (inNeed b k s).zs = s.zs := by
  unfold inNeed
  split <;> rfl
theorem inMost_zs (n : Nat) (m : Int) (s : In) : (inMost n m s).2.zs = s.zs := (inBytes_zs n _).trans (inNeed_zs _ _ s)
theorem inVarint_zs (s : In) : (inVarint s).2.zs = s.zs := by
  unfold inVarint
  split <;> rfl
theorem inVarint_bd {s : In} (hb : Byt s.zs) : 0 ≤ (inVarint s).1 ∧ (inVarint s).1 < 4611686018427387904 := by
  unfold inVarint
  split
  · rcases rd_size (hb.drop s.t) with ⟨_, h, _⟩ | ⟨h, _⟩
    · exact h
    · simp only [h]; omega
  · simp only; omega
theorem hq_newk {w0 w : World} (hb : w0.heap.size ≤ w.heap.size) (k x : Int) : Hq w0 (w.alloc (.cells #[.int .i64 k, .int .i64 0, .slice none 0 0, .slice none 0 0, .slice none 0 0, .int .i64 0, .int .i64 0, .int .i64 x] 24)) w.heap.size ⟨k, 0, [], [], [], 0, 0, x⟩ :=
  ⟨hb, _, _, _, heap_alloc_new _ _, Rd.nil _, Rd.nil _, Rd.nil _⟩
theorem in1_bdS {s : In} (hb : Byt s.zs) : 0 ≤ (inNumber 1 s).1 ∧ (inNumber 1 s).1 ≤ 255 := by
  obtain ⟨zs, t, e⟩ := s
  exact in1_bd hb t e

end Go.Proofs.YtgnjmmaahpngpaaDoor
