/- HeaderReads: both Reads tell the same of any bytes. -/
import Derived.Test.YtgnjmmaahpngpaaDoorHRead2
import Derived.Test.YtgnjmmaahpngpaaDoorHRefAny
import Derived.Test.YtgnjmmaahpngpaaDoorHAwake
namespace Go.Proofs.YtgnjmmaahpngpaaDoor
open Go Go.RowKit

/-- header.Read, whatever the bytes: what it hands back lies in memory of its own. -/
theorem readhead_ra {w : World} {v : Value} {zs : List Int} (hr : Rd w v zs) (hp : Plain v) (hl : zs.length ≤ 1000000) :
    Calls Tryd.prog 21 #[v] w fun e w' => ∃ vt vf vk, e = .returned (.tuple #[.agg (hcells (refP zs).1 vt vf vk), .int .i64 ((refP zs).2.1 : Nat), .int .i64 (refP zs).2.2.1, .int .i64 (refP zs).2.2.2]) ∧ HrA w.heap.size w' (refP zs).1 vt vf vk ∧ Below w.heap.size w w' := by
  have hR := ref_eq hr.byt
  cases hp' : readP zs with
  | ok s =>
    rw [hp'] at hR
    rw [hR]
    exact read_okA hr hp hl s hp'
  | error k =>
    rw [hp'] at hR
    rw [hR]
    refine (read_errW hr hp hl k hp').mono ?_
    rintro e w' ⟨rfl, hb⟩
    have hn : ∀ lo, Ra lo w' (.slice none 0 0) [] := fun lo => ⟨Rd.nil _, fun _ _ _ h => by cases h⟩
    exact ⟨.slice none 0 0, .slice none 0 0, .slice none 0 0, rfl, ⟨hn _, hn _, hn _⟩, hb⟩
theorem readhead_any {w : World} {v : Value} {zs : List Int} (hr : Rd w v zs) (hp : Plain v) (hl : zs.length ≤ 1000000) :
    Calls Tryd.prog 21 #[v] w fun e w' => ∃ vt vf vk, e = .returned (.tuple #[.agg (hcells (refP zs).1 vt vf vk), .int .i64 ((refP zs).2.1 : Nat), .int .i64 (refP zs).2.2.1, .int .i64 (refP zs).2.2.2]) ∧ Hr w' (refP zs).1 vt vf vk ∧ Below w.heap.size w w' :=
  (readhead_ra hr hp hl).mono fun _ _ ⟨vt, vf, vk, he, hh, hb⟩ => ⟨vt, vf, vk, he, hh.hr, hb⟩

#print axioms readhead_any
end Go.Proofs.YtgnjmmaahpngpaaDoor
