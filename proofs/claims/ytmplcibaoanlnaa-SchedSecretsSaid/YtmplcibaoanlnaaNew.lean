/- New makes an empty table. -/
import Derived.Test.YtmplcibaoanlnaaTab
import Derived.Outline
namespace Go.Proofs.Ytmplcibaoanlnaa
open Go Go.RowKit

set_option maxRecDepth 20000 in
theorem MapV.alloc {w : World} {mb n : Nat} {f : Int → ByteArray → List Int → Option Int} (h : MapV w mb n f) (o : Obj) : MapV (w.alloc o) mb n f := h.keep (Below.heap_alloc w o mb h.lt)
set_option maxHeartbeats 400000 in
set_option maxRecDepth 20000 in
theorem new_any (w : World) : Calls Try.prog 4 #[] w fun e w' => e = .returned (.pointer (some ⟨w.heap.size + 1, 0, none⟩)) ∧ Tbl w' w.heap.size (w.heap.size + 1) w.heap.size (.slice none 0 0) [] (idx []) ∧ Below w.heap.size w w' := by
  have hmm := @run_makeMap Try.prog
  go_enter Try.func4, Try.ntmps4
  go_wp2
  go_ret
  refine ⟨rfl, ⟨by omega, Nat.le_refl _, ?_, World.ownsRow_nil _ _ _ _, (fun p h => by cases h), ((MapV.made w).congr fun _ _ _ _ => rfl).alloc _, by decide, (fun p h => by cases h)⟩, ?_⟩
  · have := heap_alloc_new (w.alloc (.map #[] 0)) (.cells #[Value.slice none 0 0, Value.map (some w.heap.size)] 43)
    simpa using this
  · exact (below_alloc w _).trans ((below_alloc _ _).mono (by simp))
#print axioms new_any
end Go.Proofs.Ytmplcibaoanlnaa
