/- Look of a number that is none. -/
import Derived.Test.YtmplcibaoanlnaaLook
namespace Go.Proofs.Ytmplcibaoanlnaa
open Go Go.RowKit

set_option maxHeartbeats 1000000 in
set_option maxRecDepth 20000 in
theorem look_no {w : World} {B tb mb : Nat} {nv : Value} {L : List (Nd × Value)} {f : Int → ByteArray → List Int → Option Int} (h : Tbl w B tb mb nv L f) (t : Int) (h0 : t < 1 ∨ (L.length : Int) < t) :
    Calls Try.prog 31 #[.pointer (some ⟨tb, 0, none⟩), .int .i64 t] w fun e w' => e = .returned (.tuple #[.agg #[.int .i64 0, .string ByteArray.empty, .slice none 0 0], .bool false]) ∧ Below w.heap.size w w' := by
  have hn := has_no (w := w.alloc (.cells #[.int .i64 0, .string ByteArray.empty, .slice none 0 0] 47)) (h.keep (below_alloc w _)) t h0
  clear h h0
  go_enter Try.func31, Try.ntmps31
  go_wp2_with (go_at_call 33; refine hn.mono ?_; rintro e w' ⟨rfl, rfl⟩)
  refine bodyPost_ret (v := .tuple #[.agg #[.int .i64 0, .string ByteArray.empty, .slice none 0 0], .bool false]) (results11 rfl (heap_alloc_new w _) rfl) rfl ⟨rfl, below_alloc w _⟩
set_option maxRecDepth 20000 in
theorem Tab.look_no {w : World} {B tb mb : Nat} {nv : Value} {N : List Nd} (h : TabAt w B tb mb nv N) (t : Int) (h0 : t < 1 ∨ (N.length : Int) < t) :
    Calls Try.prog 31 #[.pointer (some ⟨tb, 0, none⟩), .int .i64 t] w fun e w' => e = .returned (.tuple #[.agg #[.int .i64 0, .string ByteArray.empty, .slice none 0 0], .bool false]) ∧ Below w.heap.size w w' := by
  obtain ⟨L, h1, rfl⟩ := h.ex
  rw [nds_len] at h0
  exact Go.Proofs.Ytmplcibaoanlnaa.look_no h1 t h0
/-- A number's place. -/
theorem place (t : Int) (n : Nat) (h1 : 1 ≤ t) (h2 : t ≤ (n : Int)) : ∃ q : Nat, q < n ∧ t = (q : Int) + 1 := ⟨(t - 1).toNat, by omega, by omega⟩
#print axioms Tab.look_no
end Go.Proofs.Ytmplcibaoanlnaa
