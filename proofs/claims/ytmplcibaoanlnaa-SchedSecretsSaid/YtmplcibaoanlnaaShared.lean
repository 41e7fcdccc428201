/- secrets tells the parts of a shared term: both secrets, the smaller number first. -/
import Derived.Test.YtmplcibaoanlnaaFits
namespace Go.Proofs.Ytmplcibaoanlnaa
open Go Go.RowKit

set_option maxHeartbeats 1000000 in
set_option maxRecDepth 20000 in
theorem secrets_any {w : World} {B tb mb : Nat} {nv : Value} {L : List (Nd × Value)} {f : Int → ByteArray → List Int → Option Int} (h : Tbl w B tb mb nv L f) (x : Int) (q : Nat) (hq : q < L.length) (o : Int) (ho : L[q].1.2.2 = [o]) :
    Calls Try.prog 23 #[.pointer (some ⟨tb, 0, none⟩), .int .i64 x, .int .i64 ((q : Int) + 1)] w fun e w' => ∃ v, e = .returned v ∧ w'.ownsRow w.heap.size 26 1 v 2 (cs .i64 [min x o, max x o]) ∧ Below w.heap.size w w' := by
  obtain ⟨g, c, hnv', hc9, hLc, _, _, hcell⟩ := node_cell h q hq
  have hc0 : w.cell? ⟨tb, 0, none⟩ = some nv := by simp [World.cell?, h.tab]
  have hpart := h.parts L[q] (List.getElem_mem hq)
  rw [ho] at hpart
  obtain ⟨pg, pc, hpv, hpc⟩ : ∃ pg pc, L[q].2 = .slice (some ⟨pg, 0, none⟩) 1 pc ∧ w.cell? ⟨pg, 0, none⟩ = some (.int .i64 o) := by
    rcases hpart.2 with ⟨_, h0⟩ | ⟨pg, pc, cur, hv, _⟩
    · simp at h0
    · refine ⟨pg, pc, hv, ?_⟩
      rw [hv] at hpart
      rw [hpart.cellAt 0 (by simp)]; rfl
  rw [hpv] at hcell
  subst hnv'
  have hqI : (q : Int) < (L.length : Int) := by omega
  clear h hpart hpv ho
  have key : ∀ a b : Int, (w.alloc (.cells #[.int .i64 a, .int .i64 b] 26)).ownsRow w.heap.size 26 1 (.slice (some ⟨w.heap.size, 0, none⟩) 2 2) 2 (cs .i64 [a, b]) := fun a b => own_lit .i64 26 w [a, b] (by simp)
  have KEY := Lib.hid key
  clear key
  by_cases h1 : x < o
  · rw [Int.min_eq_left (by omega), Int.max_eq_right (by omega)]
    have h2 : x ≤ o := by omega
    go_enter Try.func23, Try.ntmps23
    go_wp2
    go_ret
    exact ⟨_, rfl, KEY.out x o, below_alloc _ _⟩
  · by_cases h2 : x = o
    · subst h2
      rw [Int.min_eq_left (by omega), Int.max_eq_right (by omega)]
      go_enter Try.func23, Try.ntmps23
      go_wp2
      go_ret
      exact ⟨_, rfl, KEY.out x x, below_alloc _ _⟩
    · rw [Int.min_eq_right (by omega), Int.max_eq_left (by omega)]
      have h3 : o < x := by omega
      go_enter Try.func23, Try.ntmps23
      go_wp2
      go_ret
      exact ⟨_, rfl, KEY.out o x, below_alloc _ _⟩
#print axioms secrets_any
end Go.Proofs.Ytmplcibaoanlnaa
