/- Plain facts on a number's bytes: each is a byte. -/
import Derived.Test.YtgcgmgcgbnepeaaDoorRead
import Derived.Test.YtgcgmgcgbnepeaaDoorAppend
namespace Go.Proofs.YtgcgmgcgbnepeaaDoor
open Go Go.RowKit

theorem byt_of {zs : List Int} (h : zs.all (fun z => decide (0 ≤ z) && decide (z ≤ 255)) = true) : Byt zs := fun z hz => by
  have := List.all_eq_true.1 h z hz
  simpa using this
theorem tl_byt (j : Nat) (n : Int) : Byt (tl j n) := by
  induction j with
  | zero => exact Byt.nil
  | succ j ih =>
    intro z hz
    rcases List.mem_cons.1 hz with rfl | hz
    · omega
    · exact ih z hz
theorem bts_byt (k : Nat) (n : Int) (hn : 0 ≤ n) (h : n < 64 * 256 ^ (k - 1)) : Byt (bts k n) := by
  have hb := tl_byt k n
  cases k with
  | zero => exact Byt.nil
  | succ j =>
    have h3 : n / 256 ^ j < 64 := Int.ediv_lt_of_lt_mul (Int.pow_pos (by decide)) h
    have h4 : 0 ≤ n / 256 ^ j := Int.ediv_nonneg hn (Int.le_of_lt (Int.pow_pos (by decide)))
    have hl : 0 ≤ lg (j + 1) ∧ lg (j + 1) ≤ 3 := by unfold lg; split <;> (try split) <;> (try split) <;> omega
    intro z hz
    simp only [bts, tl] at hz
    rcases List.mem_cons.1 hz with rfl | hz
    · rw [Int.emod_eq_of_lt h4 (by omega)]; omega
    · exact hb z (by simp only [tl]; exact List.mem_cons_of_mem _ hz)
theorem enc_byt (n : Int) : Byt (enc n) := by
  rcases sz_cases n with ⟨hs, _⟩ | ⟨hn0, _, k, hs, _, hnk⟩
  · simp [enc, hs, bts, tl, Byt.nil]
  · have e : enc n = bts k n := by simp [enc, hs]
    rw [e]; exact bts_byt k n hn0 hnk
theorem tab_alloc {w : World} (h : Tab w) (o : Obj) : Tab (w.alloc o) := h.below ((Below.refl _ _).alloc (Nat.le_refl _) o)
theorem below_alloc (w : World) (o : Obj) : Below w.heap.size w (w.alloc o) := (Below.refl _ _).alloc (Nat.le_refl _) o
#print axioms enc_byt
end Go.Proofs.YtgcgmgcgbnepeaaDoor
