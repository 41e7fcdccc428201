/- The function awake tells true, and writes nothing that was there. -/
import Derived.Test.YtddhdbdhdcjefaaDoorRead
import Derived.Test.YtddhdbdhdcjefaaDoorAppend
import Derived.Test.YtddhdbdhdcjefaaDoorSame
namespace Go.Proofs.YtddhdbdhdcjefaaDoor
open Go Go.RowKit

theorem byt_of {zs : List Int} (h : zs.all (fun z => decide (0 ≤ z) && decide (z ≤ 255)) = true) : Byt zs := fun z hz => by
  have := List.all_eq_true.1 h z hz
  simpa using this
theorem tl_byt (j : Nat) (n : Int) : Byt (tl j n) := by
  induction j with
  | zero => exact Byt.nil
  | succ j ih =>
    intro z hz
    rcases List.mem_cons.1 hz with rfl | hz
    · omega
    · exact ih z hz
theorem bts_byt (k : Nat) (n : Int) (hn : 0 ≤ n) (h : n < 64 * 256 ^ (k - 1)) : Byt (bts k n) := by
  have hb := tl_byt k n
  cases k with
  | zero => exact Byt.nil
  | succ j =>
    have h3 : n / 256 ^ j < 64 := Int.ediv_lt_of_lt_mul (Int.pow_pos (by decide)) h
    have h4 : 0 ≤ n / 256 ^ j := Int.ediv_nonneg hn (Int.le_of_lt (Int.pow_pos (by decide)))
    have hl : 0 ≤ lg (j + 1) ∧ lg (j + 1) ≤ 3 := by unfold lg; split <;> (try split) <;> (try split) <;> omega
    intro z hz
    simp only [bts, tl] at hz
    rcases List.mem_cons.1 hz with rfl | hz
    · rw [Int.emod_eq_of_lt h4 (by omega)]; omega
    · exact hb z (by simp only [tl]; exact List.mem_cons_of_mem _ hz)
theorem enc_byt (n : Int) : Byt (enc n) := by
  rcases sz_cases n with ⟨hs, _⟩ | ⟨hn0, _, k, hs, _, hnk⟩
  · simp [enc, hs, bts, tl, Byt.nil]
  · have e : enc n = bts k n := by simp [enc, hs]
    rw [e]; exact bts_byt k n hn0 hnk
theorem tab_alloc {w : World} (h : Tab w) (o : Obj) : Tab (w.alloc o) := h.below ((Below.refl _ _).alloc (Nat.le_refl _) o)
theorem below_alloc (w : World) (o : Obj) : Below w.heap.size w (w.alloc o) := (Below.refl _ _).alloc (Nat.le_refl _) o
theorem enc63 : enc 63 = [63] := by kernel_rfl
theorem enc16384 : enc 16384 = [128, 0, 64, 0] := by kernel_rfl
theorem rd64 : rd [64, 1] = (0, 0, 3) := by kernel_rfl

set_option maxHeartbeats 800000 in
theorem awake_any {w : World} (ht : Tab w) (hw : 1 < w.heap.size) : Calls Tryd.prog 14 #[] w fun e w' => e = .returned (.bool true) ∧ Below w.heap.size w w' := by
  have h1 := read_any (Rd.lit w [64, 1] (by decide) (byt_of (by decide)))
  rw [rd64] at h1
  go_enter Tryd.func14, Tryd.ntmps14
  go_wp2_with fail
  refine h1.mono ?_
  rintro e w' ⟨rfl, rfl⟩
  go_wp2_with fail
  refine (append_any (Rd.nil _) (by decide) 63 (tab_alloc ht _) (by simp; omega)).mono ?_
  rintro e w1 ⟨v1, rfl, hown1, hb1⟩
  rw [enc63] at hown1
  have g1 := (Rd.of_own hown1 (byt_of (by decide))).1
  have t1 := (tab_alloc ht _).below hb1
  have s1 := hb1.size
  simp only [World.size_alloc] at s1
  go_wp2_with fail
  refine (same_true (zs := [63]) (g1.alloc _) (Rd.lit w1 [63] (by decide) (byt_of (by decide)))).mono ?_
  rintro e w2 ⟨rfl, hb2⟩
  have t2 := (tab_alloc t1 _).below hb2
  have s2 := hb2.size
  simp only [World.size_alloc] at s2
  go_wp2_with fail
  refine (append_any (Rd.nil _) (by decide) 16384 t2 (by omega)).mono ?_
  rintro e w3 ⟨v3, rfl, hown3, hb3⟩
  rw [enc16384] at hown3
  have g3 := (Rd.of_own hown3 (byt_of (by decide))).1
  have s3 := hb3.size
  go_wp2_with fail
  refine (same_true (zs := [128, 0, 64, 0]) (g3.alloc _) (Rd.lit w3 [128, 0, 64, 0] (by decide) (byt_of (by decide)))).mono ?_
  rintro e w4 ⟨rfl, hb4⟩
  go_wp2_with fail
  go_ret
  refine ⟨rfl, ?_⟩
  refine (below_alloc w _).trans ((hb1.mono (by simp)).trans (((below_alloc w1 _).mono (by omega)).trans ((hb2.mono (by simp; omega)).trans ((hb3.mono (by omega)).trans (((below_alloc w3 _).mono (by omega)).trans (hb4.mono (by simp; omega)))))))
#print axioms awake_any
end Go.Proofs.YtddhdbdhdcjefaaDoor
