/- Plain facts: a number's bytes, read, are the number, whatever stands behind them. -/
import Derived.Test.YtefcjggmlhoebaaDoorRead
import Derived.Test.YtefcjggmlhoebaaDoorAppend
namespace Go.Proofs.YtefcjggmlhoebaaDoor
open Go Go.RowKit

theorem byt_of {zs : List Int} (h : zs.all (fun z => decide (0 ≤ z) && decide (z ≤ 255)) = true) : Byt zs := fun z hz => by
  have := List.all_eq_true.1 h z hz
  simpa using this
theorem tl_byt (j : Nat) (n : Int) : Byt (tl j n) := by
  induction j with
  | zero => exact Byt.nil
  | succ j ih =>
    intro z hz
    rcases List.mem_cons.1 hz with rfl | hz
    · omega
    · exact ih z hz
theorem bts_byt (k : Nat) (n : Int) (hn : 0 ≤ n) (h : n < 64 * 256 ^ (k - 1)) : Byt (bts k n) := by
  have hb := tl_byt k n
  cases k with
  | zero => exact Byt.nil
  | succ j =>
    have h3 : n / 256 ^ j < 64 := Int.ediv_lt_of_lt_mul (Int.pow_pos (by decide)) h
    have h4 : 0 ≤ n / 256 ^ j := Int.ediv_nonneg hn (Int.le_of_lt (Int.pow_pos (by decide)))
    have hl : 0 ≤ lg (j + 1) ∧ lg (j + 1) ≤ 3 := by unfold lg; split <;> (try split) <;> (try split) <;> omega
    intro z hz
    simp only [bts, tl] at hz
    rcases List.mem_cons.1 hz with rfl | hz
    · rw [Int.emod_eq_of_lt h4 (by omega)]; omega
    · exact hb z (by simp only [tl]; exact List.mem_cons_of_mem _ hz)
theorem enc_byt (n : Int) : Byt (enc n) := by
  rcases sz_cases n with ⟨hs, _⟩ | ⟨hn0, _, k, hs, _, hnk⟩
  · simp [enc, hs, bts, tl, Byt.nil]
  · have e : enc n = bts k n := by simp [enc, hs]
    rw [e]; exact bts_byt k n hn0 hnk
theorem tab_alloc {w : World} (h : Tab w) (o : Obj) : Tab (w.alloc o) := h.below ((Below.refl _ _).alloc (Nat.le_refl _) o)
theorem below_alloc (w : World) (o : Obj) : Below w.heap.size w (w.alloc o) := (Below.refl _ _).alloc (Nat.le_refl _) o
#print axioms enc_byt
end Go.Proofs.YtefcjggmlhoebaaDoor
namespace Go.Proofs.YtefcjggmlhoebaaDoor
open Go Go.RowKit

theorem Rd.take {w : World} {ao : Option Addr} {n cap : Nat} {zs : List Int} (h : Rd w (.slice ao n cap) zs) (k : Nat) (hk : k ≤ zs.length) : Rd w (.slice ao k cap) (zs.take k) := by
  obtain ⟨ao', cap', hv, h1, h2, h3, h4, hc⟩ := h
  simp only [Value.slice.injEq] at hv
  obtain ⟨rfl, rfl, rfl⟩ := hv
  have hl : (zs.take k).length = k := by simp; omega
  refine ⟨ao, cap, by rw [hl], by omega, h2, h3, h4.take k, fun a ha j hj => ?_⟩
  rw [hl] at hj
  rw [hc a ha j (by omega)]
  simp [List.getD, hj]

/-- The first byte tells how many there are. -/
theorem fs_bts (k : Nat) (n : Int) (hk : k = 1 ∨ k = 2 ∨ k = 4 ∨ k = 8) (hn : 0 ≤ n) (h : n < 64 * 256 ^ (k - 1)) :
    ∃ z r, bts k n = z :: r ∧ fs z = k ∧ r.length + 1 = k := by
  have hlen := bts_len k n
  have h3 : n / 256 ^ (k - 1) < 64 := Int.ediv_lt_of_lt_mul (Int.pow_pos (by decide)) h
  have h4 : 0 ≤ n / 256 ^ (k - 1) := Int.ediv_nonneg hn (Int.le_of_lt (Int.pow_pos (by decide)))
  have h5 : n / 256 ^ (k - 1) % 256 = n / 256 ^ (k - 1) := Int.emod_eq_of_lt h4 (by omega)
  obtain ⟨j, rfl⟩ : ∃ j, k = j + 1 := ⟨k - 1, by omega⟩
  simp only [Nat.add_sub_cancel] at h3 h4 h5
  refine ⟨_, _, rfl, ?_, by simpa [bts, tl] using hlen⟩
  rw [h5]
  generalize n / 256 ^ j = x at h3 h4
  have hj : j = 0 ∨ j = 1 ∨ j = 3 ∨ j = 7 := by omega
  rcases hj with rfl | rfl | rfl | rfl
  · have : (x + 64 * lg (0 + 1)) / 64 = 0 := by simp [lg]; omega
    simp [fs, this]
  · have : (x + 64 * lg (1 + 1)) / 64 = 1 := by simp [lg]; omega
    simp [fs, this]
  · have : (x + 64 * lg (3 + 1)) / 64 = 2 := by simp [lg]; omega
    simp [fs, this]
  · have : (x + 64 * lg (7 + 1)) / 64 = 3 := by simp [lg]; omega
    simp [fs, this]

/-- What is cut short is too short. -/
theorem rd_cut (n : Int) (k : Nat) (hk : k < (enc n).length) : rd ((enc n).take k) = (0, 0, 2) := by
  rcases sz_cases n with ⟨hs, _⟩ | ⟨hn0, _, m, hs, hm, hnk⟩
  · simp [enc, hs, bts, tl] at hk
  · have e : enc n = bts m n := by simp [enc, hs]
    rw [e] at hk ⊢
    obtain ⟨z, r, hz, hf, hr⟩ := fs_bts m n hm hn0 hnk
    rw [hz] at hk ⊢
    cases k with
    | zero => rfl
    | succ j =>
      simp only [List.take_succ_cons, rd]
      simp only [List.length_cons] at hk
      have h8 : (List.take j r).length = j := by simp; omega
      rw [if_pos (by simp only [List.length_cons, h8]; omega)]
theorem enc_len (n : Int) : (enc n).length ≤ 8 := by
  rcases sz_cases n with ⟨hs, _⟩ | ⟨hn0, _, m, hs, hm, hnk⟩
  · simp [enc, hs, bts, tl]
  · have e : enc n = bts m n := by simp [enc, hs]
    rw [e, bts_len]; omega
#print axioms rd_cut
end Go.Proofs.YtefcjggmlhoebaaDoor
namespace Go.Proofs.YtefcjggmlhoebaaDoor
open Go Go.RowKit

theorem val_bts (k : Nat) (n : Int) (hk : k = 1 ∨ k = 2 ∨ k = 4 ∨ k = 8) (hn : 0 ≤ n) (h : n < 64 * 256 ^ (k - 1)) : val (bts k n) = n := by
  rcases hk with rfl | rfl | rfl | rfl
  · simp [bts, tl, val, vf, lg] at h ⊢; omega
  · simp [bts, tl, val, vf, lg] at h ⊢; omega
  · simp [bts, tl, val, vf, lg] at h ⊢; omega
  · simp [bts, tl, val, vf, lg] at h ⊢; omega

/-- What is appended is read as it was, whatever stands behind it. -/
theorem rd_enc (n : Int) (hn : 0 ≤ n) (hn' : n < 4611686018427387904) (behind : List Int) : rd (enc n ++ behind) = (n, ((enc n).length : Int), 0) := by
  rcases sz_cases n with ⟨_, h⟩ | ⟨hn0, _, m, hs, hm, hnk⟩
  · omega
  · have e : enc n = bts m n := by simp [enc, hs]
    rw [e, bts_len]
    obtain ⟨z, r, hz, hf, hr⟩ := fs_bts m n hm hn0 hnk
    have hv := val_bts m n hm hn0 hnk
    rw [hz] at hv ⊢
    simp only [List.cons_append, rd, hf]
    have ht : (z :: (r ++ behind)).take m = z :: r := by
      rw [← hr, List.take_succ_cons, List.take_append_of_le_length (Nat.le_refl _), List.take_of_length_le (Nat.le_refl _)]
    rw [ht, hv, hs, if_neg (by simp; omega), if_pos rfl]
theorem enc_none (n : Int) (h : n < 0 ∨ 4611686018427387904 ≤ n) : enc n = [] := by
  rcases sz_cases n with ⟨hs, _⟩ | ⟨hn0, _, _⟩
  · simp [enc, hs, bts, tl]
  · omega
#print axioms rd_enc
end Go.Proofs.YtefcjggmlhoebaaDoor
