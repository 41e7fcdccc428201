/- Plain facts: what a number's bytes begin with, and what is read from them. -/
import Derived.Test.YtepkhhpdpmhfaaaDoorZRead
import Derived.Test.YtepkhhpdpmhfaaaDoorZPut
namespace Go.Proofs.YtepkhhpdpmhfaaaDoor
open Go Go.RowKit

theorem info5 : (Tryd.prog.info? 5).map (fun i => (i.zero, i.size, i.bytes)) = some (some (.int .u8 0), 1, 1) := by kernel_rfl
/-- A number's bytes; none, if it is no number. -/
def enc (n : Int) : List Int := bts (sz n).toNat n
theorem sz_cases (n : Int) : (sz n = 0 ∧ (n < 0 ∨ 4611686018427387904 ≤ n)) ∨ (0 ≤ n ∧ n < 4611686018427387904 ∧ ∃ k : Nat, sz n = (k : Int) ∧ (k = 1 ∨ k = 2 ∨ k = 4 ∨ k = 8) ∧ n < 64 * 256 ^ (k - 1)) := by
  unfold sz
  by_cases h : n < 0 ∨ 4611686018427387904 ≤ n
  · rw [if_pos h]; exact .inl ⟨rfl, h⟩
  · rw [if_neg h]
    refine .inr ⟨by omega, by omega, ?_⟩
    by_cases h1 : n < 64
    · rw [if_pos h1]; exact ⟨1, rfl, by omega, by simp; omega⟩
    · rw [if_neg h1]
      by_cases h2 : n < 16384
      · rw [if_pos h2]; exact ⟨2, rfl, by omega, by simp; omega⟩
      · rw [if_neg h2]
        by_cases h3 : n < 1073741824
        · rw [if_pos h3]; exact ⟨4, rfl, by omega, by simp; omega⟩
        · rw [if_neg h3]; exact ⟨8, rfl, by omega, by simp; omega⟩

theorem size_is (n : Int) (k : Nat) (h : sz n = (k : Int)) (w : World) : Calls Tryd.prog 17 #[.int .i64 n] w fun e w' => e = .returned (.int .i64 (k : Int)) ∧ w = w' := by
  have := size_any n w
  rw [h] at this
  exact this

set_option maxRecDepth 20000 in
set_option maxHeartbeats 400000 in
theorem append_any {w : World} {v : Value} {zs : List Int} (h1 : Rd w v zs) (hb : zs.length ≤ 100000) (n : Int) (ht : Tab w) (hw : 1 < w.heap.size) :
    Calls Tryd.prog 31 #[v, .int .i64 n] w fun e w' => ∃ v', e = .returned v' ∧ w'.ownsRow w.heap.size 5 1 v' (zs.length + (enc n).length) (by8 (zs ++ enc n)) ∧ Below w.heap.size w w' := by
  obtain ⟨i, hi, hz0, hz1, hz2⟩ := info_parts info5
  have h1' := h1
  obtain ⟨ao, cap, rfl, _⟩ := h1'
  rcases sz_cases n with ⟨hs, _⟩ | ⟨hn0, hn1, k, hs, hk, hnk⟩
  · have hsz := size_is n 0 hs
    have HE : Hid (enc n = []) := Lib.hid (by simp [enc, hs, bts, tl])
    clear hs
    go_enter Tryd.func31, Tryd.ntmps31
    go_wp2_with (first | (go_at_call 17; refine (hsz _).mono ?_; rintro e w' ⟨rfl, rfl⟩) | (at_make; refine wpList_make_full _ rfl _ _ 22 rfl w.heap.size 5 i (.int .u8 0) 1 Tryd.underlying22 hi hz0 hz1 .i64 .i64 _ _ zs.length rfl rfl (by simp) (by simp) (by rw [hz2]; omega) (by unfold maxLen; omega) (Nat.le_refl _) ?_; intro w1 hown1 hg1) | ((with_reducible show wpList _ _ _ _ _ _); refine wpList_copy_bytes (o := ⟨some 16, _, _, _, _, _⟩) (.tmp 14) (.tmp 15) 22 rfl rfl info5 Tryd.underlying22 w.heap.size w.heap.size zs.length _ rfl hown1 _ zs rfl (h1.below (below_made hg1)) (Nat.le_refl _) ?_; intro w2 hown2 hb2))
    go_ret
    refine ⟨_, rfl, ?_, (below_made hg1).trans hb2⟩
    have e : List.drop zs.length (madeCells (Value.int .u8 0).cells (zs.length * 1)).toList = [] := List.drop_eq_nil_of_le (by simp [madeCells])
    rw [e, List.append_nil] at hown2
    rw [HE.out, List.append_nil]
    exact hown2
  · have hsz := size_is n k hs
    have HE : Hid (enc n = bts k n) := Lib.hid (by simp [enc, hs])
    have HK := Lib.hid hk
    have hk1 : 1 ≤ k := by omega
    have hk8 : k ≤ 8 := by omega
    clear hs hk
    go_enter Tryd.func31, Tryd.ntmps31
    go_wp2_with (first | (go_at_call 17; refine (hsz _).mono ?_; rintro e w' ⟨rfl, rfl⟩) | (at_make; refine wpList_make_full _ rfl _ _ 22 rfl w.heap.size 5 i (.int .u8 0) 1 Tryd.underlying22 hi hz0 hz1 .i64 .i64 _ _ (zs.length + k) rfl rfl (by omega) (by omega) (by rw [hz2]; omega) (by unfold maxLen; omega) (Nat.le_refl _) ?_; intro w1 hown1 hg1) | ((with_reducible show wpList _ _ _ _ _ _); refine wpList_copy_bytes (o := ⟨some 16, _, _, _, _, _⟩) (.tmp 14) (.tmp 15) 22 rfl rfl info5 Tryd.underlying22 w.heap.size w.heap.size (zs.length + k) _ rfl hown1 _ zs rfl (h1.below (below_made hg1)) (Nat.le_add_right _ _) ?_; intro w2 hown2 hb2))
    obtain ⟨hbk, hbl, _, _⟩ := own_block hown2
    refine (put_any HK.out hbl hbk hw (ht.below ((below_made hg1).trans hb2)) hn0 hnk (by omega)).mono ?_
    rintro e w3 ⟨rfl, hh3, hb3⟩
    go_wp2
    go_ret
    refine ⟨_, rfl, ?_, ((below_made hg1).trans hb2).trans hb3⟩
    rw [HE.out, bts_len]
    refine own_of_block ?_ (by simp [by8_len, bts_len]) (Nat.le_refl _) (by unfold maxLen; omega)
    rw [hh3, List.take_append_of_le_length (by simp [by8_len]), List.take_of_length_le (by simp [by8_len]), by8_app]
#print axioms append_any
end Go.Proofs.YtepkhhpdpmhfaaaDoor
namespace Go.Proofs.YtepkhhpdpmhfaaaDoor
open Go Go.RowKit

theorem byt_of {zs : List Int} (h : zs.all (fun z => decide (0 ≤ z) && decide (z ≤ 255)) = true) : Byt zs := fun z hz => by
  have := List.all_eq_true.1 h z hz
  simpa using this
theorem tl_byt (j : Nat) (n : Int) : Byt (tl j n) := by
  induction j with
  | zero => exact Byt.nil
  | succ j ih =>
    intro z hz
    rcases List.mem_cons.1 hz with rfl | hz
    · omega
    · exact ih z hz
theorem bts_byt (k : Nat) (n : Int) (hn : 0 ≤ n) (h : n < 64 * 256 ^ (k - 1)) : Byt (bts k n) := by
  have hb := tl_byt k n
  cases k with
  | zero => exact Byt.nil
  | succ j =>
    have h3 : n / 256 ^ j < 64 := Int.ediv_lt_of_lt_mul (Int.pow_pos (by decide)) h
    have h4 : 0 ≤ n / 256 ^ j := Int.ediv_nonneg hn (Int.le_of_lt (Int.pow_pos (by decide)))
    have hl : 0 ≤ lg (j + 1) ∧ lg (j + 1) ≤ 3 := by unfold lg; split <;> (try split) <;> (try split) <;> omega
    intro z hz
    simp only [bts, tl] at hz
    rcases List.mem_cons.1 hz with rfl | hz
    · rw [Int.emod_eq_of_lt h4 (by omega)]; omega
    · exact hb z (by simp only [tl]; exact List.mem_cons_of_mem _ hz)
theorem enc_byt (n : Int) : Byt (enc n) := by
  rcases sz_cases n with ⟨hs, _⟩ | ⟨hn0, _, k, hs, _, hnk⟩
  · simp [enc, hs, bts, tl, Byt.nil]
  · have e : enc n = bts k n := by simp [enc, hs]
    rw [e]; exact bts_byt k n hn0 hnk
theorem tab_alloc {w : World} (h : Tab w) (o : Obj) : Tab (w.alloc o) := h.below ((Below.refl _ _).alloc (Nat.le_refl _) o)
theorem below_alloc (w : World) (o : Obj) : Below w.heap.size w (w.alloc o) := (Below.refl _ _).alloc (Nat.le_refl _) o
#print axioms enc_byt
end Go.Proofs.YtepkhhpdpmhfaaaDoor
namespace Go.Proofs.YtepkhhpdpmhfaaaDoor
open Go Go.RowKit

theorem Rd.take {w : World} {ao : Option Addr} {n cap : Nat} {zs : List Int} (h : Rd w (.slice ao n cap) zs) (k : Nat) (hk : k ≤ zs.length) : Rd w (.slice ao k cap) (zs.take k) := by
  obtain ⟨ao', cap', hv, h1, h2, h3, h4, hc⟩ := h
  simp only [Value.slice.injEq] at hv
  obtain ⟨rfl, rfl, rfl⟩ := hv
  have hl : (zs.take k).length = k := by simp; omega
  refine ⟨ao, cap, by rw [hl], by omega, h2, h3, h4.take k, fun a ha j hj => ?_⟩
  rw [hl] at hj
  rw [hc a ha j (by omega)]
  simp [List.getD, hj]

/-- The first byte tells how many there are. -/
theorem fs_bts (k : Nat) (n : Int) (hk : k = 1 ∨ k = 2 ∨ k = 4 ∨ k = 8) (hn : 0 ≤ n) (h : n < 64 * 256 ^ (k - 1)) :
    ∃ z r, bts k n = z :: r ∧ fs z = k ∧ r.length + 1 = k := by
  have hlen := bts_len k n
  have h3 : n / 256 ^ (k - 1) < 64 := Int.ediv_lt_of_lt_mul (Int.pow_pos (by decide)) h
  have h4 : 0 ≤ n / 256 ^ (k - 1) := Int.ediv_nonneg hn (Int.le_of_lt (Int.pow_pos (by decide)))
  have h5 : n / 256 ^ (k - 1) % 256 = n / 256 ^ (k - 1) := Int.emod_eq_of_lt h4 (by omega)
  obtain ⟨j, rfl⟩ : ∃ j, k = j + 1 := ⟨k - 1, by omega⟩
  simp only [Nat.add_sub_cancel] at h3 h4 h5
  refine ⟨_, _, rfl, ?_, by simpa [bts, tl] using hlen⟩
  rw [h5]
  generalize n / 256 ^ j = x at h3 h4
  have hj : j = 0 ∨ j = 1 ∨ j = 3 ∨ j = 7 := by omega
  rcases hj with rfl | rfl | rfl | rfl
  · have : (x + 64 * lg (0 + 1)) / 64 = 0 := by simp [lg]; omega
    simp [fs, this]
  · have : (x + 64 * lg (1 + 1)) / 64 = 1 := by simp [lg]; omega
    simp [fs, this]
  · have : (x + 64 * lg (3 + 1)) / 64 = 2 := by simp [lg]; omega
    simp [fs, this]
  · have : (x + 64 * lg (7 + 1)) / 64 = 3 := by simp [lg]; omega
    simp [fs, this]

/-- What is cut short is too short. -/
theorem rd_cut (n : Int) (k : Nat) (hk : k < (enc n).length) : rd ((enc n).take k) = (0, 0, 2) := by
  rcases sz_cases n with ⟨hs, _⟩ | ⟨hn0, _, m, hs, hm, hnk⟩
  · simp [enc, hs, bts, tl] at hk
  · have e : enc n = bts m n := by simp [enc, hs]
    rw [e] at hk ⊢
    obtain ⟨z, r, hz, hf, hr⟩ := fs_bts m n hm hn0 hnk
    rw [hz] at hk ⊢
    cases k with
    | zero => rfl
    | succ j =>
      simp only [List.take_succ_cons, rd]
      simp only [List.length_cons] at hk
      have h8 : (List.take j r).length = j := by simp; omega
      rw [if_pos (by simp only [List.length_cons, h8]; omega)]
theorem enc_len (n : Int) : (enc n).length ≤ 8 := by
  rcases sz_cases n with ⟨hs, _⟩ | ⟨hn0, _, m, hs, hm, hnk⟩
  · simp [enc, hs, bts, tl]
  · have e : enc n = bts m n := by simp [enc, hs]
    rw [e, bts_len]; omega
#print axioms rd_cut
end Go.Proofs.YtepkhhpdpmhfaaaDoor
