/- The function Append hands back a new slice: the bytes that came in and the number's bytes behind them; it writes nothing that was there. -/
import Derived.Test.YtefcjggmlhoebaaDoorRead
import Derived.Test.YtefcjggmlhoebaaDoorPut
namespace Go.Proofs.YtefcjggmlhoebaaDoor
open Go Go.RowKit

theorem info5 : (Tryd.prog.info? 5).map (fun i => (i.zero, i.size, i.bytes)) = some (some (.int .u8 0), 1, 1) := by kernel_rfl
/-- A number's bytes; none, if it is no number. -/
def enc (n : Int) : List Int := bts (sz n).toNat n
theorem sz_cases (n : Int) : (sz n = 0 ∧ (n < 0 ∨ 4611686018427387904 ≤ n)) ∨ (0 ≤ n ∧ n < 4611686018427387904 ∧ ∃ k : Nat, sz n = (k : Int) ∧ (k = 1 ∨ k = 2 ∨ k = 4 ∨ k = 8) ∧ n < 64 * 256 ^ (k - 1)) := by
  unfold sz
  by_cases h : n < 0 ∨ 4611686018427387904 ≤ n
  · rw [if_pos h]; exact .inl ⟨rfl, h⟩
  · rw [if_neg h]
    refine .inr ⟨by omega, by omega, ?_⟩
    by_cases h1 : n < 64
    · rw [if_pos h1]; exact ⟨1, rfl, by omega, by simp; omega⟩
    · rw [if_neg h1]
      by_cases h2 : n < 16384
      · rw [if_pos h2]; exact ⟨2, rfl, by omega, by simp; omega⟩
      · rw [if_neg h2]
        by_cases h3 : n < 1073741824
        · rw [if_pos h3]; exact ⟨4, rfl, by omega, by simp; omega⟩
        · rw [if_neg h3]; exact ⟨8, rfl, by omega, by simp; omega⟩

theorem size_is (n : Int) (k : Nat) (h : sz n = (k : Int)) (w : World) : Calls Tryd.prog 29 #[.int .i64 n] w fun e w' => e = .returned (.int .i64 (k : Int)) ∧ w = w' := by
  have := size_any n w
  rw [h] at this
  exact this

set_option maxRecDepth 20000 in
set_option maxHeartbeats 400000 in
theorem append_any {w : World} {v : Value} {zs : List Int} (h1 : Rd w v zs) (hb : zs.length ≤ 100000) (n : Int) (ht : Tab w) (hw : 1 < w.heap.size) :
    Calls Tryd.prog 53 #[v, .int .i64 n] w fun e w' => ∃ v', e = .returned v' ∧ w'.ownsRow w.heap.size 5 1 v' (zs.length + (enc n).length) (by8 (zs ++ enc n)) ∧ Below w.heap.size w w' := by
  obtain ⟨i, hi, hz0, hz1, hz2⟩ := info_parts info5
  have h1' := h1
  obtain ⟨ao, cap, rfl, _⟩ := h1'
  rcases sz_cases n with ⟨hs, _⟩ | ⟨hn0, hn1, k, hs, hk, hnk⟩
  · have hsz := size_is n 0 hs
    have HE : Hid (enc n = []) := Lib.hid (by simp [enc, hs, bts, tl])
    clear hs
    go_enter Tryd.func53, Tryd.ntmps53
    go_wp2_with (first | (go_at_call 29; refine (hsz _).mono ?_; rintro e w' ⟨rfl, rfl⟩) | (at_make; refine wpList_make_full _ rfl _ _ 22 rfl w.heap.size 5 i (.int .u8 0) 1 Tryd.underlying22 hi hz0 hz1 .i64 .i64 _ _ zs.length rfl rfl (by simp) (by simp) (by rw [hz2]; omega) (by unfold maxLen; omega) (Nat.le_refl _) ?_; intro w1 hown1 hg1) | ((with_reducible show wpList _ _ _ _ _ _); refine wpList_copy_bytes (o := ⟨some 16, _, _, _, _, _⟩) (.tmp 14) (.tmp 15) 22 rfl rfl info5 Tryd.underlying22 w.heap.size w.heap.size zs.length _ rfl hown1 _ zs rfl (h1.below (below_made hg1)) (Nat.le_refl _) ?_; intro w2 hown2 hb2))
    go_ret
    refine ⟨_, rfl, ?_, (below_made hg1).trans hb2⟩
    have e : List.drop zs.length (madeCells (Value.int .u8 0).cells (zs.length * 1)).toList = [] := List.drop_eq_nil_of_le (by simp [madeCells])
    rw [e, List.append_nil] at hown2
    rw [HE.out, List.append_nil]
    exact hown2
  · have hsz := size_is n k hs
    have HE : Hid (enc n = bts k n) := Lib.hid (by simp [enc, hs])
    have HK := Lib.hid hk
    have hk1 : 1 ≤ k := by omega
    have hk8 : k ≤ 8 := by omega
    clear hs hk
    go_enter Tryd.func53, Tryd.ntmps53
    go_wp2_with (first | (go_at_call 29; refine (hsz _).mono ?_; rintro e w' ⟨rfl, rfl⟩) | (at_make; refine wpList_make_full _ rfl _ _ 22 rfl w.heap.size 5 i (.int .u8 0) 1 Tryd.underlying22 hi hz0 hz1 .i64 .i64 _ _ (zs.length + k) rfl rfl (by omega) (by omega) (by rw [hz2]; omega) (by unfold maxLen; omega) (Nat.le_refl _) ?_; intro w1 hown1 hg1) | ((with_reducible show wpList _ _ _ _ _ _); refine wpList_copy_bytes (o := ⟨some 16, _, _, _, _, _⟩) (.tmp 14) (.tmp 15) 22 rfl rfl info5 Tryd.underlying22 w.heap.size w.heap.size (zs.length + k) _ rfl hown1 _ zs rfl (h1.below (below_made hg1)) (Nat.le_add_right _ _) ?_; intro w2 hown2 hb2))
    obtain ⟨hbk, hbl, _, _⟩ := own_block hown2
    refine (put_any HK.out hbl hbk hw (ht.below ((below_made hg1).trans hb2)) hn0 hnk (by omega)).mono ?_
    rintro e w3 ⟨rfl, hh3, hb3⟩
    go_wp2
    go_ret
    refine ⟨_, rfl, ?_, ((below_made hg1).trans hb2).trans hb3⟩
    rw [HE.out, bts_len]
    refine own_of_block ?_ (by simp [by8_len, bts_len]) (Nat.le_refl _) (by unfold maxLen; omega)
    rw [hh3, List.take_append_of_le_length (by simp [by8_len]), List.take_of_length_le (by simp [by8_len]), by8_app]
#print axioms append_any
end Go.Proofs.YtefcjggmlhoebaaDoor
