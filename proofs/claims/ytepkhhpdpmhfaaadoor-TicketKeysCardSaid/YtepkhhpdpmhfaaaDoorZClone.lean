/- The function clone hands back a new slice of the same bytes, and writes nothing that was there. -/
import Derived.Test.YtepkhhpdpmhfaaaDoorZEnc
import Derived.Test.YtepkhhpdpmhfaaaDoorChecked
import Derived.Outline
namespace Go.Proofs.YtepkhhpdpmhfaaaDoor
open Go Go.RowKit

theorem val_bts (k : Nat) (n : Int) (hk : k = 1 ∨ k = 2 ∨ k = 4 ∨ k = 8) (hn : 0 ≤ n) (h : n < 64 * 256 ^ (k - 1)) : val (bts k n) = n := by
  rcases hk with rfl | rfl | rfl | rfl
  · simp [bts, tl, val, vf, lg] at h ⊢; omega
  · simp [bts, tl, val, vf, lg] at h ⊢; omega
  · simp [bts, tl, val, vf, lg] at h ⊢; omega
  · simp [bts, tl, val, vf, lg] at h ⊢; omega

/-- What is appended is read as it was, whatever stands behind it. -/
theorem rd_enc (n : Int) (hn : 0 ≤ n) (hn' : n < 4611686018427387904) (behind : List Int) : rd (enc n ++ behind) = (n, ((enc n).length : Int), 0) := by
  rcases sz_cases n with ⟨_, h⟩ | ⟨hn0, _, m, hs, hm, hnk⟩
  · omega
  · have e : enc n = bts m n := by simp [enc, hs]
    rw [e, bts_len]
    obtain ⟨z, r, hz, hf, hr⟩ := fs_bts m n hm hn0 hnk
    have hv := val_bts m n hm hn0 hnk
    rw [hz] at hv ⊢
    simp only [List.cons_append, rd, hf]
    have ht : (z :: (r ++ behind)).take m = z :: r := by
      rw [← hr, List.take_succ_cons, List.take_append_of_le_length (Nat.le_refl _), List.take_of_length_le (Nat.le_refl _)]
    rw [ht, hv, hs, if_neg (by simp; omega), if_pos rfl]
theorem enc_none (n : Int) (h : n < 0 ∨ 4611686018427387904 ≤ n) : enc n = [] := by
  rcases sz_cases n with ⟨hs, _⟩ | ⟨hn0, _, _⟩
  · simp [enc, hs, bts, tl]
  · omega
#print axioms rd_enc
end Go.Proofs.YtepkhhpdpmhfaaaDoor
namespace Go.Proofs.YtepkhhpdpmhfaaaDoor
open Go Go.RowKit


set_option maxHeartbeats 400000 in
theorem clone_any {w : World} {v : Value} {zs : List Int} (h1 : Rd w v zs) (hb : zs.length ≤ 140737488355328) :
    Calls Tryd.prog 50 #[v] w fun e w' => ∃ v', e = .returned v' ∧ w'.ownsRow w.heap.size 5 1 v' zs.length (by8 zs) ∧ Below w.heap.size w w' := by
  obtain ⟨i, hi, hz0, hz1, hz2⟩ := info_parts info5
  have h1' := h1
  obtain ⟨ao, cap, rfl, _⟩ := h1'
  have HB : zs.length ≤ maxLen := by unfold maxLen; omega
  go_enter Tryd.func50, Tryd.ntmps50
  go_wp2_with (first | (at_make; refine wpList_make_full _ rfl _ _ 22 rfl w.heap.size 5 i (.int .u8 0) 1 Tryd.underlying22 hi hz0 hz1 .i64 .i64 _ _ zs.length rfl rfl rfl rfl (by rw [hz2]; omega) HB (Nat.le_refl _) ?_; intro w1 hown1 hg1) | ((with_reducible show wpList _ _ _ _ _ _); refine wpList_copy_bytes (o := ⟨some 9, _, _, _, _, _⟩) (.tmp 7) (.tmp 8) 22 rfl rfl info5 Tryd.underlying22 w.heap.size w.heap.size zs.length _ rfl hown1 _ zs rfl (h1.below (below_made hg1)) (Nat.le_refl _) ?_; intro w2 hown2 hb2))
  go_ret
  refine ⟨_, rfl, ?_, (below_made hg1).trans hb2⟩
  have e : List.drop zs.length (madeCells (Value.int .u8 0).cells (zs.length * 1)).toList = [] := List.drop_eq_nil_of_le (by simp [madeCells])
  rw [e, List.append_nil] at hown2
  exact hown2
#print axioms clone_any
end Go.Proofs.YtepkhhpdpmhfaaaDoor
