/- Plain facts: a number's bytes, read, are the number, whatever stands behind them. -/
import Derived.Test.YtgcgmgcgbnepeaaDoorEnc
namespace Go.Proofs.YtgcgmgcgbnepeaaDoor
open Go Go.RowKit

theorem val_bts (k : Nat) (n : Int) (hk : k = 1 ∨ k = 2 ∨ k = 4 ∨ k = 8) (hn : 0 ≤ n) (h : n < 64 * 256 ^ (k - 1)) : val (bts k n) = n := by
  rcases hk with rfl | rfl | rfl | rfl
  · simp [bts, tl, val, vf, lg] at h ⊢; omega
  · simp [bts, tl, val, vf, lg] at h ⊢; omega
  · simp [bts, tl, val, vf, lg] at h ⊢; omega
  · simp [bts, tl, val, vf, lg] at h ⊢; omega

/-- What is appended is read as it was, whatever stands behind it. -/
theorem rd_enc (n : Int) (hn : 0 ≤ n) (hn' : n < 4611686018427387904) (behind : List Int) : rd (enc n ++ behind) = (n, ((enc n).length : Int), 0) := by
  rcases sz_cases n with ⟨_, h⟩ | ⟨hn0, _, m, hs, hm, hnk⟩
  · omega
  · have e : enc n = bts m n := by simp [enc, hs]
    rw [e, bts_len]
    obtain ⟨z, r, hz, hf, hr⟩ := fs_bts m n hm hn0 hnk
    have hv := val_bts m n hm hn0 hnk
    rw [hz] at hv ⊢
    simp only [List.cons_append, rd, hf]
    have ht : (z :: (r ++ behind)).take m = z :: r := by
      rw [← hr, List.take_succ_cons, List.take_append_of_le_length (Nat.le_refl _), List.take_of_length_le (Nat.le_refl _)]
    rw [ht, hv, hs, if_neg (by simp; omega), if_pos rfl]
theorem enc_none (n : Int) (h : n < 0 ∨ 4611686018427387904 ≤ n) : enc n = [] := by
  rcases sz_cases n with ⟨hs, _⟩ | ⟨hn0, _, _⟩
  · simp [enc, hs, bts, tl]
  · omega
#print axioms rd_enc
end Go.Proofs.YtgcgmgcgbnepeaaDoor
