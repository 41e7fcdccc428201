/- The document's answer Read is rd of the bytes; it writes nothing. -/
import Derived.Test.YtgnjmmaahpngpaaDoorRead
namespace Go.Proofs.YtgnjmmaahpngpaaDoor
open Go Go.RowKit

theorem val_one (zs : List Int) (z : Int) (r : List Int) (h : zs = z :: r) : val (zs.take 1) = z % 64 := by subst h; simp [val, vf]
theorem val_snoc (zs : List Int) (k : Nat) (h1 : 1 ≤ k) (h : k < zs.length) : val (zs.take (k + 1)) = 256 * val (zs.take k) + zs.getD k 0 := by
  cases zs with
  | nil => simp at h
  | cons z r =>
    obtain ⟨j, rfl⟩ : ∃ j, k = j + 1 := ⟨k - 1, by omega⟩
    simp only [List.length_cons] at h
    have := take_snoc r j (by omega)
    simp only [List.take_succ_cons, val] at this ⊢
    rw [this, vf_snoc]
    simp only [List.getD_cons_succ]
    omega
theorem val_bd (zs : List Int) (hz : Byt zs) (k : Nat) (hk : k ≤ 7) : 0 ≤ val (zs.take k) ∧ val (zs.take k) < 18014398509481984 := by
  cases zs with
  | nil => simp [val]
  | cons z r =>
    cases k with
    | zero => simp [val]
    | succ j =>
      have hb := vf_bd (z % 64) (by omega) (by omega) (r.take j) (fun x hx => hz x (by simp [List.mem_of_mem_take hx]))
      simp only [List.take_succ_cons, val]
      refine ⟨hb.1, ?_⟩
      have hl : (r.take j).length ≤ 6 := by simp; omega
      have h2 := pow_le6 _ hl
      omega

/-- Two to the k. -/
def p2 (k : Nat) : Nat := 2 ^ k

end Go.Proofs.YtgnjmmaahpngpaaDoor
