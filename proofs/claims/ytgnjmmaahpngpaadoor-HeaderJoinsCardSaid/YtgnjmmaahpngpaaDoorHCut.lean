/- HeaderCut: a header that is cut short is too short. -/
import Derived.Test.YtgnjmmaahpngpaaDoorHReads
import Derived.Test.YtgnjmmaahpngpaaDoorHWrites
namespace Go.Proofs.YtgnjmmaahpngpaaDoor
open Go Go.RowKit

theorem wrB_pos (h : Hv) (n : Int) : 0 < (wrB h n).length := by
  unfold wrB
  split <;> simp <;> omega
theorem right_w {h : Hv} (hX : rightB h = true) : h.w ≤ 4 := by
  unfold rightB at hX
  split at hX
  · simp [longB, numB] at hX; omega
  · split at hX
    · simp [longB, numB] at hX; omega
    · split at hX
      · simp [shortB, numB] at hX; omega
      · cases hX
theorem wrB_le {h : Hv} {n : Int} (hX : rightB h = true) (l2 : h.to.length ≤ 1000) (l3 : h.fr.length ≤ 1000) (l4 : h.tk.length ≤ 1000) : (wrB h n).length ≤ 5000 := by
  have hw := right_w hX
  have e1 := enc_len (h.tk.length : Int)
  have e2 := enc_len (h.w + n)
  unfold wrB
  split
  · simp [big_len]; omega
  · split
    · simp only [List.length_append, big_len, List.length_singleton]; omega
    · simp only [List.length_append, big_len, List.length_singleton, List.length_nil]; omega
theorem read_wrB (h : Hv) (n : Int) (body : List Int) (hX : rightB h = true) (hn : 0 ≤ n ∧ n ≤ 16384) (hb : n ≤ body.length) : ∃ s, readP (wrB h n ++ body) = .ok s ∧ s.h = h ∧ s.t = (wrB h n).length ∧ s.e = if h.k = 3 then ((wrB h n ++ body).length : Int) else ((wrB h n).length : Int) + n := by
  by_cases hk : h.k = 3
  · exact ⟨_, read_short h n body hX hk, rfl, rfl, by rw [if_pos hk]⟩
  · exact ⟨_, read_long h n body hX hk hn hb, rfl, rfl, by rw [if_neg hk]⟩
theorem cut_short {h : Hv} (hX : rightB h = true) {k : Nat} (hk : k < (wrB h 0).length) : readP ((wrB h 0).take k) = .error 2 := by
  obtain ⟨s, hs, _, ht, _⟩ := read_wrB h 0 [] hX (by decide) (by simp)
  rw [List.append_nil] at hs
  exact read_cut hs (by omega) (by omega)
theorem Rd.pos {w : World} {base : Nat} {v : Value} {zs : List Int} (h : w.ownsRow base 5 1 v zs.length (by8 zs)) (hp : 0 < zs.length) : ∃ g cap, v = .slice (some ⟨g, 0, none⟩) zs.length cap ∧ zs.length ≤ cap ∧ cap ≤ maxLen := by
  rcases h.2 with ⟨_, h0⟩ | ⟨g, cap, cur, rfl, _, _, h1, h2, _⟩
  · omega
  · exact ⟨g, cap, rfl, h1, h2⟩

end Go.Proofs.YtgnjmmaahpngpaaDoor
