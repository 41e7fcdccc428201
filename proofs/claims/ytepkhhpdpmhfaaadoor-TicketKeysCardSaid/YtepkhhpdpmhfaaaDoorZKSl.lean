/- Parts of a slice of bytes: each operation as an equation in every world, and what the part reads. -/
import Derived.Test.YtepkhhpdpmhfaaaDoorZKCut
namespace Go.Proofs.YtepkhhpdpmhfaaaDoor
open Go Go.RowKit

theorem elem_bytes : Tryd.prog.underlying 22 = some (.slice (Tryd.prog.elem 22)) := by kernel_rfl
theorem size_elem (w : World) : (sizeOf (Tryd.prog.elem 22)).run Tryd.prog w = .ok 1 w := by
  have e : Tryd.prog.elem 22 = 5 := by kernel_rfl
  rw [e]
  have hi : ∃ i, Tryd.prog.info? 5 = some i ∧ i.size = 1 := by
    obtain ⟨i, hi, _, hz, _⟩ := info_parts info5
    exact ⟨i, hi, hz⟩
  obtain ⟨i, hi, hs⟩ := hi
  simp [sizeOf, typeInfo, hi, hs, go_sem]
theorem rd_piece {w : World} {ao : Option Addr} {cap : Nat} {zs : List Int} (hr : Rd w (.slice ao zs.length cap) zs) (hp : Plain (.slice ao zs.length cap)) (l h : Nat) (h1 : l ≤ h) (h2 : h ≤ zs.length) :
    ∃ a', sliced ao l h cap 1 = .slice a' (h - l) (cap - l) ∧ Rd w (.slice a' (h - l) (cap - l)) ((zs.take h).drop l) ∧ Plain (.slice a' (h - l) (cap - l)) := by
  have hlen : ((zs.take h).drop l).length = h - l := by simp; omega
  obtain ⟨ao', cap', e, c1, c2, c3, c4, c5⟩ := hr
  simp only [Value.slice.injEq] at e
  obtain ⟨rfl, _, rfl⟩ := e
  rcases hp with e | ⟨b, off, n, cp, e⟩
  · simp only [Value.slice.injEq] at e
    obtain ⟨rfl, e2, rfl⟩ := e
    have hl0 : l = 0 := by omega
    have hh0 : h = 0 := by omega
    subst hl0
    subst hh0
    refine ⟨none, rfl, ?_, .inl rfl⟩
    have hz : zs = [] := List.eq_nil_of_length_eq_zero e2
    subst hz
    exact Rd.nil w
  · simp only [Value.slice.injEq] at e
    obtain ⟨rfl, rfl, rfl⟩ := e
    refine ⟨if cap = l then some ⟨b, off, none⟩ else some ⟨b, off + l, none⟩, ?_, ?_, ?_⟩
    · unfold sliced
      congr 1
      by_cases hc : cap = l
      · rw [if_pos hc, if_pos hc]
      · rw [if_neg hc, if_neg hc]
        simp [Addr.add_lit]
    · rw [← hlen]
      refine ⟨_, cap - l, rfl, by omega, by omega, fun e => ?_, (c4.take h).drop l, fun a ha j hj => ?_⟩
      · split at e <;> cases e
      · rw [hlen] at hj
        rw [if_neg (by omega)] at ha
        cases ha
        have hc := c5 _ rfl (l + j) (by omega)
        rw [Addr.add_lit] at hc ⊢
        rw [show off + l + j = off + (l + j) from by omega, hc]
        simp [List.getD, show l + j < h by omega]
    · by_cases hc : cap = l
      · rw [if_pos hc]; exact .inr ⟨_, _, _, _, rfl⟩
      · rw [if_neg hc]; exact .inr ⟨_, _, _, _, rfl⟩
theorem part_h {w : World} {ao : Option Addr} {cap : Nat} {zs : List Int} (hr : Rd w (.slice ao zs.length cap) zs) (hp : Plain (.slice ao zs.length cap)) (h : Nat) (h2 : h ≤ zs.length) :
    ∃ a', (∀ wx, (Instr.slice 22 (.slice ao zs.length cap) none (some (.int .i64 h)) none).run Tryd.prog wx = .ok (.slice a' h cap) wx) ∧ Rd w (.slice a' h cap) (zs.take h) ∧ Plain (.slice a' h cap) := by
  obtain ⟨a', e, h3, h4⟩ := rd_piece hr hp 0 h (Nat.zero_le _) h2
  have hc : zs.length ≤ cap := by obtain ⟨_, _, e, c1, _⟩ := hr; simp only [Value.slice.injEq] at e; omega
  refine ⟨a', fun wx => ?_, by simpa using h3, by simpa using h4⟩
  rw [run_slice_h _ _ _ _ _ elem_bytes .i64 h (by omega) (by omega), size_elem]
  simp only [Result.andThen, Int.toNat_natCast, e, Nat.sub_zero]
theorem part_lh {w : World} {ao : Option Addr} {cap : Nat} {zs : List Int} (hr : Rd w (.slice ao zs.length cap) zs) (hp : Plain (.slice ao zs.length cap)) (l h : Nat) (h1 : l ≤ h) (h2 : h ≤ zs.length) :
    ∃ a', (∀ wx, (Instr.slice 22 (.slice ao zs.length cap) (some (.int .i64 l)) (some (.int .i64 h)) none).run Tryd.prog wx = .ok (.slice a' (h - l) (cap - l)) wx) ∧ Rd w (.slice a' (h - l) (cap - l)) ((zs.take h).drop l) ∧ Plain (.slice a' (h - l) (cap - l)) := by
  obtain ⟨a', e, h3, h4⟩ := rd_piece hr hp l h h1 h2
  have hc : zs.length ≤ cap := by obtain ⟨_, _, e, c1, _⟩ := hr; simp only [Value.slice.injEq] at e; omega
  refine ⟨a', fun wx => ?_, h3, h4⟩
  rw [run_slice_lh _ _ _ _ _ elem_bytes .i64 .i64 l h (by omega) (by omega) (by omega), size_elem]
  simp only [Result.andThen, Int.toNat_natCast, e]
theorem part_l {w : World} {ao : Option Addr} {cap : Nat} {zs : List Int} (hr : Rd w (.slice ao zs.length cap) zs) (hp : Plain (.slice ao zs.length cap)) (l : Nat) (h2 : l ≤ zs.length) :
    ∃ a', (∀ wx, (Instr.slice 22 (.slice ao zs.length cap) (some (.int .i64 l)) none none).run Tryd.prog wx = .ok (.slice a' (zs.length - l) (cap - l)) wx) ∧ Rd w (.slice a' (zs.length - l) (cap - l)) (zs.drop l) ∧ Plain (.slice a' (zs.length - l) (cap - l)) := by
  obtain ⟨a', e, h3, h4⟩ := rd_piece hr hp l zs.length h2 (Nat.le_refl _)
  refine ⟨a', fun wx => ?_, by simpa using h3, h4⟩
  rw [run_slice_l _ _ _ _ _ elem_bytes .i64 l (by omega) (by omega), size_elem]
  simp only [Result.andThen, Int.toNat_natCast, e]
#print axioms part_h
#print axioms part_lh
#print axioms part_l
end Go.Proofs.YtepkhhpdpmhfaaaDoor
