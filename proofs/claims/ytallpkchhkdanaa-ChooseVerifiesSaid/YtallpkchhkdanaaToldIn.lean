/- A struct of three slices of numbers and a number that came in. -/
import Derived.Test.YtallpkchhkdanaaSlIn
import Derived.Lib.SmallJoins
namespace Go.Proofs.Ytallpkchhkdanaa
open Go.ChangeShapes Go.WideShapes Go.ChangeAt Go.RowKit

theorem sch3 : Try.prog.cellsOf 3 = 1 := by kernel_rfl
theorem schi : Try.prog.cellsOf 44 = 1 := by kernel_rfl
theorem schT : Try.prog.cellsOf 55 = 4 := by kernel_rfl
theorem four_of {α : Type} {l : List α} (h : l.length = 4) : ∃ a b c d, l = [a, b, c, d] := by
  match l, h with
  | [a, b, c, d], _ => exact ⟨a, b, c, d, rfl⟩
theorem rdi_in {W : World} {H : Type} {enc : TypeId × Value → H} {base : Nat} {sp : Nat → Bool} {held : Bool} {v : Value} {fuel : Nat} {x : DataW H × List MemPlace} (h : DataW.trod enc Try.prog W base sp held fuel 44 [v] = some x) :
    ∃ a cap zs, v = .slice a zs.length cap ∧ Rd .i64 W (.slice a zs.length cap) zs := by
  rcases open_ints Try.underlying44 Try.underlying3 (by kernel_rfl) h with ⟨hcs, _⟩ | ⟨a, l, c, zs, hcs, _, hl, hm, hz, _, hcell, hwz⟩
  · simp at hcs
    exact ⟨none, 0, [], hcs, Rd.nil _ W⟩
  · simp at hcs
    have hz' : l ≤ zs.length := by
      simp only [hz]
      split <;> omega
    have hlen : (zs.take l).length = l := by simp; omega
    refine ⟨some a, c, zs.take l, by rw [hlen]; exact hcs, ⟨some a, c, rfl, by rw [hlen]; exact hl, hm, (fun h => by cases h), ?_⟩⟩
    intro a' ha j hj
    cases ha
    rw [hlen] at hj
    rw [hcell j (by omega)]
    simp [List.getD, hj]
theorem int_in {W : World} {H : Type} {enc : TypeId × Value → H} {base : Nat} {sp : Nat → Bool} {held : Bool} {v : Value} {fuel : Nat} {x : DataW H × List MemPlace} (h : DataW.trod enc Try.prog W base sp held fuel 3 [v] = some x) : ∃ n, v = .int .i64 n := by
  obtain ⟨n, hn, _⟩ := DataW.trod_int Try.underlying3 h
  simp at hn
  exact ⟨n, hn⟩
set_option maxRecDepth 20000 in
theorem told_in {W : World} {H : Type} {enc : TypeId × Value → H} {r : Reach} {b0 base : Nat} {sp : Nat → Bool} {held : Bool} {v : Value} {d : DataW H} {p : List MemPlace} (hv : Value.okWide Try.prog W r b0 55 v) (h : DataW.Trod enc Try.prog W base sp held 55 v d p) :
    ∃ (v0 v1 v2 : Value) (s o t : List Int) (n : Int), v = .agg #[v0, v1, v2, .int .i64 n] ∧ Rd .i64 W v0 s ∧ Rd .i64 W v1 o ∧ Rd .i64 W v2 t := by
  obtain ⟨⟨l⟩, rfl, hsz⟩ := okWide_struct Try.underlying55 hv
  obtain ⟨v0, v1, v2, v3, rfl⟩ := four_of (l := l) (hsz.trans schT)
  obtain ⟨fuel, hf0⟩ := h
  obtain ⟨xs, k, hk, hxy, _, hxl, hf⟩ := DataW.trod_struct Try.underlying55 hf0
  obtain ⟨y0, y1, y2, y3, rfl⟩ := four_of (l := xs) hxl
  have g0 : DataW.trod enc Try.prog W base sp held k 44 [v0] = some y0 := by have := hf 0 _ rfl; simpa [Value.cells, schi] using this
  have g1 : DataW.trod enc Try.prog W base sp held k 44 [v1] = some y1 := by have := hf 1 _ rfl; simpa [Value.cells, schi] using this
  have g2 : DataW.trod enc Try.prog W base sp held k 44 [v2] = some y2 := by have := hf 2 _ rfl; simpa [Value.cells, schi] using this
  have g3 : DataW.trod enc Try.prog W base sp held k 3 [v3] = some y3 := by have := hf 3 _ rfl; simpa [Value.cells, schi, sch3] using this
  obtain ⟨a0, c0, z0, rfl, r0⟩ := rdi_in g0
  obtain ⟨a1, c1, z1, rfl, r1⟩ := rdi_in g1
  obtain ⟨a2, c2, z2, rfl, r2⟩ := rdi_in g2
  obtain ⟨n, rfl⟩ := int_in g3
  exact ⟨_, _, _, z0, z1, z2, n, rfl, r0, r1, r2⟩
end Go.Proofs.Ytallpkchhkdanaa
