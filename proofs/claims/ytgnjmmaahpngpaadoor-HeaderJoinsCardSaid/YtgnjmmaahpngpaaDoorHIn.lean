/- A header that came in: its fields, its rows told by what they read. -/
import Derived.Test.YtgnjmmaahpngpaaDoorHv
import Derived.Test.YtgnjmmaahpngpaaDoorFrame
import Derived.Lib.SmallJoins
namespace Go.Proofs.YtgnjmmaahpngpaaDoor
open Go.ChangeShapes Go.WideShapes Go.ChangeAt Go.RowKit

theorem eight_of {α : Type} {l : List α} (h : l.length = 8) : ∃ a b c d e f g i, l = [a, b, c, d, e, f, g, i] := by
  match l, h with
  | [a, b, c, d, e, f, g, i], _ => exact ⟨a, b, c, d, e, f, g, i, rfl⟩
theorem eight_arr {c : Array Value} (h : c.size = 8) : ∃ z0 z1 z2 z3 z4 z5 z6 z7, c = #[z0, z1, z2, z3, z4, z5, z6, z7] := by
  obtain ⟨l⟩ := c
  obtain ⟨z0, z1, z2, z3, z4, z5, z6, z7, e⟩ := eight_of (l := l) h
  exact ⟨z0, z1, z2, z3, z4, z5, z6, z7, by rw [e]⟩
theorem sch3 : Tryd.prog.cellsOf 3 = 1 := by kernel_rfl
theorem schb : Tryd.prog.cellsOf 22 = 1 := by kernel_rfl
theorem sch24 : Tryd.prog.cellsOf 24 = 8 := by kernel_rfl
/-- A slice of bytes among what came in. -/
theorem rdb_in {W : World} {H : Type} {enc : TypeId × Value → H} {base : Nat} {sp : Nat → Bool} {held : Bool} {v : Value} {fuel : Nat} {x : DataW H × List MemPlace} (h : DataW.trod enc Tryd.prog W base sp held fuel 22 [v] = some x) :
    ∃ a cap zs, v = .slice a zs.length cap ∧ Rd W (.slice a zs.length cap) zs := by
  rcases open_ints Tryd.underlying22 Tryd.underlying5 (by kernel_rfl) h with ⟨hcs, _⟩ | ⟨y, l, c, zs, hcs, _, hl, hm, hz, _, hcell, hwz⟩
  · simp at hcs
    exact ⟨none, 0, [], hcs, Rd.nil W⟩
  · simp at hcs
    have hz' : l ≤ zs.length := by
      simp only [hz]
      split <;> omega
    have hlen : (zs.take l).length = l := by simp; omega
    refine ⟨some y, c, zs.take l, by rw [hlen]; exact hcs, ⟨some y, c, rfl, by rw [hlen]; exact hl, hm, (fun h => by cases h), ?_, ?_⟩⟩
    · intro z hz2
      have := hwz z (List.mem_of_mem_take hz2)
      simp [Lit.wf, IntKind.min, IntKind.max, IntKind.bits, IntKind.signed] at this
      omega
    · intro a ha j hj
      cases ha
      rw [hlen] at hj
      rw [hcell j (by omega)]
      simp [List.getD, hj]
set_option maxRecDepth 20000 in
/-- A header. -/
theorem header_in {W : World} {H : Type} {enc : TypeId × Value → H} {r : Reach} {b0 base : Nat} {sp : Nat → Bool} {held : Bool} {v : Value} {d : DataW H} {p : List MemPlace} (hv : Value.okWide Tryd.prog W r b0 24 v) (h : DataW.Trod enc Tryd.prog W base sp held 24 v d p) :
    ∃ (h : Hv) (a2 : Option Addr) (c2 : Nat) (a3 : Option Addr) (c3 : Nat) (a4 : Option Addr) (c4 : Nat), v = .agg #[.int .i64 h.k, .int .i64 h.v, .slice a2 h.to.length c2, .slice a3 h.fr.length c3, .slice a4 h.tk.length c4, .int .i64 h.p, .int .i64 h.n, .int .i64 h.w] ∧ Hr W h (.slice a2 h.to.length c2) (.slice a3 h.fr.length c3) (.slice a4 h.tk.length c4) := by
  obtain ⟨cs, rfl, hsz⟩ := okWide_struct Tryd.underlying24 hv
  obtain ⟨v0, v1, v2, v3, v4, v5, v6, v7, rfl⟩ := eight_arr (hsz.trans sch24)
  obtain ⟨fuel, hf0⟩ := h
  obtain ⟨xs, k, hk, hxy, _, hxl, hf⟩ := DataW.trod_struct Tryd.underlying24 hf0
  obtain ⟨y0, y1, y2, y3, y4, y5, y6, y7, rfl⟩ := eight_of (l := xs) hxl
  have g0 : DataW.trod enc Tryd.prog W base sp held k 3 [v0] = some y0 := by have := hf 0 _ rfl; simpa [Value.cells, sch3] using this
  have g1 : DataW.trod enc Tryd.prog W base sp held k 3 [v1] = some y1 := by have := hf 1 _ rfl; simpa [Value.cells, sch3] using this
  have g2 : DataW.trod enc Tryd.prog W base sp held k 22 [v2] = some y2 := by have := hf 2 _ rfl; simpa [Value.cells, schb] using this
  have g3 : DataW.trod enc Tryd.prog W base sp held k 22 [v3] = some y3 := by have := hf 3 _ rfl; simpa [Value.cells, schb] using this
  have g4 : DataW.trod enc Tryd.prog W base sp held k 22 [v4] = some y4 := by have := hf 4 _ rfl; simpa [Value.cells, schb] using this
  have g5 : DataW.trod enc Tryd.prog W base sp held k 3 [v5] = some y5 := by have := hf 5 _ rfl; simpa [Value.cells, sch3] using this
  have g6 : DataW.trod enc Tryd.prog W base sp held k 3 [v6] = some y6 := by have := hf 6 _ rfl; simpa [Value.cells, sch3] using this
  have g7 : DataW.trod enc Tryd.prog W base sp held k 3 [v7] = some y7 := by have := hf 7 _ rfl; simpa [Value.cells, sch3] using this
  obtain ⟨a2, c2, z2, rfl, r2⟩ := rdb_in g2
  obtain ⟨a3, c3, z3, rfl, r3⟩ := rdb_in g3
  obtain ⟨a4, c4, z4, rfl, r4⟩ := rdb_in g4
  obtain ⟨n0, q0, _, _⟩ := DataW.trod_int Tryd.underlying3 g0
  obtain ⟨n1, q1, _, _⟩ := DataW.trod_int Tryd.underlying3 g1
  obtain ⟨n5, q5, _, _⟩ := DataW.trod_int Tryd.underlying3 g5
  obtain ⟨n6, q6, _, _⟩ := DataW.trod_int Tryd.underlying3 g6
  obtain ⟨n7, q7, _, _⟩ := DataW.trod_int Tryd.underlying3 g7
  simp only [List.cons.injEq, and_true] at q0 q1 q5 q6 q7
  subst q0; subst q1; subst q5; subst q6; subst q7
  exact ⟨⟨n0, n1, z2, z3, z4, n5, n6, n7⟩, a2, c2, a3, c3, a4, c4, rfl, ⟨r2, r3, r4⟩⟩
#print axioms header_in
end Go.Proofs.YtgnjmmaahpngpaaDoor
