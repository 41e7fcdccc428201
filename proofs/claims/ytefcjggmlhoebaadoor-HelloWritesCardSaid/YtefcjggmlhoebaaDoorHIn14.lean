/- A message that came in: its fields, its row told by what it reads. -/
import Derived.Test.YtefcjggmlhoebaaDoorHRd2
import Derived.Test.YtefcjggmlhoebaaDoorHRt5
import Derived.Test.YtefcjggmlhoebaaDoorFrame
import Derived.Lib.SmallJoins
namespace Go.Proofs.YtefcjggmlhoebaaDoor
open Go.ChangeShapes Go.WideShapes Go.ChangeAt Go.RowKit

theorem ten_of14 {α : Type} {l : List α} (h : l.length = 10) : ∃ a b c d e f g i j k, l = [a, b, c, d, e, f, g, i, j, k] := by
  match l, h with
  | [a, b, c, d, e, f, g, i, j, k], _ => exact ⟨a, b, c, d, e, f, g, i, j, k, rfl⟩
theorem mch3 : Tryd.prog.cellsOf 3 = 1 := by kernel_rfl
theorem mch4 : Tryd.prog.cellsOf 4 = 1 := by kernel_rfl
theorem mch9 : Tryd.prog.cellsOf 9 = 1 := by kernel_rfl
theorem mchb : Tryd.prog.cellsOf 22 = 1 := by kernel_rfl
theorem mchM : Tryd.prog.cellsOf 24 = 10 := by kernel_rfl
/-- A slice of bytes among what came in. -/
theorem rdb_in14 {W : World} {H : Type} {enc : TypeId × Value → H} {base : Nat} {sp : Nat → Bool} {held : Bool} {v : Value} {fuel : Nat} {x : DataW H × List MemPlace} (h : DataW.trod enc Tryd.prog W base sp held fuel 22 [v] = some x) :
    ∃ a cap zs, v = .slice a zs.length cap ∧ Rd W (.slice a zs.length cap) zs := by
  rcases open_ints Tryd.underlying22 Tryd.underlying5 (by kernel_rfl) h with ⟨hcs, _⟩ | ⟨y, l, c, zs, hcs, _, hl, hm, hz, _, hcell, hwz⟩
  · simp at hcs
    exact ⟨none, 0, [], hcs, Rd.nil W⟩
  · simp at hcs
    have hz' : l ≤ zs.length := by
      simp only [hz]
      split <;> omega
    have hlen : (zs.take l).length = l := by simp; omega
    refine ⟨some y, c, zs.take l, by rw [hlen]; exact hcs, ⟨some y, c, rfl, by rw [hlen]; exact hl, hm, (fun h => by cases h), ?_, ?_⟩⟩
    · intro z hz2
      have := hwz z (List.mem_of_mem_take hz2)
      simp [Lit.wf, IntKind.min, IntKind.max, IntKind.bits, IntKind.signed] at this
      omega
    · intro a ha j hj
      cases ha
      rw [hlen] at hj
      rw [hcell j (by omega)]
      simp [List.getD, hj]
theorem int_in14 {W : World} {H : Type} {enc : TypeId × Value → H} {base : Nat} {sp : Nat → Bool} {held : Bool} {v : Value} {fuel : Nat} {x : DataW H × List MemPlace} (h : DataW.trod enc Tryd.prog W base sp held fuel 3 [v] = some x) : ∃ n, v = .int .i64 n := by
  obtain ⟨n, hn, _⟩ := DataW.trod_int Tryd.underlying3 h
  simp at hn
  exact ⟨n, hn⟩
theorem bool_in14 {W : World} {H : Type} {enc : TypeId × Value → H} {base : Nat} {sp : Nat → Bool} {held : Bool} {v : Value} {fuel : Nat} {x : DataW H × List MemPlace} (h : DataW.trod enc Tryd.prog W base sp held fuel 4 [v] = some x) : ∃ b, v = .bool b := by
  obtain ⟨b, hb, _⟩ := DataW.trod_bool Tryd.underlying4 h
  simp at hb
  exact ⟨b, hb⟩
theorem str_in14 {W : World} {H : Type} {enc : TypeId × Value → H} {base : Nat} {sp : Nat → Bool} {held : Bool} {v : Value} {fuel : Nat} {x : DataW H × List MemPlace} (h : DataW.trod enc Tryd.prog W base sp held fuel 9 [v] = some x) : ∃ n, v = .string n := by
  obtain ⟨n, hn, _⟩ := DataW.trod_string Tryd.underlying9 h
  simp at hn
  exact ⟨n, hn⟩
set_option maxRecDepth 20000 in
theorem msg_in {W : World} {H : Type} {enc : TypeId × Value → H} {r : Reach} {b0 base : Nat} {sp : Nat → Bool} {held : Bool} {v : Value} {d : DataW H} {p : List MemPlace} (hv : Value.okWide Tryd.prog W r b0 24 v) (h : DataW.Trod enc Tryd.prog W base sp held 24 v d p) :
    ∃ (y : Hm) (vp : Value), v = .agg (mcl y.k y.r y.s y.t y.m y.f vp (bstr y.n) y.v y.l) ∧ Rd W vp y.p ∧ Byt y.n := by
  obtain ⟨⟨l⟩, rfl, hsz⟩ := okWide_struct Tryd.underlying24 hv
  obtain ⟨v0, v1, v2, v3, v4, v5, v6, v7, v8, v9, rfl⟩ := ten_of14 (l := l) (hsz.trans mchM)
  obtain ⟨fuel, hf0⟩ := h
  obtain ⟨xs, k, hk, hxy, _, hxl, hf⟩ := DataW.trod_struct Tryd.underlying24 hf0
  obtain ⟨y0, y1, y2, y3, y4, y5, y6, y7, y8, y9, rfl⟩ := ten_of14 (l := xs) hxl
  have g0 : DataW.trod enc Tryd.prog W base sp held k 3 [v0] = some y0 := by have := hf 0 _ rfl; simpa [Value.cells, mch3] using this
  have g1 : DataW.trod enc Tryd.prog W base sp held k 3 [v1] = some y1 := by have := hf 1 _ rfl; simpa [Value.cells, mch3] using this
  have g2 : DataW.trod enc Tryd.prog W base sp held k 3 [v2] = some y2 := by have := hf 2 _ rfl; simpa [Value.cells, mch3] using this
  have g3 : DataW.trod enc Tryd.prog W base sp held k 3 [v3] = some y3 := by have := hf 3 _ rfl; simpa [Value.cells, mch3] using this
  have g4 : DataW.trod enc Tryd.prog W base sp held k 3 [v4] = some y4 := by have := hf 4 _ rfl; simpa [Value.cells, mch3] using this
  have g5 : DataW.trod enc Tryd.prog W base sp held k 4 [v5] = some y5 := by have := hf 5 _ rfl; simpa [Value.cells, mch3, mch4] using this
  have g6 : DataW.trod enc Tryd.prog W base sp held k 22 [v6] = some y6 := by have := hf 6 _ rfl; simpa [Value.cells, mch3, mch4, mchb] using this
  have g7 : DataW.trod enc Tryd.prog W base sp held k 9 [v7] = some y7 := by have := hf 7 _ rfl; simpa [Value.cells, mch3, mch4, mchb, mch9] using this
  have g8 : DataW.trod enc Tryd.prog W base sp held k 3 [v8] = some y8 := by have := hf 8 _ rfl; simpa [Value.cells, mch3, mch4, mchb, mch9] using this
  have g9 : DataW.trod enc Tryd.prog W base sp held k 3 [v9] = some y9 := by have := hf 9 _ rfl; simpa [Value.cells, mch3, mch4, mchb, mch9] using this
  obtain ⟨n0, rfl⟩ := int_in14 g0
  obtain ⟨n1, rfl⟩ := int_in14 g1
  obtain ⟨n2, rfl⟩ := int_in14 g2
  obtain ⟨n3, rfl⟩ := int_in14 g3
  obtain ⟨n4, rfl⟩ := int_in14 g4
  obtain ⟨b5, rfl⟩ := bool_in14 g5
  obtain ⟨a6, c6, z6, rfl, r6⟩ := rdb_in14 g6
  obtain ⟨s7, rfl⟩ := str_in14 g7
  obtain ⟨n8, rfl⟩ := int_in14 g8
  obtain ⟨n9, rfl⟩ := int_in14 g9
  exact ⟨⟨n0, n1, n2, n3, n4, b5, z6, sbytes s7, n8, n9⟩, _, by simp only [bstr_sbytes]; rfl, r6, sbytes_byt s7⟩
#print axioms msg_in
end Go.Proofs.YtefcjggmlhoebaaDoor
