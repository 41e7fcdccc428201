/- Params that came in: their fields, their rows told by what they read. -/
import Derived.Test.YtmglhlfjddgllaaDoorPLight
import Derived.Test.YtmglhlfjddgllaaDoorFrame
import Derived.Lib.SmallJoins
namespace Go.Proofs.YtmglhlfjddgllaaDoor
open Go.ChangeShapes Go.WideShapes Go.ChangeAt Go.RowKit

theorem ten_of {α : Type} {l : List α} (h : l.length = 10) : ∃ a b c d e f g i j k, l = [a, b, c, d, e, f, g, i, j, k] := by
  match l, h with
  | [a, b, c, d, e, f, g, i, j, k], _ => exact ⟨a, b, c, d, e, f, g, i, j, k, rfl⟩
theorem sch3 : Tryd.prog.cellsOf 3 = 1 := by kernel_rfl
theorem sch4 : Tryd.prog.cellsOf 4 = 1 := by kernel_rfl
theorem schb : Tryd.prog.cellsOf 22 = 1 := by kernel_rfl
theorem schi : Tryd.prog.cellsOf 23 = 1 := by kernel_rfl
theorem schP : Tryd.prog.cellsOf 25 = 10 := by kernel_rfl
/-- A slice of bytes among what came in. -/
theorem rdb_in {W : World} {H : Type} {enc : TypeId × Value → H} {base : Nat} {sp : Nat → Bool} {held : Bool} {v : Value} {fuel : Nat} {x : DataW H × List MemPlace} (h : DataW.trod enc Tryd.prog W base sp held fuel 22 [v] = some x) :
    ∃ a cap zs, v = .slice a zs.length cap ∧ Rd W (.slice a zs.length cap) zs := by
  rcases open_ints Tryd.underlying22 Tryd.underlying5 (by kernel_rfl) h with ⟨hcs, _⟩ | ⟨y, l, c, zs, hcs, _, hl, hm, hz, _, hcell, hwz⟩
  · simp at hcs
    exact ⟨none, 0, [], hcs, Rd.nil W⟩
  · simp at hcs
    have hz' : l ≤ zs.length := by
      simp only [hz]
      split <;> omega
    have hlen : (zs.take l).length = l := by simp; omega
    refine ⟨some y, c, zs.take l, by rw [hlen]; exact hcs, ⟨some y, c, rfl, by rw [hlen]; exact hl, hm, (fun h => by cases h), ?_, ?_⟩⟩
    · intro z hz2
      have := hwz z (List.mem_of_mem_take hz2)
      simp [Lit.wf, IntKind.min, IntKind.max, IntKind.bits, IntKind.signed] at this
      omega
    · intro a ha j hj
      cases ha
      rw [hlen] at hj
      rw [hcell j (by omega)]
      simp [List.getD, hj]
/-- A slice of numbers that came in. -/
theorem rdi_in {W : World} {H : Type} {enc : TypeId × Value → H} {base : Nat} {sp : Nat → Bool} {held : Bool} {v : Value} {fuel : Nat} {x : DataW H × List MemPlace} (h : DataW.trod enc Tryd.prog W base sp held fuel 23 [v] = some x) :
    ∃ a cap zs, v = .slice a zs.length cap ∧ Ri W (.slice a zs.length cap) zs := by
  rcases open_ints Tryd.underlying23 Tryd.underlying3 (by kernel_rfl) h with ⟨hcs, _⟩ | ⟨a, l, c, zs, hcs, _, hl, hm, hz, _, hcell, hwz⟩
  · simp at hcs
    exact ⟨none, 0, [], hcs, Ri.nil W⟩
  · simp at hcs
    have hz' : l ≤ zs.length := by
      simp only [hz]
      split <;> omega
    have hlen : (zs.take l).length = l := by simp; omega
    refine ⟨some a, c, zs.take l, by rw [hlen]; exact hcs, ⟨some a, c, rfl, by rw [hlen]; exact hl, hm, (fun h => by cases h), ?_⟩⟩
    intro a' ha j hj
    cases ha
    rw [hlen] at hj
    rw [hcell j (by omega)]
    simp [List.getD, hj]
theorem int_in {W : World} {H : Type} {enc : TypeId × Value → H} {base : Nat} {sp : Nat → Bool} {held : Bool} {v : Value} {fuel : Nat} {x : DataW H × List MemPlace} (h : DataW.trod enc Tryd.prog W base sp held fuel 3 [v] = some x) : ∃ n, v = .int .i64 n := by
  obtain ⟨n, hn, _⟩ := DataW.trod_int Tryd.underlying3 h
  simp at hn
  exact ⟨n, hn⟩
theorem bool_in {W : World} {H : Type} {enc : TypeId × Value → H} {base : Nat} {sp : Nat → Bool} {held : Bool} {v : Value} {fuel : Nat} {x : DataW H × List MemPlace} (h : DataW.trod enc Tryd.prog W base sp held fuel 4 [v] = some x) : ∃ b, v = .bool b := by
  obtain ⟨b, hb, _⟩ := DataW.trod_bool Tryd.underlying4 h
  simp at hb
  exact ⟨b, hb⟩
set_option maxRecDepth 20000 in
theorem params_in {W : World} {H : Type} {enc : TypeId × Value → H} {r : Reach} {b0 base : Nat} {sp : Nat → Bool} {held : Bool} {v : Value} {d : DataW H} {p : List MemPlace} (hv : Value.okWide Tryd.prog W r b0 25 v) (h : DataW.Trod enc Tryd.prog W base sp held 25 v d p) :
    ∃ (q : Pv) (v5 v6 v7 v9 : Value), v = .agg #[.int .i64 q.i, .int .i64 q.d, .bool q.hg, .bool q.ho, .bool q.hr, v5, v6, v7, .int .i64 q.c, v9] ∧ Pr W q v5 v6 v7 v9 := by
  obtain ⟨⟨l⟩, rfl, hsz⟩ := okWide_struct Tryd.underlying25 hv
  obtain ⟨v0, v1, v2, v3, v4, v5, v6, v7, v8, v9, rfl⟩ := ten_of (l := l) (hsz.trans schP)
  obtain ⟨fuel, hf0⟩ := h
  obtain ⟨xs, k, hk, hxy, _, hxl, hf⟩ := DataW.trod_struct Tryd.underlying25 hf0
  obtain ⟨y0, y1, y2, y3, y4, y5, y6, y7, y8, y9, rfl⟩ := ten_of (l := xs) hxl
  have g0 : DataW.trod enc Tryd.prog W base sp held k 3 [v0] = some y0 := by have := hf 0 _ rfl; simpa [Value.cells, sch3] using this
  have g1 : DataW.trod enc Tryd.prog W base sp held k 3 [v1] = some y1 := by have := hf 1 _ rfl; simpa [Value.cells, sch3] using this
  have g2 : DataW.trod enc Tryd.prog W base sp held k 4 [v2] = some y2 := by have := hf 2 _ rfl; simpa [Value.cells, sch3, sch4] using this
  have g3 : DataW.trod enc Tryd.prog W base sp held k 4 [v3] = some y3 := by have := hf 3 _ rfl; simpa [Value.cells, sch3, sch4] using this
  have g4 : DataW.trod enc Tryd.prog W base sp held k 4 [v4] = some y4 := by have := hf 4 _ rfl; simpa [Value.cells, sch3, sch4] using this
  have g5 : DataW.trod enc Tryd.prog W base sp held k 22 [v5] = some y5 := by have := hf 5 _ rfl; simpa [Value.cells, sch3, sch4, schb] using this
  have g6 : DataW.trod enc Tryd.prog W base sp held k 22 [v6] = some y6 := by have := hf 6 _ rfl; simpa [Value.cells, sch3, sch4, schb] using this
  have g7 : DataW.trod enc Tryd.prog W base sp held k 22 [v7] = some y7 := by have := hf 7 _ rfl; simpa [Value.cells, sch3, sch4, schb] using this
  have g8 : DataW.trod enc Tryd.prog W base sp held k 3 [v8] = some y8 := by have := hf 8 _ rfl; simpa [Value.cells, sch3, sch4, schb] using this
  have g9 : DataW.trod enc Tryd.prog W base sp held k 23 [v9] = some y9 := by have := hf 9 _ rfl; simpa [Value.cells, sch3, sch4, schb, schi] using this
  obtain ⟨i, rfl⟩ := int_in g0
  obtain ⟨dd, rfl⟩ := int_in g1
  obtain ⟨hg, rfl⟩ := bool_in g2
  obtain ⟨ho, rfl⟩ := bool_in g3
  obtain ⟨hr, rfl⟩ := bool_in g4
  obtain ⟨c, rfl⟩ := int_in g8
  obtain ⟨a5, c5, z5, rfl, r5⟩ := rdb_in g5
  obtain ⟨a6, c6, z6, rfl, r6⟩ := rdb_in g6
  obtain ⟨a7, c7, z7, rfl, r7⟩ := rdb_in g7
  obtain ⟨a9, c9, z9, rfl, r9⟩ := rdi_in g9
  exact ⟨⟨i, dd, hg, ho, hr, z5, z6, z7, c, z9⟩, _, _, _, _, rfl, r5, r6, r7, r9⟩
end Go.Proofs.YtmglhlfjddgllaaDoor
