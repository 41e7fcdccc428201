/- What came in: tokens, questions, tickets, plain slices. -/
import Derived.Test.YtepkhhpdpmhfaaaDoorCards
import Derived.Test.YtepkhhpdpmhfaaaDoorTie
import Derived.Test.YtepkhhpdpmhfaaaDoorZPut
import Derived.WalkKit
import Derived.ProofKit
import Derived.OpenShut
import Derived.ChangeOld
import Derived.Below
import Derived.Deep.DeepHandedRow
import Derived.Lib.LaidTab
import Derived.Stop.LaidErr
import Derived.Test.YtepkhhpdpmhfaaaDoorZKCut
import Derived.Lib.SmallJoins
namespace Go.Proofs.YtepkhhpdpmhfaaaDoor
open Go.ChangeShapes Go.WideShapes Go.ChangeAt Go.RowKit

def t32 : List Int := [0, 1, 28, 2, 29, 14, 24, 3, 30, 22, 20, 15, 25, 17, 4, 8, 31, 27, 13, 23, 21, 19, 16, 7, 26, 12, 18, 6, 11, 5, 10, 9]
def t64 : List Int := [0, 1, 56, 2, 57, 49, 28, 3, 61, 58, 42, 50, 38, 29, 17, 4, 62, 47, 59, 36, 45, 43, 51, 22, 53, 39, 33, 30, 24, 18, 12, 5, 63, 55, 48, 27, 60, 41, 37, 16, 46, 35, 44, 21, 52, 32, 23, 11, 54, 26, 40, 15, 34, 20, 31, 10, 25, 14, 19, 9, 13, 8, 7, 6]
theorem own : ownKnob Tryd.prog.godebug = none := by kernel_rfl
theorem laidOut : laidOutB Tryd.prog = true := by kernel_rfl
theorem g64 : Tryd.prog.globalNamed "math/bits.deBruijn64tab" = some 1 := by kernel_rfl
theorem g64Type : (Tryd.prog.globals[1]?).map (·.type) = some 131 := by kernel_rfl
theorem cells52 : Tryd.prog.cellsOf 131 = 64 := by kernel_rfl
theorem cells5 : Tryd.prog.cellsOf 5 = 1 := by kernel_rfl
/-- The list of the rows. -/
def laid : List (String × DataW Unit) := [("math/bits.deBruijn32tab", Rows.laid_math_bits_deBruijn32tab), ("math/bits.deBruijn64tab", Rows.laid_math_bits_deBruijn64tab)]

theorem tab_of {W : World} (h : laidMetH Tryd.prog laid W) : Tab W := by
  have h1 : laidMet Tryd.prog laid W := h
  have h2 : Lib.TabIs Tryd.prog W "math/bits.deBruijn64tab" .u8 t64 := Lib.tabIs_of_head (rest := []) g64 g64Type Tryd.underlying131 Tryd.underlying5 cells5 cells52 (laidMet.tail h1)
  exact ⟨h2.cell g64 0 (by decide), h2.cell g64 1 (by decide), h2.cell g64 3 (by decide), h2.cell g64 7 (by decide)⟩

/-- A slice of bytes that came in reads as bytes. -/
theorem rd_in {W : World} {H : Type} {enc : TypeId × Value → H} {base : Nat} {sp : Nat → Bool} {held : Bool} {a : Option Addr} {len cap : Nat} {d : DataW H} {p : List MemPlace} (h : DataW.Trod enc Tryd.prog W base sp held 22 (.slice a len cap) d p) :
    ∃ zs, Rd W (.slice a len cap) zs ∧ zs.length = len := by
  obtain ⟨fuel, hf⟩ := h
  rcases open_ints Tryd.underlying22 Tryd.underlying5 (by kernel_rfl) hf with ⟨hcs, _⟩ | ⟨x, l, c, zs, hcs, _, hl, hm, hz, _, hcell, hwz⟩
  · simp [Value.cells] at hcs
    obtain ⟨rfl, rfl, rfl⟩ := hcs
    exact ⟨[], Rd.nil W, rfl⟩
  · simp [Value.cells] at hcs
    obtain ⟨rfl, rfl, rfl⟩ := hcs
    have hz' : len ≤ zs.length := by
      simp only [hz]
      split <;> omega
    have hlen : (zs.take len).length = len := by simp; omega
    refine ⟨zs.take len, ⟨some x, cap, by rw [hlen], by omega, hm, (fun h => by cases h), ?_, ?_⟩, hlen⟩
    · intro z hz2
      have := hwz z (List.mem_of_mem_take hz2)
      simp [Lit.wf, IntKind.min, IntKind.max, IntKind.bits, IntKind.signed] at this
      omega
    · intro a ha j hj
      cases ha
      rw [hlen] at hj
      rw [hcell j (by omega)]
      simp [List.getD, hj]

/-- A table's block holding these numbers. -/
noncomputable def holds (zs : List Int) : Obj → Obj := fun x => match x with
  | .cells _ t frozen => .cells (zs.map (Value.int .u8)).toArray t frozen
  | o => o
/-- A world for the witness: the settled one, the two tables holding what their initialisers lay. -/
noncomputable def laidWorld (os : Os) : World :=
  { World.holding Tryd.prog os ⟨#[], #[], []⟩ with heap := ((World.holding Tryd.prog os ⟨#[], #[], []⟩).heap.modify 0 (holds t32)).modify 1 (holds t64) }
#print axioms tab_of
#print axioms rd_in
end Go.Proofs.YtepkhhpdpmhfaaaDoor
namespace Go.Proofs.YtepkhhpdpmhfaaaDoor
open Go.ChangeShapes Go.WideShapes Go.ChangeAt Go.RowKit

theorem four_of {α : Type} {l : List α} (h : l.length = 4) : ∃ a b c d, l = [a, b, c, d] := by
  match l, h with
  | [a, b, c, d], _ => exact ⟨a, b, c, d, rfl⟩
theorem three_of {α : Type} {l : List α} (h : l.length = 3) : ∃ a b c, l = [a, b, c] := by
  match l, h with
  | [a, b, c], _ => exact ⟨a, b, c, rfl⟩
theorem four_arr {c : Array Value} (h : c.size = 4) : ∃ z0 z1 z2 z3, c = #[z0, z1, z2, z3] := by
  obtain ⟨l⟩ := c
  obtain ⟨z0, z1, z2, z3, e⟩ := four_of (l := l) h
  exact ⟨z0, z1, z2, z3, by rw [e]⟩
theorem three_arr {c : Array Value} (h : c.size = 3) : ∃ z0 z1 z2, c = #[z0, z1, z2] := by
  obtain ⟨l⟩ := c
  obtain ⟨z0, z1, z2, e⟩ := three_of (l := l) h
  exact ⟨z0, z1, z2, by rw [e]⟩
theorem sch3 : Tryd.prog.cellsOf 3 = 1 := by kernel_rfl
theorem sch4 : Tryd.prog.cellsOf 4 = 1 := by kernel_rfl
theorem schb : Tryd.prog.cellsOf 22 = 1 := by kernel_rfl
theorem schT : Tryd.prog.cellsOf 24 = 4 := by kernel_rfl
theorem schK : Tryd.prog.cellsOf 41 = 3 := by kernel_rfl
/-- A slice of bytes among what came in. -/
theorem rdb_in {W : World} {H : Type} {enc : TypeId × Value → H} {base : Nat} {sp : Nat → Bool} {held : Bool} {v : Value} {fuel : Nat} {x : DataW H × List MemPlace} (h : DataW.trod enc Tryd.prog W base sp held fuel 22 [v] = some x) :
    ∃ a cap zs, v = .slice a zs.length cap ∧ Rd W (.slice a zs.length cap) zs := by
  rcases open_ints Tryd.underlying22 Tryd.underlying5 (by kernel_rfl) h with ⟨hcs, _⟩ | ⟨y, l, c, zs, hcs, _, hl, hm, hz, _, hcell, hwz⟩
  · simp at hcs
    exact ⟨none, 0, [], hcs, Rd.nil W⟩
  · simp at hcs
    have hz' : l ≤ zs.length := by
      simp only [hz]
      split <;> omega
    have hlen : (zs.take l).length = l := by simp; omega
    refine ⟨some y, c, zs.take l, by rw [hlen]; exact hcs, ⟨some y, c, rfl, by rw [hlen]; exact hl, hm, (fun h => by cases h), ?_, ?_⟩⟩
    · intro z hz2
      have := hwz z (List.mem_of_mem_take hz2)
      simp [Lit.wf, IntKind.min, IntKind.max, IntKind.bits, IntKind.signed] at this
      omega
    · intro a ha j hj
      cases ha
      rw [hlen] at hj
      rw [hcell j (by omega)]
      simp [List.getD, hj]
set_option maxRecDepth 20000 in
theorem plain_in {W : World} {r : Reach} {b : Nat} {a : Option Addr} {len cap : Nat} (h : Value.okWide Tryd.prog W r b 22 (.slice a len cap)) : Plain (.slice a len cap) := by
  unfold Value.okWide at h
  rw [Tryd.underlying22] at h
  simp only [Cell.okWide, Tryd.underlying22, Cell.ok] at h
  cases a with
  | none =>
    split at h
    all_goals first
      | (rename_i e1 e2; cases e1; cases e2; exact .inl rfl)
      | (exfalso; simp_all; done)
  | some x =>
    obtain ⟨b, off, spot⟩ := x
    have hs : spot = none := h.2.2.2.1
    subst hs
    exact .inr ⟨_, _, _, _, rfl⟩
/-- In the range of an int. -/
def I64 (n : Int) : Prop := -9223372036854775808 ≤ n ∧ n ≤ 9223372036854775807
set_option maxRecDepth 100000 in
theorem i64_of {n : Int} (h : (Lit.int .i64 n).wf = true) : I64 n := by
  simp [Lit.wf, IntKind.min, IntKind.max, IntKind.bits, IntKind.signed] at h
  unfold I64; omega
set_option maxRecDepth 20000 in
theorem token_in {W : World} {H : Type} {enc : TypeId × Value → H} {r : Reach} {b0 base : Nat} {sp : Nat → Bool} {held : Bool} {v : Value} {d : DataW H} {p : List MemPlace} (hv : Value.okWide Tryd.prog W r b0 24 v) (h : DataW.Trod enc Tryd.prog W base sp held 24 v d p) :
    ∃ (l : Bool) (a t : Int) (nm : List Int) (ao : Option Addr) (cap : Nat), v = .agg #[.bool l, .int .i64 a, .int .i64 t, .slice ao nm.length cap] ∧ Rd W (.slice ao nm.length cap) nm ∧ I64 a ∧ I64 t := by
  obtain ⟨cs, rfl, hsz⟩ := okWide_struct Tryd.underlying24 hv
  obtain ⟨v0, v1, v2, v3, rfl⟩ := four_arr (hsz.trans schT)
  obtain ⟨fuel, hf0⟩ := h
  obtain ⟨xs, k, hk, hxy, _, hxl, hf⟩ := DataW.trod_struct Tryd.underlying24 hf0
  obtain ⟨y0, y1, y2, y3, rfl⟩ := four_of (l := xs) hxl
  have g0 : DataW.trod enc Tryd.prog W base sp held k 4 [v0] = some y0 := by have := hf 0 _ rfl; simpa [Value.cells, sch4] using this
  have g1 : DataW.trod enc Tryd.prog W base sp held k 3 [v1] = some y1 := by have := hf 1 _ rfl; simpa [Value.cells, sch3, sch4] using this
  have g2 : DataW.trod enc Tryd.prog W base sp held k 3 [v2] = some y2 := by have := hf 2 _ rfl; simpa [Value.cells, sch3, sch4] using this
  have g3 : DataW.trod enc Tryd.prog W base sp held k 22 [v3] = some y3 := by have := hf 3 _ rfl; simpa [Value.cells, sch3, sch4, schb] using this
  obtain ⟨b0, q0, _⟩ := DataW.trod_bool Tryd.underlying4 g0
  obtain ⟨n1, q1, _, w1⟩ := DataW.trod_int Tryd.underlying3 g1
  obtain ⟨n2, q2, _, w2⟩ := DataW.trod_int Tryd.underlying3 g2
  obtain ⟨a3, c3, z3, rfl, r3⟩ := rdb_in g3
  simp only [List.cons.injEq, and_true] at q0 q1 q2
  subst q0; subst q1; subst q2
  exact ⟨b0, n1, n2, z3, a3, c3, rfl, r3, i64_of w1, i64_of w2⟩
set_option maxRecDepth 20000 in
theorem ticket_in {W : World} {H : Type} {enc : TypeId × Value → H} {r : Reach} {b0 base : Nat} {sp : Nat → Bool} {held : Bool} {v : Value} {d : DataW H} {p : List MemPlace} (hv : Value.okWide Tryd.prog W r b0 41 v) (h : DataW.Trod enc Tryd.prog W base sp held 41 v d p) :
    ∃ (a b c : Int), v = .agg #[.int .i64 a, .int .i64 b, .int .i64 c] ∧ I64 a ∧ I64 b ∧ I64 c := by
  obtain ⟨cs, rfl, hsz⟩ := okWide_struct Tryd.underlying41 hv
  obtain ⟨v0, v1, v2, rfl⟩ := three_arr (hsz.trans schK)
  obtain ⟨fuel, hf0⟩ := h
  obtain ⟨xs, k, hk, hxy, _, hxl, hf⟩ := DataW.trod_struct Tryd.underlying41 hf0
  obtain ⟨y0, y1, y2, rfl⟩ := three_of (l := xs) hxl
  have g0 : DataW.trod enc Tryd.prog W base sp held k 3 [v0] = some y0 := by have := hf 0 _ rfl; simpa [Value.cells, sch3] using this
  have g1 : DataW.trod enc Tryd.prog W base sp held k 3 [v1] = some y1 := by have := hf 1 _ rfl; simpa [Value.cells, sch3] using this
  have g2 : DataW.trod enc Tryd.prog W base sp held k 3 [v2] = some y2 := by have := hf 2 _ rfl; simpa [Value.cells, sch3] using this
  obtain ⟨n0, q0, _, w0⟩ := DataW.trod_int Tryd.underlying3 g0
  obtain ⟨n1, q1, _, w1⟩ := DataW.trod_int Tryd.underlying3 g1
  obtain ⟨n2, q2, _, w2⟩ := DataW.trod_int Tryd.underlying3 g2
  simp only [List.cons.injEq, and_true] at q0 q1 q2
  subst q0; subst q1; subst q2
  exact ⟨n0, n1, n2, rfl, i64_of w0, i64_of w1, i64_of w2⟩
#print axioms token_in
end Go.Proofs.YtepkhhpdpmhfaaaDoor
