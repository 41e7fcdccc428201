/- A list and a retry that came in: their fields, their rows told by what they read. -/
import Derived.Test.YtkmjdpnbakcgcaaQInt
import Derived.ProofKit
import Derived.OpenShut
import Derived.Lib.SmallJoins
namespace Go.Proofs.Ytkmjdpnbakcgcaa
open Go.ChangeShapes Go.WideShapes Go.ChangeAt Go.RowKit

theorem laidOut : laidOutB Try.prog = true := by kernel_rfl
theorem sch3 : Try.prog.cellsOf 3 = 1 := by kernel_rfl
theorem schb : Try.prog.cellsOf 22 = 1 := by kernel_rfl
theorem schi : Try.prog.cellsOf 50 = 1 := by kernel_rfl
theorem schR : Try.prog.cellsOf 24 = 5 := by kernel_rfl
theorem three_of {α : Type} {l : List α} (h : l.length = 3) : ∃ a b c, l = [a, b, c] := by
  match l, h with
  | [a, b, c], _ => exact ⟨a, b, c, rfl⟩
theorem five_of {α : Type} {l : List α} (h : l.length = 5) : ∃ a b c d e, l = [a, b, c, d, e] := by
  match l, h with
  | [a, b, c, d, e], _ => exact ⟨a, b, c, d, e, rfl⟩
/-- A slice of bytes among what came in. -/
theorem rdb_in {W : World} {H : Type} {enc : TypeId × Value → H} {base : Nat} {sp : Nat → Bool} {held : Bool} {v : Value} {fuel : Nat} {x : DataW H × List MemPlace} (h : DataW.trod enc Try.prog W base sp held fuel 22 [v] = some x) :
    ∃ a cap zs, v = .slice a zs.length cap ∧ Rd W (.slice a zs.length cap) zs := by
  rcases open_ints Try.underlying22 Try.underlying5 (by kernel_rfl) h with ⟨hcs, _⟩ | ⟨y, l, c, zs, hcs, _, hl, hm, hz, _, hcell, hwz⟩
  · simp at hcs
    exact ⟨none, 0, [], hcs, Rd.nil W⟩
  · simp at hcs
    have hz' : l ≤ zs.length := by
      simp only [hz]
      split <;> omega
    have hlen : (zs.take l).length = l := by simp; omega
    refine ⟨some y, c, zs.take l, by rw [hlen]; exact hcs, ⟨some y, c, rfl, by rw [hlen]; exact hl, hm, (fun h => by cases h), ?_, ?_⟩⟩
    · intro z hz2
      have := hwz z (List.mem_of_mem_take hz2)
      simp [Lit.wf, IntKind.min, IntKind.max, IntKind.bits, IntKind.signed] at this
      omega
    · intro a ha j hj
      cases ha
      rw [hlen] at hj
      rw [hcell j (by omega)]
      simp [List.getD, hj]
/-- A slice of numbers that came in. -/
theorem ints_in {W : World} {H : Type} {enc : TypeId × Value → H} {base : Nat} {sp : Nat → Bool} {held : Bool} {v : Value} {fuel : Nat} {x : DataW H × List MemPlace} (h : DataW.trod enc Try.prog W base sp held fuel 50 [v] = some x) :
    ∃ a cap zs, v = .slice a zs.length cap ∧ Ri W (.slice a zs.length cap) zs := by
  rcases open_ints Try.underlying50 Try.underlying3 (by kernel_rfl) h with ⟨hcs, _⟩ | ⟨a, l, c, zs, hcs, _, hl, hm, hz, _, hcell, hwz⟩
  · simp at hcs
    exact ⟨none, 0, [], hcs, Ri.nil W⟩
  · simp at hcs
    have hz' : l ≤ zs.length := by
      simp only [hz]
      split <;> omega
    have hlen : (zs.take l).length = l := by simp; omega
    refine ⟨some a, c, zs.take l, by rw [hlen]; exact hcs, ⟨some a, c, rfl, by rw [hlen]; exact hl, hm, (fun h => by cases h), ?_⟩⟩
    intro a' ha j hj
    cases ha
    rw [hlen] at hj
    rw [hcell j (by omega)]
    simp [List.getD, hj]


set_option maxRecDepth 20000 in
theorem retry_in {W : World} {H : Type} {enc : TypeId × Value → H} {r : Reach} {b0 base : Nat} {sp : Nat → Bool} {held : Bool} {v : Value} {d : DataW H} {p : List MemPlace} (hv : Value.okWide Try.prog W r b0 24 v) (h : DataW.Trod enc Try.prog W base sp held 24 v d p) :
    ∃ (ver : Int) (to fr : List Int) (tok tag : Int) (a2 : Option Addr) (c2 : Nat) (a3 : Option Addr) (c3 : Nat), v = .agg #[.int .i64 ver, .slice a2 to.length c2, .slice a3 fr.length c3, .int .i64 tok, .int .i64 tag] ∧ Rd W (.slice a2 to.length c2) to ∧ Rd W (.slice a3 fr.length c3) fr := by
  obtain ⟨⟨l⟩, rfl, hsz⟩ := okWide_struct Try.underlying24 hv
  obtain ⟨v0, v1, v2, v3, v4, rfl⟩ := five_of (l := l) (hsz.trans schR)
  obtain ⟨fuel, hf0⟩ := h
  obtain ⟨xs, k, hk, hxy, _, hxl, hf⟩ := DataW.trod_struct Try.underlying24 hf0
  obtain ⟨y0, y1, y2, y3, y4, rfl⟩ := five_of (l := xs) hxl
  have g0 : DataW.trod enc Try.prog W base sp held k 3 [v0] = some y0 := by have := hf 0 _ rfl; simpa [Value.cells, sch3] using this
  have g1 : DataW.trod enc Try.prog W base sp held k 22 [v1] = some y1 := by have := hf 1 _ rfl; simpa [Value.cells, schb] using this
  have g2 : DataW.trod enc Try.prog W base sp held k 22 [v2] = some y2 := by have := hf 2 _ rfl; simpa [Value.cells, schb] using this
  have g3 : DataW.trod enc Try.prog W base sp held k 3 [v3] = some y3 := by have := hf 3 _ rfl; simpa [Value.cells, sch3] using this
  have g4 : DataW.trod enc Try.prog W base sp held k 3 [v4] = some y4 := by have := hf 4 _ rfl; simpa [Value.cells, sch3] using this
  obtain ⟨a2, c2, z2, rfl, r2⟩ := rdb_in g1
  obtain ⟨a3, c3, z3, rfl, r3⟩ := rdb_in g2
  obtain ⟨n0, q0, _, _⟩ := DataW.trod_int Try.underlying3 g0
  obtain ⟨n3, q3, _, _⟩ := DataW.trod_int Try.underlying3 g3
  obtain ⟨n4, q4, _, _⟩ := DataW.trod_int Try.underlying3 g4
  simp only [List.cons.injEq, and_true] at q0 q3 q4
  subst q0; subst q3; subst q4
  exact ⟨n0, z2, z3, n3, n4, a2, c2, a3, c3, rfl, r2, r3⟩
end Go.Proofs.Ytkmjdpnbakcgcaa
