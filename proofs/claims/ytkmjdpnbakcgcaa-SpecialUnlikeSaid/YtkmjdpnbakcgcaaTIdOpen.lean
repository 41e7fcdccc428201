/- What a Look of a term of a text, of three parts tells; strings that are unlike. -/
import Derived.Test.YtkmjdpnbakcgcaaTHas
import Derived.Laws.Strings
namespace Go.Proofs.Ytkmjdpnbakcgcaa.T
open Go Go.RowKit

/-- A row of three of the call's own: its cells. -/
theorem own_three {w : World} {base : Nat} {v : Value} {a b c : Int} (h : w.ownsRow base 29 1 v 3 (cs .i64 [a, b, c])) :
    ∃ g cap, v = .slice (some ⟨g, 0, none⟩) 3 cap ∧ base ≤ g ∧ 3 ≤ cap ∧ cap ≤ 9223372036854775807 ∧ g < w.heap.size ∧ w.cell? ⟨g, 0, none⟩ = some (.int .i64 a) ∧ w.cell? ⟨g, 1, none⟩ = some (.int .i64 b) ∧ w.cell? ⟨g, 2, none⟩ = some (.int .i64 c) := by
  obtain ⟨hr, _⟩ := Rd.of_own h
  rcases h.2 with ⟨_, h0⟩ | ⟨g, cap, cur, rfl, hg, hh, h1, h2, h3, h4⟩
  · cases h0
  · unfold maxLen at h2
    obtain ⟨ao, cp, hv, _, _, _, hc⟩ := hr
    cases hv
    refine ⟨g, cap, rfl, hg, h1, by omega, blk_lt hh, ?_, ?_, ?_⟩
    · have := hc _ rfl 0 (by simp); rw [Addr.add_lit] at this; exact this
    · have := hc _ rfl 1 (by simp); rw [Addr.add_lit] at this; exact this
    · have := hc _ rfl 2 (by simp); rw [Addr.add_lit] at this; exact this

/-- What a Look of a sealed one tells. -/
theorem St.look3 {w0 w : World} {tb mb : Nat} {N : List Nd} {rs : List (Value × List Int)} (h : St w0 w tb mb N rs) {m : Int} {k a b c : Int} (hm : Has N m (k, ByteArray.empty, [a, b, c])) :
    Calls Try.prog 17 #[.pointer (some ⟨tb, 0, none⟩), .int .i64 m] w fun e w' => ∃ g cap, e = .returned (.tuple #[.agg #[.int .i64 k, .string ByteArray.empty, .slice (some ⟨g, 0, none⟩) 3 cap], .bool true]) ∧ 3 ≤ cap ∧ cap ≤ 9223372036854775807 ∧ g < w'.heap.size ∧ w'.cell? ⟨g, 0, none⟩ = some (.int .i64 a) ∧ w'.cell? ⟨g, 1, none⟩ = some (.int .i64 b) ∧ w'.cell? ⟨g, 2, none⟩ = some (.int .i64 c) ∧ St w0 w' tb mb N rs ∧ Below w.heap.size w w' := by
  have hp := hm.pos
  have := h.look (m - 1).toNat _ hm.at'
  rw [show (((m - 1).toNat : Nat) : Int) + 1 = m by omega] at this
  refine this.mono ?_
  rintro e w' ⟨pv, rfl, ho, hb, hs⟩
  obtain ⟨g, cap, rfl, _, h3, h4, h5, h6, h7, h8⟩ := own_three ho
  exact ⟨g, cap, rfl, h3, h4, h5, h6, h7, h8, hs, hb⟩
theorem St.look1 {w0 w : World} {tb mb : Nat} {N : List Nd} {rs : List (Value × List Int)} (h : St w0 w tb mb N rs) {m : Int} {s : ByteArray} (hm : Has N m (1, s, [])) :
    Calls Try.prog 17 #[.pointer (some ⟨tb, 0, none⟩), .int .i64 m] w fun e w' => ∃ ao cap, e = .returned (.tuple #[.agg #[.int .i64 1, .string s, .slice ao 0 cap], .bool true]) ∧ St w0 w' tb mb N rs ∧ Below w.heap.size w w' := by
  have hp := hm.pos
  have := h.look (m - 1).toNat _ hm.at'
  rw [show (((m - 1).toNat : Nat) : Int) + 1 = m by omega] at this
  refine this.mono ?_
  rintro e w' ⟨pv, rfl, ho, hb, hs⟩
  obtain ⟨ao, cap, rfl, _, _⟩ := own_shape ho
  exact ⟨ao, cap, rfl, hs, hb⟩

theorem str_inj {a b : ByteArray} (h : a.toList = b.toList) : a = b := by
  rw [ByteArray.toList_eq, ByteArray.toList_eq] at h
  cases a; cases b
  exact congrArg ByteArray.mk (Array.toList_inj.1 h)
theorem str_ne {a b : ByteArray} (h : ¬ a = b) : (!a.toList == b.toList) = true := by
  rw [Bool.not_eq_true', beq_eq_false_iff_ne]
  exact fun e => h (str_inj e)

#print axioms str_ne
end Go.Proofs.Ytkmjdpnbakcgcaa.T
