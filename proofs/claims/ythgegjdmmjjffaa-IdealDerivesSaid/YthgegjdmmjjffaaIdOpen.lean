/- Open tells what is in a sealed term, if the key and the head are its own. -/
import Derived.Test.YthgegjdmmjjffaaHas
import Derived.Laws.Strings
namespace Go.Proofs.Ythgegjdmmjjffaa
open Go Go.RowKit

/-- A row of three of the call's own: its cells. -/
theorem own_three {w : World} {base : Nat} {v : Value} {a b c : Int} (h : w.ownsRow base 32 1 v 3 (cs .i64 [a, b, c])) :
    ∃ g cap, v = .slice (some ⟨g, 0, none⟩) 3 cap ∧ base ≤ g ∧ 3 ≤ cap ∧ cap ≤ 9223372036854775807 ∧ g < w.heap.size ∧ w.cell? ⟨g, 0, none⟩ = some (.int .i64 a) ∧ w.cell? ⟨g, 1, none⟩ = some (.int .i64 b) ∧ w.cell? ⟨g, 2, none⟩ = some (.int .i64 c) := by
  obtain ⟨hr, _⟩ := Rd.of_own h
  rcases h.2 with ⟨_, h0⟩ | ⟨g, cap, cur, rfl, hg, hh, h1, h2, h3, h4⟩
  · cases h0
  · unfold maxLen at h2
    obtain ⟨ao, cp, hv, _, _, _, hc⟩ := hr
    cases hv
    refine ⟨g, cap, rfl, hg, h1, by omega, blk_lt hh, ?_, ?_, ?_⟩
    · have := hc _ rfl 0 (by simp); rw [Addr.add_lit] at this; exact this
    · have := hc _ rfl 1 (by simp); rw [Addr.add_lit] at this; exact this
    · have := hc _ rfl 2 (by simp); rw [Addr.add_lit] at this; exact this

/-- What a Look of a sealed one tells. -/
theorem St.look3 {w0 w : World} {tb mb : Nat} {N : List Nd} {rs : List (Value × List Int)} (h : St w0 w tb mb N rs) {m : Int} {k a b c : Int} (hm : Has N m (k, ByteArray.empty, [a, b, c])) :
    Calls Try.prog 21 #[.pointer (some ⟨tb, 0, none⟩), .int .i64 m] w fun e w' => ∃ g cap, e = .returned (.tuple #[.agg #[.int .i64 k, .string ByteArray.empty, .slice (some ⟨g, 0, none⟩) 3 cap], .bool true]) ∧ 3 ≤ cap ∧ cap ≤ 9223372036854775807 ∧ g < w'.heap.size ∧ w'.cell? ⟨g, 0, none⟩ = some (.int .i64 a) ∧ w'.cell? ⟨g, 1, none⟩ = some (.int .i64 b) ∧ w'.cell? ⟨g, 2, none⟩ = some (.int .i64 c) ∧ St w0 w' tb mb N rs ∧ Below w.heap.size w w' := by
  have hp := hm.pos
  have := h.look (m - 1).toNat _ hm.at'
  rw [show (((m - 1).toNat : Nat) : Int) + 1 = m by omega] at this
  refine this.mono ?_
  rintro e w' ⟨pv, rfl, ho, hb, hs⟩
  obtain ⟨g, cap, rfl, _, h3, h4, h5, h6, h7, h8⟩ := own_three ho
  exact ⟨g, cap, rfl, h3, h4, h5, h6, h7, h8, hs, hb⟩
theorem St.look1 {w0 w : World} {tb mb : Nat} {N : List Nd} {rs : List (Value × List Int)} (h : St w0 w tb mb N rs) {m : Int} {s : ByteArray} (hm : Has N m (1, s, [])) :
    Calls Try.prog 21 #[.pointer (some ⟨tb, 0, none⟩), .int .i64 m] w fun e w' => ∃ ao cap, e = .returned (.tuple #[.agg #[.int .i64 1, .string s, .slice ao 0 cap], .bool true]) ∧ St w0 w' tb mb N rs ∧ Below w.heap.size w w' := by
  have hp := hm.pos
  have := h.look (m - 1).toNat _ hm.at'
  rw [show (((m - 1).toNat : Nat) : Int) + 1 = m by omega] at this
  refine this.mono ?_
  rintro e w' ⟨pv, rfl, ho, hb, hs⟩
  obtain ⟨ao, cap, rfl, _, _⟩ := own_shape ho
  exact ⟨ao, cap, rfl, hs, hb⟩

set_option maxRecDepth 20000 in
set_option maxHeartbeats 1600000 in
theorem St.open_key {w0 w : World} {tb mb : Nat} {N : List Nd} {rs : List (Value × List Int)} (h : St w0 w tb mb N rs) {m k a b c : Int} (hm : Has N m (10, ByteArray.empty, [a, b, c])) (hk : a ≠ k) (vb : Value) :
    Calls Try.prog 53 #[.pointer (some ⟨tb, 0, none⟩), .int .i64 k, vb, .int .i64 m] w fun e w' => e = .returned (.tuple #[.int .i64 0, .bool false]) ∧ St w0 w' tb mb N rs := by
  have c1 := h.look3 hm
  have t1 : (a != k) = true := bne_iff_ne.2 hk
  clear h hm hk
  go_enter Try.func53, Try.ntmps53
  go_wp2_with fail
  refine c1.mono ?_
  rintro e w1 ⟨g, cap, rfl, hc1, hc2, hg, k0, k1, k2, h1, hb1⟩
  clear c1
  have HS := Lib.hid (h1.keep (below_alloc w1 (.cells #[.int .i64 10, .string ByteArray.empty, .slice (some ⟨g, 0, none⟩) 3 cap] 38)))
  clear h1
  go_wp2_with fail
  go_ret2
  exact ⟨rfl, HS.out⟩

theorem str_inj {a b : ByteArray} (h : a.toList = b.toList) : a = b := by
  rw [ByteArray.toList_eq, ByteArray.toList_eq] at h
  cases a; cases b
  exact congrArg ByteArray.mk (Array.toList_inj.1 h)
theorem str_ne {a b : ByteArray} (h : ¬ a = b) : (!a.toList == b.toList) = true := by
  rw [Bool.not_eq_true', beq_eq_false_iff_ne]
  exact fun e => h (str_inj e)

set_option maxRecDepth 20000 in
set_option maxHeartbeats 1600000 in
theorem St.open_head {w0 w : World} {tb mb : Nat} {N : List Nd} {rs : List (Value × List Int)} (h : St w0 w tb mb N rs) {m k b c : Int} (hm : Has N m (10, ByteArray.empty, [k, b, c])) {t : ByteArray} (ht : Has N b (1, t, [])) {vb : Value} {zb : List Int} (hb : Rd .u8 w vb zb) :
    Calls Try.prog 53 #[.pointer (some ⟨tb, 0, none⟩), .int .i64 k, vb, .int .i64 m] w fun e w' => e = .returned (.tuple #[.int .i64 (if t = bstr zb then c else 0), .bool (decide (t = bstr zb))]) ∧ St w0 w' tb mb N rs := by
  have c1 := h.look3 hm
  have t1 : (k != k) = false := by simp
  have HB := Lib.hid hb
  have HT := Lib.hid ht
  obtain ⟨ao, cpb, rfl, _⟩ := hb
  clear h hm ht
  go_enter Try.func53, Try.ntmps53
  go_wp2_with fail
  refine c1.mono ?_
  rintro e w1 ⟨g, cap, rfl, hc1, hc2, hg, k0, k1, k2, h1, hb1⟩
  clear c1
  have h1' := h1.keep (below_alloc w1 (.cells #[.int .i64 10, .string ByteArray.empty, .slice (some ⟨g, 0, none⟩) 3 cap] 38))
  have c2 := h1'.look1 HT.out
  have HB1 := Lib.hid (HB.out.below (hb1.trans ((below_alloc w1 (.cells #[.int .i64 10, .string ByteArray.empty, .slice (some ⟨g, 0, none⟩) 3 cap] 38)).mono hb1.size)))
  have HA : Hid ((w1.alloc (.cells #[.int .i64 10, .string ByteArray.empty, .slice (some ⟨g, 0, none⟩) 3 cap] 38)).heap[w1.heap.size]? = some (.cells #[.int .i64 10, .string ByteArray.empty, .slice (some ⟨g, 0, none⟩) 3 cap] 38 (0, 0))) := Lib.hid (heap_alloc_new _ _)
  have HZ : Hid ((w1.alloc (.cells #[.int .i64 10, .string ByteArray.empty, .slice (some ⟨g, 0, none⟩) 3 cap] 38)).heap.size = w1.heap.size + 1) := Lib.hid (by simp)
  clear h1 h1'
  go_wp2_with fail
  refine c2.mono ?_
  rintro e w2 ⟨aop, capp, rfl, h2, hb2⟩
  clear c2
  have n0 : w2.cell? ⟨w1.heap.size, 2, none⟩ = some (.slice (some ⟨g, 0, none⟩) 3 cap) := by
    rw [hb2.cell (by show w1.heap.size < _; rw [HZ.out]; omega)]
    exact (cell_of_row _ w1.heap.size 2 _ 38 (0, 0) HA.out).trans rfl
  have n1 : w2.cell? ⟨g, 2, none⟩ = some (.int .i64 c) := by
    rw [hb2.cell (by show g < _; rw [HZ.out]; omega)]
    rw [show (w1.alloc (.cells #[.int .i64 10, .string ByteArray.empty, .slice (some ⟨g, 0, none⟩) 3 cap] 38)).cell? ⟨g, 2, none⟩ = w1.cell? ⟨g, 2, none⟩ from (below_alloc w1 _).cell hg]
    exact k2
  have hwlt : w1.heap.size < w2.heap.size := by have := hb2.size; rw [HZ.out] at this; omega
  have hglt : g < w2.heap.size := by omega
  have hcv := conv_any (HB1.out.below (hb2.trans ((below_alloc w2 (.cells #[.int .i64 1, .string t, .slice aop 0 capp] 38)).mono hb2.size)))
  have HS := Lib.hid (h2.keep (below_alloc w2 (.cells #[.int .i64 1, .string t, .slice aop 0 capp] 38)))
  clear h2 k0 k1 k2
  by_cases hu : t = bstr zb
  · subst hu
    go_wp2_with fail
    go_ret2
    exact ⟨rfl, HS.out⟩
  · have q1 : (!t.toList == (bstr zb).toList) = true := str_ne hu
    go_wp2_with fail
    go_ret2
    exact ⟨rfl, HS.out⟩
#print axioms St.open_key
#print axioms St.open_head
end Go.Proofs.Ythgegjdmmjjffaa
