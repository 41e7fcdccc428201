/- sched: Finishes, Binds: a mac is taken apart. -/
import Derived.Test.YtipgidcpocgojaaScHas
namespace Go.Proofs.Ytipgidcpocgojaa
open Go Go.RowKit

variable {w0 w : World} {tb mb : Nat} {N : List Nd} {rs : List (Value × List Int)}
theorem St.look2 (h : St w0 w tb mb N rs) {m : Int} {k a b : Int} (hm : Has N m (k, ByteArray.empty, [a, b])) :
    Calls Try.prog 25 #[.pointer (some ⟨tb, 0, none⟩), .int .i64 m] w fun e w' => ∃ g cap, e = .returned (.tuple #[.agg #[.int .i64 k, .string ByteArray.empty, .slice (some ⟨g, 0, none⟩) 2 cap], .bool true]) ∧ 2 ≤ cap ∧ cap ≤ 9223372036854775807 ∧ g < w'.heap.size ∧ w'.cell? ⟨g, 0, none⟩ = some (.int .i64 a) ∧ w'.cell? ⟨g, 1, none⟩ = some (.int .i64 b) ∧ St w0 w' tb mb N rs ∧ Below w.heap.size w w' := by
  have hp := hm.pos
  have := h.look (m - 1).toNat _ hm.at'
  rw [show (((m - 1).toNat : Nat) : Int) + 1 = m by omega] at this
  refine this.mono ?_
  rintro e w' ⟨pv, rfl, ho, hb, hs⟩
  have hr := (Rd.of_own ho).1
  obtain ⟨g, cap, rfl, _, h3, h4, _, _⟩ := own_pair ho
  obtain ⟨ao, cp, hv, _, _, _, hc⟩ := hr
  cases hv
  have c0 := hc _ rfl 0 (by simp)
  have c1 := hc _ rfl 1 (by simp)
  rw [Addr.add_lit] at c0 c1
  exact ⟨g, cap, rfl, h3, h4, cell_lt c0, c0, c1, hs, hb⟩
theorem St.look0 (h : St w0 w tb mb N rs) (t : Int) (h0 : t < 1 ∨ (N.length : Int) < t) :
    Calls Try.prog 25 #[.pointer (some ⟨tb, 0, none⟩), .int .i64 t] w fun e w' => e = .returned (.tuple #[.agg #[.int .i64 0, .string ByteArray.empty, .slice none 0 0], .bool false]) ∧ St w0 w' tb mb N rs := by
  obtain ⟨nv, ht⟩ := h.tab
  exact (Tab.look_no ht.at t h0).mono fun e w' ⟨h1, h2⟩ => ⟨h1, h.keep h2⟩
def seq (a b : ByteArray) : Bool := a.toList == b.toList
theorem seq_eq (a b : ByteArray) : seq a b = decide (a = b) := by
  unfold seq
  by_cases h : a = b
  · subst h; simp
  · have := str_ne h
    rw [Bool.not_eq_true'] at this
    rw [this, decide_eq_false h]

def sameD (s' s : Int) (l' l : ByteArray) : Bool := decide (s' = s ∧ l' = l)
def sameM (s' s : Int) (l' l : ByteArray) (x' x : Int) : Bool := decide (s' = s ∧ l' = l ∧ x' = x)
set_option maxRecDepth 20000 in
set_option maxHeartbeats 1600000 in
theorem St.isText (h : St w0 w tb mb N rs) {m : Int} {s : ByteArray} (hm : Has N m (1, s, [])) (l : ByteArray) :
    Calls Try.prog 57 #[.pointer (some ⟨tb, 0, none⟩), .int .i64 m, .string l] w fun e w' => e = .returned (.bool (seq s l)) ∧ St w0 w' tb mb N rs ∧ Below w.heap.size w w' := by
  have c1 := h.look1 hm
  unfold seq
  clear h hm
  go_enter Try.func57, Try.ntmps57
  go_wp2_with fail
  refine c1.mono ?_
  rintro e w1 ⟨ao, cap, rfl, h1, hb1⟩
  have HS := Lib.hid (And.intro (h1.keep (below_alloc w1 (.cells #[.int .i64 1, .string s, .slice ao 0 cap] 40))) (hb1.trans ((below_alloc w1 (.cells #[.int .i64 1, .string s, .slice ao 0 cap] 40)).mono hb1.size)))
  clear c1 h1
  go_wp2_with fail
  go_ret
  exact ⟨rfl, HS.out⟩
set_option maxRecDepth 20000 in
set_option maxHeartbeats 1600000 in
theorem St.labelIs (h : St w0 w tb mb N rs) {m s' : Int} {lab' : ByteArray} (hm : Der0 N m s' lab') (lab : ByteArray) (s : Int) :
    Calls Try.prog 48 #[.string lab, .pointer (some ⟨tb, 0, none⟩), .int .i64 m, .int .i64 s] w fun e w' => e = .returned (.bool (sameD s' s lab' lab)) ∧ St w0 w' tb mb N rs ∧ Below w.heap.size w w' := by
  obtain ⟨ee, he, l, hl, h6⟩ := hm
  have c1 := h.look3 h6
  have HE := Lib.hid (And.intro he hl)
  clear h he hl h6
  by_cases hs : s' = s
  · subst hs
    have t1 : (s' == s') = true := by simp
    rw [show sameD s' s' lab' lab = seq lab' lab by unfold sameD; rw [seq_eq]; simp]
    obtain ⟨b, hb⟩ : ∃ b, b = seq lab' lab := ⟨_, rfl⟩
    rw [← hb]
    have HBB := Lib.hid hb
    clear hb
    go_enter Try.func48, Try.ntmps48
    go_wp2_with fail
    refine c1.mono ?_
    rintro e w1 ⟨g, cap, rfl, hc1, hc2, hg, k0, k1, k2, h1, hb1⟩
    have hlt1 := hb1.size
    obtain ⟨X, hX⟩ : ∃ X, X = w1.alloc (.cells #[.int .i64 6, .string ByteArray.empty, .slice (some ⟨g, 0, none⟩) 3 cap] 40) := ⟨_, rfl⟩
    have hXb : Below w1.heap.size w1 X := by rw [hX]; exact below_alloc _ _
    have HX := Lib.hid (And.intro (h1.keep hXb) (hb1.trans (hXb.mono hb1.size)))
    have c2 := HX.out.1.isText HE.out.2 lab
    rw [← HBB.out] at c2
    have hz : X.heap.size = w1.heap.size + 1 := by rw [hX]; simp
    have hA : X.heap[w1.heap.size]? = some (.cells #[.int .i64 6, .string ByteArray.empty, .slice (some ⟨g, 0, none⟩) 3 cap] 40 (0, 0)) := by rw [hX]; exact heap_alloc_new _ _
    have k2' : X.cell? ⟨g, 2, none⟩ = some (.int .i64 ee) := by rw [hXb.cell hg]; exact k2
    have HA := Lib.hid (And.intro hz (And.intro hA (And.intro hg k2')))
    clear c1 h1
    rw [hX] at c2
    go_wp2_with fail
    refine c2.mono ?_
    rintro e w2 ⟨rfl, h2, hb2⟩
    rw [← hX] at hb2
    have n0 : w2.cell? ⟨w1.heap.size, 2, none⟩ = some (.slice (some ⟨g, 0, none⟩) 3 cap) := by
      rw [hb2.cell (by show w1.heap.size < _; rw [HA.out.1]; omega)]
      exact (cell_of_row _ w1.heap.size 2 _ 40 (0, 0) HA.out.2.1).trans rfl
    have n1 : w2.cell? ⟨g, 2, none⟩ = some (.int .i64 ee) := by
      rw [hb2.cell (by show g < _; rw [HA.out.1]; omega)]
      exact HA.out.2.2.2
    have hwlt : w1.heap.size < w2.heap.size := by have := hb2.size; rw [HA.out.1] at this; omega
    have hglt : g < w2.heap.size := by omega
    have HB2 := Lib.hid (HX.out.2.trans (hb2.mono HX.out.2.size))
    have H2 := Lib.hid h2
    clear hb2 hX hXb c2 hz hA k2' k0 k1 k2 h2
    cases b with
    | true =>
      have c3 := H2.out.isText HE.out.1 ByteArray.empty
      rw [seq_eq, decide_eq_true (show ByteArray.empty = ByteArray.empty from rfl)] at c3
      go_wp2_with fail
      refine c3.mono ?_
      rintro e w3 ⟨rfl, h3, hb3⟩
      have H3 := Lib.hid (And.intro h3 (HB2.out.trans (hb3.mono HB2.out.size)))
      clear c3 h3 hb3
      go_wp2_with fail
      go_ret
      exact ⟨rfl, H3.out⟩
    | false =>
      go_wp2_with fail
      go_ret
      exact ⟨rfl, H2.out, HB2.out⟩
  · have t1 : (s' == s) = false := beq_eq_false_iff_ne.2 hs
    rw [show sameD s' s lab' lab = false from decide_eq_false (fun h => hs h.1)]
    clear hs
    go_enter Try.func48, Try.ntmps48
    go_wp2_with fail
    refine c1.mono ?_
    rintro e w1 ⟨g, cap, rfl, hc1, hc2, hg, k0, k1, k2, h1, hb1⟩
    have HS := Lib.hid (And.intro (h1.keep (below_alloc w1 (.cells #[.int .i64 6, .string ByteArray.empty, .slice (some ⟨g, 0, none⟩) 3 cap] 40))) (hb1.trans ((below_alloc w1 (.cells #[.int .i64 6, .string ByteArray.empty, .slice (some ⟨g, 0, none⟩) 3 cap] 40)).mono hb1.size)))
    clear c1 h1
    go_wp2_with fail
    go_ret
    exact ⟨rfl, HS.out⟩
set_option maxRecDepth 20000 in
set_option maxHeartbeats 1600000 in
theorem St.isMacBy (h : St w0 w tb mb N rs) {m s' x' : Int} {lab' : ByteArray} (hm : IsMac N m s' lab' x') (lab : ByteArray) (s x : Int) :
    Calls Try.prog 47 #[.pointer (some ⟨tb, 0, none⟩), .int .i64 s, .int .i64 x, .int .i64 m, .func (.func 48) #[.string lab] #[]] w fun e w' => e = .returned (.bool (sameM s' s lab' lab x' x)) ∧ St w0 w' tb mb N rs := by
  obtain ⟨k, hk, h5⟩ := hm
  have c1 := h.look2 h5
  have HK := Lib.hid hk
  clear h hk h5
  by_cases hx : x' = x
  · subst hx
    have t1 : (x' == x') = true := by simp
    rw [show sameM s' s lab' lab x' x' = sameD s' s lab' lab by unfold sameM sameD; simp]
    go_enter Try.func47, Try.ntmps47
    go_wp2_with fail
    refine c1.mono ?_
    rintro e w1 ⟨g, cap, rfl, hc1, hc2, hg, k0, k1, h1, hb1⟩
    have c2 := (h1.keep (below_alloc w1 (.cells #[.int .i64 5, .string ByteArray.empty, .slice (some ⟨g, 0, none⟩) 2 cap] 40))).labelIs HK.out lab s
    clear c1 h1
    go_wp2_with fail
    refine c2.mono ?_
    rintro e w2 ⟨rfl, h2, hb2⟩
    have H2 := Lib.hid h2
    clear c2 h2 hb2
    go_wp2_with fail
    go_ret
    exact ⟨rfl, H2.out⟩
  · have t1 : (x' == x) = false := beq_eq_false_iff_ne.2 hx
    rw [show sameM s' s lab' lab x' x = false from decide_eq_false (fun h => hx h.2.2)]
    clear hx
    go_enter Try.func47, Try.ntmps47
    go_wp2_with fail
    refine c1.mono ?_
    rintro e w1 ⟨g, cap, rfl, hc1, hc2, hg, k0, k1, h1, hb1⟩
    have HS := Lib.hid (h1.keep (below_alloc w1 (.cells #[.int .i64 5, .string ByteArray.empty, .slice (some ⟨g, 0, none⟩) 2 cap] 40)))
    clear c1 h1
    go_wp2_with fail
    go_ret
    exact ⟨rfl, HS.out⟩
set_option maxRecDepth 20000 in
set_option maxHeartbeats 1600000 in
theorem St.isMacBy_no (h : St w0 w tb mb N rs) {m : Int} (hm : m < 1 ∨ (N.length : Int) < m) (s x : Int) (fv : Value) :
    Calls Try.prog 47 #[.pointer (some ⟨tb, 0, none⟩), .int .i64 s, .int .i64 x, .int .i64 m, fv] w fun e w' => e = .returned (.bool false) ∧ St w0 w' tb mb N rs := by
  have c1 := h.look0 m hm
  clear h hm
  go_enter Try.func47, Try.ntmps47
  go_wp2_with fail
  refine c1.mono ?_
  rintro e w1 ⟨rfl, h1⟩
  have HS := Lib.hid (h1.keep (below_alloc w1 (.cells #[.int .i64 0, .string ByteArray.empty, .slice none 0 0] 40)))
  clear c1 h1
  go_wp2_with fail
  go_ret
  exact ⟨rfl, HS.out⟩
set_option maxRecDepth 20000 in
set_option maxHeartbeats 1600000 in
theorem St.finishes (h : St w0 w tb mb N rs) {m s' x' : Int} {lab' : ByteArray} (hm : IsMac N m s' lab' x') (s x : Int) :
    Calls Try.prog 32 #[.pointer (some ⟨tb, 0, none⟩), .int .i64 s, .int .i64 x, .int .i64 m] w fun e w' => e = .returned (.bool (sameM s' s lab' lFinished x' x)) ∧ St w0 w' tb mb N rs := by
  have c1 := h.isMacBy hm lFinished s x
  clear h hm
  go_enter Try.func32, Try.ntmps32
  go_wp2_with fail
  refine c1.mono ?_
  rintro e w1 ⟨rfl, h1⟩
  go_wp2_with fail
  go_ret
  exact ⟨rfl, h1⟩
set_option maxRecDepth 20000 in
set_option maxHeartbeats 1600000 in
theorem St.finishes_no (h : St w0 w tb mb N rs) {m : Int} (hm : m < 1 ∨ (N.length : Int) < m) (s x : Int) :
    Calls Try.prog 32 #[.pointer (some ⟨tb, 0, none⟩), .int .i64 s, .int .i64 x, .int .i64 m] w fun e w' => e = .returned (.bool (false)) ∧ St w0 w' tb mb N rs := by
  have c1 := h.isMacBy_no hm s x (.func (.func 48) #[.string lFinished] #[])
  clear h hm
  go_enter Try.func32, Try.ntmps32
  go_wp2_with fail
  refine c1.mono ?_
  rintro e w1 ⟨rfl, h1⟩
  go_wp2_with fail
  go_ret
  exact ⟨rfl, h1⟩
set_option maxRecDepth 20000 in
set_option maxHeartbeats 1600000 in
theorem St.binds (h : St w0 w tb mb N rs) {m s' x' : Int} {lab' : ByteArray} (hm : IsMac N m s' lab' x') (s x : Int) :
    Calls Try.prog 33 #[.pointer (some ⟨tb, 0, none⟩), .int .i64 s, .int .i64 x, .int .i64 m] w fun e w' => e = .returned (.bool (sameM s' s lab' lBinder x' x)) ∧ St w0 w' tb mb N rs := by
  have c1 := h.isMacBy hm lBinder s x
  clear h hm
  go_enter Try.func33, Try.ntmps33
  go_wp2_with fail
  refine c1.mono ?_
  rintro e w1 ⟨rfl, h1⟩
  go_wp2_with fail
  go_ret
  exact ⟨rfl, h1⟩
set_option maxRecDepth 20000 in
set_option maxHeartbeats 1600000 in
theorem St.binds_no (h : St w0 w tb mb N rs) {m : Int} (hm : m < 1 ∨ (N.length : Int) < m) (s x : Int) :
    Calls Try.prog 33 #[.pointer (some ⟨tb, 0, none⟩), .int .i64 s, .int .i64 x, .int .i64 m] w fun e w' => e = .returned (.bool (false)) ∧ St w0 w' tb mb N rs := by
  have c1 := h.isMacBy_no hm s x (.func (.func 48) #[.string lBinder] #[])
  clear h hm
  go_enter Try.func33, Try.ntmps33
  go_wp2_with fail
  refine c1.mono ?_
  rintro e w1 ⟨rfl, h1⟩
  go_wp2_with fail
  go_ret
  exact ⟨rfl, h1⟩
#print axioms St.binds_no
end Go.Proofs.Ytipgidcpocgojaa
