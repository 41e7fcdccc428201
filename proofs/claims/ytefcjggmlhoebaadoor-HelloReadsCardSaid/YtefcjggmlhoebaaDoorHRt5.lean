/- hello.Right: areTerms of a literal, and what it leaves alone. -/
import Derived.Test.YtefcjggmlhoebaaDoorHRd6
namespace Go.Proofs.YtefcjggmlhoebaaDoor
open Go Go.RowKit

def tmD (t : Int) : Bool := decide (1 ≤ t ∧ t ≤ 65536)
theorem hnum_any (t : Int) (w : World) : Calls Tryd.prog 50 #[.int .i64 t] w fun e w' => ∃ a c n, e = .returned (.slice a n c) ∧ ((n : Int) == 0) = !tmD t ∧ Below w.heap.size w w' := by
  refine (inumber_any t w).mono ?_
  rintro e w' ⟨v, rfl, hr, hb⟩
  obtain ⟨a, c, rfl⟩ := hr.shape
  refine ⟨a, c, _, rfl, ?_, hb⟩
  unfold tmD
  by_cases ht : 1 ≤ t ∧ t ≤ 65536
  · rw [numB_yes ht, decide_eq_true ht]
    simp
  · rw [numB_no ht, decide_eq_false ht]
    simp
theorem keepH {w w' : World} {a : Addr} {v : Value} (hb : Below w.heap.size w w') (h : w.cell? a = some v) : w'.cell? a = some v := by rw [hb.cell (cell_lt h)]; exact h
set_option maxRecDepth 20000 in
set_option maxHeartbeats 2000000 in
theorem are1 {w : World} {g : Nat} {a : Int} (hc : w.cell? ⟨g, 0, none⟩ = some (.int .i64 a)) : Calls Tryd.prog 25 #[.slice (some ⟨g, 0, none⟩) 1 1] w fun e w' => e = .returned (.bool (tmD a)) ∧ Below w.heap.size w w' := by
  have hn := hnum_any a w
  cases htm : tmD a with
  | true =>
    rw [htm] at hn
    go_enter Tryd.func25, Tryd.ntmps25
    go_wp2_with fail
    refine wp_loop_rounds 2 ?_
    rw [rounds_succ]
    go_wp2_with (go_at_call 50; refine hn.mono ?_; rintro e w1 ⟨a1, c1, n1, rfl, hz1, hb1⟩; simp only [Bool.not_true] at hz1)
    rw [rounds_succ]
    go_wp2_with fail
    go_ret
    exact ⟨rfl, hb1⟩
  | false =>
    rw [htm] at hn
    go_enter Tryd.func25, Tryd.ntmps25
    go_wp2_with fail
    refine wp_loop_rounds 2 ?_
    rw [rounds_succ]
    go_wp2_with (go_at_call 50; refine hn.mono ?_; rintro e w1 ⟨a1, c1, n1, rfl, hz1, hb1⟩; simp only [Bool.not_false] at hz1)
    go_ret
    exact ⟨rfl, hb1⟩
set_option maxRecDepth 20000 in
set_option maxHeartbeats 2000000 in
theorem are2 {w : World} {g : Nat} {a b : Int} (hc : w.cell? ⟨g, 0, none⟩ = some (.int .i64 a)) (hc2 : w.cell? ⟨g, 1, none⟩ = some (.int .i64 b)) : Calls Tryd.prog 25 #[.slice (some ⟨g, 0, none⟩) 2 2] w fun e w' => e = .returned (.bool (tmD a && tmD b)) ∧ Below w.heap.size w w' := by
  have hn := hnum_any a w
  cases htm : tmD a with
  | true =>
    rw [htm] at hn
    cases htb : tmD b with
    | true =>
      go_enter Tryd.func25, Tryd.ntmps25
      go_wp2_with fail
      refine wp_loop_rounds 3 ?_
      rw [rounds_succ]
      go_wp2_with (go_at_call 50; refine hn.mono ?_; rintro e w1 ⟨a1, c1, n1, rfl, hz1, hb1⟩; simp only [Bool.not_true] at hz1; have d2 := keepH hb1 hc2)
      rw [rounds_succ]
      have hn2 := hnum_any b w1
      rw [htb] at hn2
      clear hz1
      go_wp2_with (go_at_call 50; refine hn2.mono ?_; rintro e w2 ⟨a2, c2, n2, rfl, hz2, hb2⟩; simp only [Bool.not_true] at hz2)
      rw [rounds_succ]
      go_wp2_with fail
      go_ret
      exact ⟨rfl, hb1.trans (hb2.mono hb1.size)⟩
    | false =>
      go_enter Tryd.func25, Tryd.ntmps25
      go_wp2_with fail
      refine wp_loop_rounds 3 ?_
      rw [rounds_succ]
      go_wp2_with (go_at_call 50; refine hn.mono ?_; rintro e w1 ⟨a1, c1, n1, rfl, hz1, hb1⟩; simp only [Bool.not_true] at hz1; have d2 := keepH hb1 hc2)
      rw [rounds_succ]
      have hn2 := hnum_any b w1
      rw [htb] at hn2
      clear hz1
      go_wp2_with (go_at_call 50; refine hn2.mono ?_; rintro e w2 ⟨a2, c2, n2, rfl, hz2, hb2⟩; simp only [Bool.not_false] at hz2)
      go_ret
      exact ⟨rfl, hb1.trans (hb2.mono hb1.size)⟩
  | false =>
    rw [htm] at hn
    go_enter Tryd.func25, Tryd.ntmps25
    go_wp2_with fail
    refine wp_loop_rounds 3 ?_
    rw [rounds_succ]
    go_wp2_with (go_at_call 50; refine hn.mono ?_; rintro e w1 ⟨a1, c1, n1, rfl, hz1, hb1⟩; simp only [Bool.not_false] at hz1)
    go_ret
    exact ⟨by simp, hb1⟩
#print axioms are2
#print axioms are1
end Go.Proofs.YtefcjggmlhoebaaDoor
namespace Go.Proofs.YtefcjggmlhoebaaDoor
open Go Go.RowKit

def mcl (k r s t m : Int) (f : Bool) (vp : Value) (n : ByteArray) (v l : Int) : Array Value := #[.int .i64 k, .int .i64 r, .int .i64 s, .int .i64 t, .int .i64 m, .bool f, vp, .string n, .int .i64 v, .int .i64 l]
def tickB (t m : Int) : Bool := (decide (t = 0) && decide (m = 0)) || (tmD t && tmD m)
theorem lit_cell0 (w : World) (a b : Value) (t : Nat) : (w.alloc (.cells #[a, b] t)).cell? ⟨w.heap.size, 0, none⟩ = some a := (cell_of_row _ w.heap.size 0 _ t (0, 0) (heap_alloc_new w _)).trans rfl
theorem lit_cell1 (w : World) (a b : Value) (t : Nat) : (w.alloc (.cells #[a, b] t)).cell? ⟨w.heap.size, 1, none⟩ = some b := (cell_of_row _ w.heap.size 1 _ t (0, 0) (heap_alloc_new w _)).trans rfl
theorem lit_are2 {w0 : World} {o : Obj} (a b : Int) (t : Nat) : Calls Tryd.prog 25 #[.slice (some ⟨w0.heap.size + 1, 0, none⟩) 2 2] ((w0.alloc o).alloc (.cells #[.int .i64 a, .int .i64 b] t)) fun e w' => e = .returned (.bool (tmD a && tmD b)) ∧ Below w0.heap.size w0 w' := by
  have hs : (w0.alloc o).heap.size = w0.heap.size + 1 := by simp
  have hB := below_alloc w0 o
  generalize w0.alloc o = w at hs hB
  rw [← hs]
  refine (are2 (lit_cell0 w _ _ t) (lit_cell1 w _ _ t)).mono ?_
  rintro e w' ⟨he, hb⟩
  have h0 := below_alloc w (.cells #[.int .i64 a, .int .i64 b] t)
  exact ⟨he, hB.trans ((h0.trans (hb.mono h0.size)).mono hB.size)⟩
set_option maxRecDepth 20000 in
set_option maxHeartbeats 2000000 in
theorem ticket_any (w : World) (k r s t m : Int) (f : Bool) (vp : Value) (n : ByteArray) (v l : Int) : Calls Tryd.prog 26 #[.agg (mcl k r s t m f vp n v l)] w fun e w' => e = .returned (.bool (tickB t m)) ∧ Below w.heap.size w w' := by
  unfold mcl
  have hB := below_alloc w (.cells #[.int .i64 k, .int .i64 r, .int .i64 s, .int .i64 t, .int .i64 m, .bool f, vp, .string n, .int .i64 v, .int .i64 l] 28)
  have fin : ∀ b, b = tickB t m → ∀ w', Below w.heap.size w w' → (Ending.returned (.bool b) = .returned (.bool (tickB t m)) ∧ Below w.heap.size w w') := fun b e w' hb => by rw [e]; exact ⟨rfl, hb⟩
  by_cases ht : t = 0
  · subst ht
    by_cases hm : m = 0
    · subst hm
      have fin' := fin true (by simp [tickB])
      clear fin
      go_enter Tryd.func26, Tryd.ntmps26
      go_wp2_with fail
      go_ret
      exact fin' _ hB
    · have m0 : (m == 0) = false := by simp [hm]
      have fin' := fin (tmD 0 && tmD m) (by simp [tickB, hm])
      clear fin
      go_enter Tryd.func26, Tryd.ntmps26
      go_wp2_with (go_at_call 25; refine (lit_are2 _ _ _).mono ?_; rintro e w1 ⟨rfl, hb1⟩)
      go_ret
      exact fin' _ hb1
  · have t0 : (t == 0) = false := by simp [ht]
    have fin' := fin (tmD t && tmD m) (by simp [tickB, ht])
    clear fin
    go_enter Tryd.func26, Tryd.ntmps26
    go_wp2_with (go_at_call 25; refine (lit_are2 _ _ _).mono ?_; rintro e w1 ⟨rfl, hb1⟩)
    go_ret
    exact fin' _ hb1
#print axioms ticket_any
end Go.Proofs.YtefcjggmlhoebaaDoor
namespace Go.Proofs.YtefcjggmlhoebaaDoor
open Go Go.RowKit

def bareB (r s t m : Int) (f : Bool) (pl : Nat) (n : ByteArray) (v l : Int) : Bool :=
  decide (r = 0) && decide (s = 0) && decide (t = 0) && decide (m = 0) && !f && decide (pl = 0) && decide (n.toList = []) && decide (v = 0) && decide (l = 0)
set_option maxRecDepth 20000 in
set_option maxHeartbeats 2000000 in
theorem bare_any (w : World) (k r s t m : Int) (f : Bool) (a : Option Addr) (pl c : Nat) (n : ByteArray) (v l : Int) : Calls Tryd.prog 30 #[.agg (mcl k r s t m f (.slice a pl c) n v l)] w fun e w' => e = .returned (.bool (bareB r s t m f pl n v l)) ∧ Below w.heap.size w w' := by
  unfold mcl
  have hB := below_alloc w (.cells #[.int .i64 k, .int .i64 r, .int .i64 s, .int .i64 t, .int .i64 m, .bool f, .slice a pl c, .string n, .int .i64 v, .int .i64 l] 28)
  have fin : ∀ b, b = bareB r s t m f pl n v l → ∀ w', Below w.heap.size w w' → (Ending.returned (.bool b) = .returned (.bool (bareB r s t m f pl n v l)) ∧ Below w.heap.size w w') := fun b e w' hb => by rw [e]; exact ⟨rfl, hb⟩
  by_cases hr : r = 0
  case neg =>
    have r0 : (r == 0) = false := by simp [hr]
    have fin' := fin false (by simp [bareB, hr])
    clear fin
    go_enter Tryd.func30, Tryd.ntmps30
    go_wp2_with fail
    go_ret
    exact fin' _ hB
  subst hr
  by_cases hs : s = 0
  case neg =>
    have r0 : (s == 0) = false := by simp [hs]
    have fin' := fin false (by simp [bareB, hs])
    clear fin
    go_enter Tryd.func30, Tryd.ntmps30
    go_wp2_with fail
    go_ret
    exact fin' _ hB
  subst hs
  by_cases ht : t = 0
  case neg =>
    have r0 : (t == 0) = false := by simp [ht]
    have fin' := fin false (by simp [bareB, ht])
    clear fin
    go_enter Tryd.func30, Tryd.ntmps30
    go_wp2_with fail
    go_ret
    exact fin' _ hB
  subst ht
  by_cases hm : m = 0
  case neg =>
    have r0 : (m == 0) = false := by simp [hm]
    have fin' := fin false (by simp [bareB, hm])
    clear fin
    go_enter Tryd.func30, Tryd.ntmps30
    go_wp2_with fail
    go_ret
    exact fin' _ hB
  subst hm
  cases f with
  | true =>
    have fin' := fin false (by simp [bareB])
    clear fin
    go_enter Tryd.func30, Tryd.ntmps30
    go_wp2_with fail
    go_ret
    exact fin' _ hB
  | false =>
  by_cases hp : pl = 0
  case neg =>
    have r0 : ((pl : Int) == 0) = false := by simp [hp]
    have fin' := fin false (by simp [bareB, hp])
    clear fin
    go_enter Tryd.func30, Tryd.ntmps30
    go_wp2_with fail
    go_ret
    exact fin' _ hB
  subst hp
  by_cases hn : n.toList = []
  case neg =>
    have he : n.toList.isEmpty = false := by simp [hn]
    have fin' := fin false (by simp [bareB, hn])
    clear fin
    go_enter Tryd.func30, Tryd.ntmps30
    go_wp2_with fail
    go_ret
    exact fin' _ hB
  have he : n.toList.isEmpty = true := by simp [hn]
  by_cases hv : v = 0
  case neg =>
    have r0 : (v == 0) = false := by simp [hv]
    have fin' := fin false (by simp [bareB, hv, hn])
    clear fin
    go_enter Tryd.func30, Tryd.ntmps30
    go_wp2_with fail
    go_ret
    exact fin' _ hB
  subst hv
  have fin' := fin (l == 0) (by simp [bareB, hn]; rfl)
  clear fin
  go_enter Tryd.func30, Tryd.ntmps30
  go_wp2_with fail
  go_ret
  exact fin' _ hB
#print axioms bare_any
end Go.Proofs.YtefcjggmlhoebaaDoor
namespace Go.Proofs.YtefcjggmlhoebaaDoor
open Go Go.RowKit

theorem flag_any (w : World) (f : Bool) : Calls Tryd.prog 52 #[.bool f] w fun e w' => e = .returned (.int .u8 (flB f)) ∧ w = w' := by
  cases f
  · go_enter Tryd.func52, Tryd.ntmps52
    go_wp2_with fail
    go_ret
    exact ⟨rfl, rfl⟩
  · go_enter Tryd.func52, Tryd.ntmps52
    go_wp2_with fail
    go_ret
    exact ⟨rfl, rfl⟩
/-- What params.Read tells: ten cells, and 0 where the bytes are right. -/
def PrPost (b : Bool) (w : World) (e : Ending) (w' : World) : Prop :=
  ∃ (x0 x1 : Int) (y2 y3 y4 : Bool) (a5 : Option Addr) (n5 k5 : Nat) (a6 : Option Addr) (n6 k6 : Nat) (a7 : Option Addr) (n7 k7 : Nat) (x8 : Int) (a9 : Option Addr) (n9 k9 : Nat) (k : Int), e = .returned (.tuple #[.agg #[.int .i64 x0, .int .i64 x1, .bool y2, .bool y3, .bool y4, .slice a5 n5 k5, .slice a6 n6 k6, .slice a7 n7 k7, .int .i64 x8, .slice a9 n9 k9], .int .i64 k]) ∧ (k == 0) = b ∧ Below w.heap.size w w'
set_option maxRecDepth 20000 in
set_option maxHeartbeats 2000000 in
theorem rparams_any (w : World) (v : Value) (b : Bool) (h : Calls Tryd.prog 56 #[v] w (PrPost b w)) : Calls Tryd.prog 27 #[v] w fun e w' => e = .returned (.bool b) ∧ Below w.heap.size w w' := by
  go_enter Tryd.func27, Tryd.ntmps27
  go_wp2_with (go_at_call 56; refine h.mono ?_; rintro e w1 ⟨x0, x1, y2, y3, y4, a5, n5, k5, a6, n6, k6, a7, n7, k7, x8, a9, n9, k9, k, rfl, hk, hb1⟩)
  go_ret
  exact ⟨rfl, hb1.trans ((below_alloc _ _).mono hb1.size)⟩
#print axioms rparams_any
end Go.Proofs.YtefcjggmlhoebaaDoor
namespace Go.Proofs.YtefcjggmlhoebaaDoor
open Go Go.RowKit

theorem litg2 {w : World} {g : Nat} (hg : g = w.heap.size) (a b : Int) (t : Nat) : Calls Tryd.prog 25 #[.slice (some ⟨g, 0, none⟩) 2 2] (w.alloc (.cells #[.int .i64 a, .int .i64 b] t)) fun e w' => e = .returned (.bool (tmD a && tmD b)) ∧ Below w.heap.size w w' := by
  subst hg
  refine (are2 (lit_cell0 w _ _ t) (lit_cell1 w _ _ t)).mono ?_
  rintro e w' ⟨he, hb⟩
  have h0 := below_alloc w (.cells #[.int .i64 a, .int .i64 b] t)
  exact ⟨he, h0.trans (hb.mono h0.size)⟩
theorem litg1 {w : World} {g : Nat} (hg : g = w.heap.size) (a : Int) (t : Nat) : Calls Tryd.prog 25 #[.slice (some ⟨g, 0, none⟩) 1 1] (w.alloc (.cells #[.int .i64 a] t)) fun e w' => e = .returned (.bool (tmD a)) ∧ Below w.heap.size w w' := by
  subst hg
  refine (are1 ((cell_of_row _ w.heap.size 0 _ t (0, 0) (heap_alloc_new w _)).trans rfl)).mono ?_
  rintro e w' ⟨he, hb⟩
  have h0 := below_alloc w (.cells #[.int .i64 a] t)
  exact ⟨he, h0.trans (hb.mono h0.size)⟩
#print axioms litg2
#print axioms litg1
end Go.Proofs.YtefcjggmlhoebaaDoor
