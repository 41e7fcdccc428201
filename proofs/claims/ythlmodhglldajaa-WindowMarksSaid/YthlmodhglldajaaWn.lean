/- The program's window in memory: Greatest and Fresh. -/
import Derived.Test.YthlmodhglldajaaKit
import Derived.Test.YthlmodhglldajaaWnPure
import Derived.Test.YthlmodhglldajaaChecked
import Derived.Deep.RegionHeld3
import Derived.Deep.RegionWith
import Derived.Outline
import Derived.Laws.BitsAllLaws
namespace Go.Proofs.Ythlmodhglldajaa
open Go Go.RowKit

/-- Nothing but the block B has changed of what was there. -/
structure But (B : Nat) (w w' : World) : Prop where
  os : w'.os = w.os
  tape : w'.tape = w.tape
  output : w'.output = w.output
  size : w.heap.size ≤ w'.heap.size
  block : ∀ k, k < w.heap.size → k ≠ B → w'.heap[k]? = w.heap[k]?
theorem But.refl (B : Nat) (w : World) : But B w w := ⟨rfl, rfl, rfl, Nat.le_refl _, fun _ _ _ => rfl⟩
theorem But.trans {B : Nat} {a b c : World} (h : But B a b) (k : But B b c) : But B a c :=
  ⟨k.os.trans h.os, k.tape.trans h.tape, k.output.trans h.output, Nat.le_trans h.size k.size, fun i hi hn => (k.block i (Nat.lt_of_lt_of_le hi h.size) hn).trans (h.block i hi hn)⟩
theorem But.below {B : Nat} {base : Nat} {w0 w w' : World} (h : But B w w') (hb : Below base w0 w) (hB : base ≤ B) (hs : base ≤ w.heap.size) : Below base w0 w' :=
  ⟨h.os.trans hb.os, h.tape.trans hb.tape, h.output.trans hb.output, Nat.le_trans hb.size h.size, fun k hk => (h.block k (Nat.lt_of_lt_of_le hk hs) (by omega)).trans (hb.block k hk)⟩
theorem But.set (w : World) (B i : Nat) (v : Value) : But B w (w.setCell ⟨B, i, none⟩ v) :=
  ⟨rfl, rfl, rfl, by simp [World.setCell], fun k _ hn => Below.heap_setCell _ _ _ _ hn⟩
theorem But.drew {B : Nat} {w w' : World} (h : But B w w') : But B w w'.drew := ⟨h.os, h.tape, h.output, h.size, h.block⟩
theorem But.drewN {B : Nat} {w : World} : ∀ n, But B w (w.drewN n)
  | 0 => But.refl _ _
  | n + 1 => (But.drewN n).drew

/-- The window in block B: L is marked. -/
structure Wn (w : World) (B : Nat) (L : List Int) (m : Nat) : Prop where
  ok : Ok L
  bits : Bits m L
  box : w.heap[B]? = some (.cells #[.int .i64 (gr L + 1), .int .u64 m] 33 (0, 0))
theorem Wn.cells {w : World} {B : Nat} {L : List Int} {m : Nat} (h : Wn w B L m) : w.cell? ⟨B, 0, none⟩ = some (.int .i64 (gr L + 1)) ∧ w.cell? ⟨B, 1, none⟩ = some (.int .u64 m) ∧ ∀ j, w.frozen? ⟨B, j, none⟩ = false :=
  ⟨(cell_of_row _ B 0 _ _ (0, 0) h.box).trans rfl, (cell_of_row _ B 1 _ _ (0, 0) h.box).trans rfl, fun j => by simp [World.frozen?, h.box]⟩
theorem Wn.lt {w : World} {B : Nat} {L : List Int} {m : Nat} (h : Wn w B L m) : B < w.heap.size := blk_lt h.box
theorem Wn.keep {w w' : World} {B : Nat} {L : List Int} {m : Nat} (h : Wn w B L m) (hb : w'.heap[B]? = w.heap[B]?) : Wn w' B L m := ⟨h.ok, h.bits, by rw [hb]; exact h.box⟩

theorem ret_bl {a b : Bool} (h : a = b) : Ending.returned (.bool a) = .returned (.bool b) := by rw [h]
theorem grt_of {w : World} {B : Nat} {g : Int} (c0 : w.cell? ⟨B, 0, none⟩ = some (.int .i64 (g + 1))) (h0 : -1 ≤ g) (h1 : g ≤ 4611686018427387903) : Calls Try.prog 23 #[.pointer (some ⟨B, 0, none⟩)] w fun e w' => e = .returned (.int .i64 g) ∧ w = w' := by
  go_enter Try.func23, Try.ntmps23
  go_wp2_with fail
  go_ret
  exact ⟨rfl, rfl⟩
theorem grt_any {w : World} {B : Nat} {L : List Int} {m : Nat} (h : Wn w B L m) : Calls Try.prog 23 #[.pointer (some ⟨B, 0, none⟩)] w fun e w' => e = .returned (.int .i64 (gr L)) ∧ w = w' :=
  grt_of h.cells.1 h.ok.gr.1 h.ok.gr.2
theorem grt_nil (w : World) : Calls Try.prog 23 #[.pointer none] w fun e w' => e = .returned (.int .i64 (-1)) ∧ w = w' := by
  go_enter Try.func23, Try.ntmps23
  go_wp2_with fail
  go_ret
  exact ⟨rfl, rfl⟩
theorem fresh_nil (n : Int) (w : World) : Calls Try.prog 19 #[.pointer none, .int .i64 n] w fun e w' => e = .returned (.bool false) ∧ w = w' := by
  go_enter Try.func19, Try.ntmps19
  go_wp2_with fail
  go_ret
  exact ⟨rfl, rfl⟩
theorem fresh_any {w : World} {B : Nat} {L : List Int} {m : Nat} (h : Wn w B L m) (n : Int) : Calls Try.prog 19 #[.pointer (some ⟨B, 0, none⟩), .int .i64 n] w fun e w' => e = .returned (.bool (frB L n)) ∧ w = w' := by
  have hgr := grt_any h
  obtain ⟨_, c1, _⟩ := h.cells
  have hg := h.ok.gr
  have hB := Lib.hid h.bits
  clear h
  by_cases h0 : n < 0
  · have e : frB L n = false := frB_none (Or.inl h0)
    rw [e]; clear e
    go_enter Try.func19, Try.ntmps19
    go_wp2_with fail
    go_ret
    exact ⟨rfl, rfl⟩
  by_cases h1 : 4611686018427387903 < n
  · have e : frB L n = false := frB_none (Or.inr h1)
    rw [e]; clear e
    go_enter Try.func19, Try.ntmps19
    go_wp2_with fail
    go_ret
    exact ⟨rfl, rfl⟩
  by_cases h2 : gr L - n < 0
  · have e : frB L n = true := frB_above (by omega) (by omega) (by omega)
    rw [e]; clear e
    generalize gr L = G at *
    go_enter Try.func19, Try.ntmps19
    go_wp2_with (go_at_call 23; refine hgr.mono ?_; rintro e w' ⟨rfl, rfl⟩)
    go_ret
    exact ⟨rfl, rfl⟩
  obtain ⟨k, hk⟩ : ∃ k : Nat, gr L - n = k := ⟨(gr L - n).toNat, by omega⟩
  rw [frB_back hB.out (by omega) (by omega) hk]
  by_cases h3 : k < 64
  · have hm : min k 64 = k := by omega
    have hb := bit_at m k
    have hp : (m : Int) / 2 ^ k = ((m / 2 ^ k : Nat) : Int) := by simp
    have hlt : m / 2 ^ k < 18446744073709551616 := Nat.lt_of_le_of_lt (Nat.div_le_self _ _) hB.out.1
    have ha : bits BinOp.and IntKind.u64 ((m : Int) / 2 ^ k) 1 = ((if m.testBit k = true then 1 else 0 : Nat) : Int) := by
      have := u64_and_nat (m / 2 ^ k) 1 hlt (by decide)
      rw [hb, ← hp] at this
      exact this
    have hlt' : (k : Int) < 64 := by omega
    rw [show (decide (k < 64) && !m.testBit k) = !m.testBit k by simp [h3]]
    clear hp hlt hb hB h2
    cases ht : m.testBit k with
    | true =>
      rw [ht] at ha
      clear ht
      go_enter Try.func19, Try.ntmps19
      go_wp2_with (go_at_call 23; refine hgr.mono ?_; rintro e w' ⟨rfl, rfl⟩)
      go_ret
      exact ⟨rfl, rfl⟩
    | false =>
      rw [ht] at ha
      clear ht
      go_enter Try.func19, Try.ntmps19
      go_wp2_with (go_at_call 23; refine hgr.mono ?_; rintro e w' ⟨rfl, rfl⟩)
      go_ret
      exact ⟨rfl, rfl⟩
  · rw [decide_eq_false h3, Bool.false_and]
    have h3' : 64 ≤ (k : Int) := by omega
    clear h2 h3 hB c1
    go_enter Try.func19, Try.ntmps19
    go_wp2_with (go_at_call 23; refine hgr.mono ?_; rintro e w' ⟨rfl, rfl⟩)
    go_ret
    exact ⟨rfl, rfl⟩

theorem mark_no {w : World} {B : Nat} {L : List Int} {m : Nat} (h : Wn w B L m) (n : Int) (hf : frB L n = false) : Calls Try.prog 21 #[.pointer (some ⟨B, 0, none⟩), .int .i64 n] w fun e w' => e = .returned (.bool false) ∧ w = w' := by
  have hfr := fresh_any h n
  rw [hf] at hfr
  clear h hf
  go_enter Try.func21, Try.ntmps21
  go_wp2_with (go_at_call 19; refine hfr.mono ?_; rintro e w' ⟨rfl, rfl⟩)
  go_ret
  exact ⟨rfl, rfl⟩
theorem mark_nil (n : Int) (w : World) : Calls Try.prog 21 #[.pointer none, .int .i64 n] w fun e w' => e = .returned (.bool false) ∧ w = w' := by
  have hfr := fresh_nil n w
  go_enter Try.func21, Try.ntmps21
  go_wp2_with (go_at_call 19; refine hfr.mono ?_; rintro e w' ⟨rfl, rfl⟩)
  go_ret
  exact ⟨rfl, rfl⟩
/-- What a mark leaves. -/
def Mk (w : World) (B : Nat) (L : List Int) (n : Int) (w' : World) : Prop := ∃ m', Wn w' B (L ++ [n]) m' ∧ But B w w'
theorem set_one {w : World} {B : Nat} {T : TypeId} {a b : Value} (h : w.heap[B]? = some (.cells #[a, b] T (0, 0))) (x : Value) : (w.setCell ⟨B, 1, none⟩ x).heap[B]? = some (.cells #[a, x] T (0, 0)) := by
  have e := heap_setCell_same w B 1 _ T x h
  simpa using e
theorem set_zero {w : World} {B : Nat} {T : TypeId} {a b : Value} (h : w.heap[B]? = some (.cells #[a, b] T (0, 0))) (x : Value) : (w.setCell ⟨B, 0, none⟩ x).heap[B]? = some (.cells #[x, b] T (0, 0)) := by
  have e := heap_setCell_same w B 0 _ T x h
  simpa using e
theorem mk_low {w : World} {B : Nat} {L : List Int} {m k : Nat} {n : Int} (ho : Ok (L ++ [n])) (hb : Bits (m ||| 2 ^ k) (L ++ [n])) (hg : gr (L ++ [n]) = gr L) (hx : w.heap[B]? = some (.cells #[.int .i64 (gr L + 1), .int .u64 m] 33 (0, 0)))
    (e : bits BinOp.or IntKind.u64 (m : Int) ((2 ^ k : Nat) : Int) = ((m ||| 2 ^ k : Nat) : Int)) : Mk w B L n (w.setCell ⟨B, 1, none⟩ (.int .u64 (bits BinOp.or IntKind.u64 (m : Int) (2 ^ k)))).drew := by
  have e2 : (2 : Int) ^ k = ((2 ^ k : Nat) : Int) := by simp
  rw [e2, e]
  refine ⟨_, ⟨ho, hb, ?_⟩, (But.set _ _ _ _).drew⟩
  rw [hg]
  exact set_one hx _
theorem mk_high {w : World} {B : Nat} {L : List Int} {m M : Nat} {n : Int} (ho : Ok (L ++ [n])) (hb : Bits (M ||| 1) (L ++ [n])) (hg : gr (L ++ [n]) = n) (hx : w.heap[B]? = some (.cells #[.int .i64 (gr L + 1), .int .u64 m] 33 (0, 0)))
    (e : bits BinOp.or IntKind.u64 (M : Int) ((1 : Nat) : Int) = ((M ||| 1 : Nat) : Int)) : Mk w B L n (((w.setCell ⟨B, 1, none⟩ (.int .u64 M)).setCell ⟨B, 0, none⟩ (.int .i64 (n + 1))).setCell ⟨B, 1, none⟩ (.int .u64 (bits BinOp.or IntKind.u64 (M : Int) 1))).drew := by
  rw [show (1 : Int) = ((1 : Nat) : Int) from rfl, e]
  refine ⟨_, ⟨ho, hb, ?_⟩, ((But.set _ _ _ _).trans ((But.set _ _ _ _).trans (But.set _ _ _ _))).drew⟩
  rw [hg]
  exact set_one (set_zero (set_one hx _) _) _
set_option maxHeartbeats 1000000 in
theorem mark_low {w : World} {B : Nat} {L : List Int} {m : Nat} (h : Wn w B L m) (n : Int) (hf : frB L n = true) (hn : n ≤ gr L) : Calls Try.prog 21 #[.pointer (some ⟨B, 0, none⟩), .int .i64 n] w fun e w' => e = .returned (.bool true) ∧ Mk w B L n w' := by
  have hfr := fresh_any h n
  rw [hf] at hfr
  have hi := (frB_iff L n).1 hf
  have hgr := grt_any h
  have hgr1 := grt_any (w := w.drew) (h.keep rfl)
  obtain ⟨c0, c1, cf⟩ := h.cells
  have hg := h.ok.gr
  obtain ⟨k, hk⟩ : ∃ k : Nat, gr L - n = k := ⟨(gr L - n).toNat, by omega⟩
  have hk64 : k < 64 := by omega
  have hm : min k 64 = k := by omega
  have h2 : 2 ^ k < 18446744073709551616 := by
    have := Nat.pow_lt_pow_of_lt (a := 2) (by decide) hk64
    simpa using this
  have hw : IntKind.u64.wrap (2 ^ k) = ((2 ^ k : Nat) : Int) := by
    rw [IntKind.wrap_u64]
    have : (2 : Int) ^ k = ((2 ^ k : Nat) : Int) := by simp
    rw [this]
    exact Int.emod_eq_of_lt (Int.natCast_nonneg _) (Int.ofNat_lt.2 h2)
  have ho := u64_or_nat m (2 ^ k) h.bits.1 h2
  have hO : Hid (bits BinOp.or IntKind.u64 (m : Int) ((2 ^ k : Nat) : Int) = ((m ||| 2 ^ k : Nat) : Int)) := Lib.hid ho
  clear ho
  have hwk : IntKind.i64.wrap (k : Int) = k := IntWalk.i64_in _ (by omega)
  have HB := Lib.hid (h.bits.low hk64 hk)
  have HO : Hid (Ok (L ++ [n])) := Lib.hid (by have := h.ok.mk n; rw [mk_yes hf] at this; exact this)
  have HG : Hid (gr (L ++ [n]) = gr L) := Lib.hid (by rw [gr_app]; omega)
  have HX := Lib.hid h.box
  have cf0 := cf 0
  have cf1 := cf 1
  clear cf hi hf h h2
  go_enter Try.func21, Try.ntmps21
  go_wp2_with (first | (go_at_call 19; refine hfr.mono ?_; rintro e w' ⟨rfl, rfl⟩) | (go_at_call 23; refine hgr.mono ?_; rintro e w' ⟨rfl, rfl⟩))
  go_region_with (go_at_call 23; refine hgr1.mono ?_; rintro e w' ⟨rfl, rfl⟩)
  all_goals try go_wp2
  all_goals go_ret
  all_goals exact ⟨rfl, mk_low HO.out HB.out HG.out HX.out hO.out⟩

set_option maxHeartbeats 1000000 in
theorem mark_high {w : World} {B : Nat} {L : List Int} {m : Nat} (h : Wn w B L m) (n : Int) (hf : frB L n = true) (hn : gr L < n) : Calls Try.prog 21 #[.pointer (some ⟨B, 0, none⟩), .int .i64 n] w fun e w' => e = .returned (.bool true) ∧ Mk w B L n w' := by
  have hfr := fresh_any h n
  rw [hf] at hfr
  have hi := (frB_iff L n).1 hf
  have hgr := grt_any h
  obtain ⟨c0, c1, cf⟩ := h.cells
  have hg := h.ok.gr
  obtain ⟨k, hk⟩ : ∃ k : Nat, n - gr L = k := ⟨(n - gr L).toNat, by omega⟩
  have hk0 : 0 < k := by omega
  have hk0' : (0 : Int) < (k : Int) := by omega
  obtain ⟨M, hM⟩ : ∃ M : Nat, (m * 2 ^ min k 64) % 18446744073709551616 = M := ⟨_, rfl⟩
  have hMlt : M < 18446744073709551616 := by rw [← hM]; exact Nat.mod_lt _ (by decide)
  have hw : IntKind.u64.wrap ((m : Int) * 2 ^ min k 64) = (M : Int) := by
    rw [IntKind.wrap_u64]
    have e2 : (m : Int) * 2 ^ min k 64 = ((m * 2 ^ min k 64 : Nat) : Int) := by simp
    rw [e2, ← hM]
    rfl
  have HB := Lib.hid (h.bits.high hk0 hk)
  rw [hM] at HB
  clear hM
  have hO : Hid (bits BinOp.or IntKind.u64 (M : Int) ((1 : Nat) : Int) = ((M ||| 1 : Nat) : Int)) := Lib.hid (u64_or_nat M 1 hMlt (by decide))
  have HO : Hid (Ok (L ++ [n])) := Lib.hid (by have := h.ok.mk n; rw [mk_yes hf] at this; exact this)
  have HG : Hid (gr (L ++ [n]) = n) := Lib.hid (by rw [gr_app]; omega)
  have HX := Lib.hid h.box
  have cf0 := cf 0
  have cf1 := cf 1
  have hgr1 : Calls Try.prog 23 #[.pointer (some ⟨B, 0, none⟩)] ((w.setCell ⟨B, 1, none⟩ (.int .u64 M)).setCell ⟨B, 0, none⟩ (.int .i64 (n + 1))).drew fun e w' => e = .returned (.int .i64 n) ∧ ((w.setCell ⟨B, 1, none⟩ (.int .u64 M)).setCell ⟨B, 0, none⟩ (.int .i64 (n + 1))).drew = w' := by
    refine grt_of ?_ (by omega) (by omega)
    exact (cell_of_row _ B 0 _ 33 (0, 0) (set_zero (set_one HX.out _) _)).trans rfl
  have hw0 : IntKind.i64.wrap (n - n) = 0 := by rw [Int.sub_self]; decide
  have hw1 : IntKind.i64.wrap 0 = 0 := by decide
  clear cf hf h hk0 hMlt
  go_enter Try.func21, Try.ntmps21
  go_wp2_with (first | (go_at_call 19; refine hfr.mono ?_; rintro e w' ⟨rfl, rfl⟩) | (go_at_call 23; refine hgr.mono ?_; rintro e w' ⟨rfl, rfl⟩))
  go_region_with (go_at_call 23; refine hgr1.mono ?_; rintro e w' ⟨rfl, rfl⟩)
  all_goals try go_wp2
  all_goals go_ret
  all_goals exact ⟨rfl, mk_high HO.out HB.out HG.out HX.out hO.out⟩
end Go.Proofs.Ythlmodhglldajaa
