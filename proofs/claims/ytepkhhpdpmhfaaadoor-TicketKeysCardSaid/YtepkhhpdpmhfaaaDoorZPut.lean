/- The function put writes a number's bytes into the end of a row, and nothing else. -/
import Derived.Test.YtepkhhpdpmhfaaaDoorZKit
import Derived.Test.YtepkhhpdpmhfaaaDoorChecked
import Derived.Outline
import Derived.Laws.BitsAllLaws
import Derived.Deep.RegionWith
import Derived.StillTailTactics
import Derived.RegionTactic
import Derived.BigRegion
namespace Go.Proofs.YtepkhhpdpmhfaaaDoor
open Go Go.RowKit

/-- The four cells of the library's table that are read. -/
def Tab (w : World) : Prop := w.cell? ⟨1, 0, none⟩ = some (.int .u8 0) ∧ w.cell? ⟨1, 1, none⟩ = some (.int .u8 1) ∧ w.cell? ⟨1, 3, none⟩ = some (.int .u8 2) ∧ w.cell? ⟨1, 7, none⟩ = some (.int .u8 3)
theorem Tab.below {w w' : World} (h : Tab w) (hb : Below w.heap.size w w') : Tab w' := by
  obtain ⟨h0, h1, h2, h3⟩ := h
  refine ⟨?_, ?_, ?_, ?_⟩
  · rw [hb.cell (cell_lt h0)]; exact h0
  · rw [hb.cell (cell_lt h1)]; exact h1
  · rw [hb.cell (cell_lt h2)]; exact h2
  · rw [hb.cell (cell_lt h3)]; exact h3

set_option maxRecDepth 20000 in
set_option maxHeartbeats 400000 in
theorem tz_1 {w : World} (h : Tab w) : Calls Tryd.prog 58 #[.int .u64 1] w fun e w' => e = .returned (.int .i64 0) ∧ w = w' := by
  obtain ⟨h0, h1, h2, h3⟩ := h
  have e1 : bits BinOp.and IntKind.u64 1 (IntKind.u64.wrap (-1)) = 1 := by kernel_rfl
  have e2 : IntKind.u64.wrap 285870213051353865 = 285870213051353865 := by kernel_rfl
  go_enter Tryd.func58, Tryd.ntmps58
  go_wp2
  go_ret
  exact ⟨rfl, rfl⟩
set_option maxRecDepth 20000 in
set_option maxHeartbeats 400000 in
theorem tz_2 {w : World} (h : Tab w) : Calls Tryd.prog 58 #[.int .u64 2] w fun e w' => e = .returned (.int .i64 1) ∧ w = w' := by
  obtain ⟨h0, h1, h2, h3⟩ := h
  have e1 : bits BinOp.and IntKind.u64 2 (IntKind.u64.wrap (-2)) = 2 := by kernel_rfl
  have e2 : IntKind.u64.wrap 571740426102707730 = 571740426102707730 := by kernel_rfl
  go_enter Tryd.func58, Tryd.ntmps58
  go_wp2
  go_ret
  exact ⟨rfl, rfl⟩
set_option maxRecDepth 20000 in
set_option maxHeartbeats 400000 in
theorem tz_4 {w : World} (h : Tab w) : Calls Tryd.prog 58 #[.int .u64 4] w fun e w' => e = .returned (.int .i64 2) ∧ w = w' := by
  obtain ⟨h0, h1, h2, h3⟩ := h
  have e1 : bits BinOp.and IntKind.u64 4 (IntKind.u64.wrap (-4)) = 4 := by kernel_rfl
  have e2 : IntKind.u64.wrap 1143480852205415460 = 1143480852205415460 := by kernel_rfl
  go_enter Tryd.func58, Tryd.ntmps58
  go_wp2
  go_ret
  exact ⟨rfl, rfl⟩
set_option maxRecDepth 20000 in
set_option maxHeartbeats 400000 in
theorem tz_8 {w : World} (h : Tab w) : Calls Tryd.prog 58 #[.int .u64 8] w fun e w' => e = .returned (.int .i64 3) ∧ w = w' := by
  obtain ⟨h0, h1, h2, h3⟩ := h
  have e1 : bits BinOp.and IntKind.u64 8 (IntKind.u64.wrap (-8)) = 8 := by kernel_rfl
  have e2 : IntKind.u64.wrap 2286961704410830920 = 2286961704410830920 := by kernel_rfl
  go_enter Tryd.func58, Tryd.ntmps58
  go_wp2
  go_ret
  exact ⟨rfl, rfl⟩
#print axioms tz_8
end Go.Proofs.YtepkhhpdpmhfaaaDoor
namespace Go.Proofs.YtepkhhpdpmhfaaaDoor
open Go Go.RowKit

/-- The last j bytes of n, the greatest first. -/
def tl : Nat → Int → List Int
  | 0, _ => []
  | j + 1, n => (n / 256 ^ j) % 256 :: tl j n
theorem tl_len (j : Nat) (n : Int) : (tl j n).length = j := by induction j with | zero => rfl | succ j ih => simp [tl, ih]

/-- The logarithm of a size. -/
def lg (k : Nat) : Int := if k = 2 then 1 else if k = 4 then 2 else if k = 8 then 3 else 0
/-- The bytes of n in k bytes: in the first one's highest bits stands the logarithm of k. -/
def bts (k : Nat) (n : Int) : List Int := match tl k n with
  | [] => []
  | x :: r => (x + 64 * lg k) :: r
theorem bts_len (k : Nat) (n : Int) : (bts k n).length = k := by
  have := tl_len k n
  unfold bts
  split
  · simp_all
  · simp_all

theorem or_u8 (x c : Int) (hx : 0 ≤ x) (h : x < 64) (hc : c = 0 ∨ c = 64 ∨ c = 128 ∨ c = 192) : bits BinOp.or IntKind.u8 x c = x + c := by
  obtain ⟨m, rfl⟩ := Int.eq_ofNat_of_zero_le hx
  have hm : m < 64 := by omega
  have H : ∀ c ∈ [(0 : Int), 64, 128, 192], ∀ m : Fin 64, bits BinOp.or IntKind.u8 ((m.val : Nat) : Int) c = ((m.val : Nat) : Int) + c := by decide +kernel
  exact H c (by simp; omega) ⟨m, hm⟩

theorem set_tail (L : List Value) (p : Nat) (T : List Value) (x : Value) (h : p < L.length) : (L.take (p + 1) ++ T).set p x = L.take p ++ x :: T := by
  have e : L.take (p + 1) = L.take p ++ [L[p]] := by rw [List.take_succ_eq_append_getElem h]
  have hl : (L.take p).length = p := by simp; omega
  rw [e, List.append_assoc, List.set_append_right _ _ (by omega), hl, Nat.sub_self]
  rfl
theorem div_pow (n : Int) (j : Nat) : n / 256 ^ j / 256 = n / 256 ^ (j + 1) := by
  rw [Int.pow_succ, Int.ediv_ediv_of_nonneg (Int.le_of_lt (Int.pow_pos (by decide)))]
#print axioms or_u8
end Go.Proofs.YtepkhhpdpmhfaaaDoor
namespace Go.Proofs.YtepkhhpdpmhfaaaDoor
open Go Go.RowKit

theorem Tab.drew {w : World} (h : Tab w) : Tab w.drew := h

theorem put_step {w0 wr : World} {g p k j m : Nat} {n : Int} {L : List Value} (hL : L.length = p + k) (hm : m < k) (hh : wr.heap[g]? = some (.cells (L.take (p + (m + 1)) ++ by8 (tl j n)).toArray 5 (0, 0))) (hb : Below g w0 wr) {x : Int} (hx : x = (n / 256 ^ j) % 256) :
    (wr.setCell ⟨g, p + m, none⟩ (.int .u8 x)).heap[g]? = some (.cells (L.take (p + m) ++ by8 (tl (j + 1) n)).toArray 5 (0, 0)) ∧ Below g w0 (wr.setCell ⟨g, p + m, none⟩ (.int .u8 x)) := by
  refine ⟨?_, hb.setCell (Nat.le_refl _) _⟩
  rw [heap_setCell_same wr g (p + m) _ 5 _ hh]
  subst hx
  have := set_tail L (p + m) (by8 (tl j n)) (.int .u8 ((n / 256 ^ j) % 256)) (by omega)
  simp only [List.setIfInBounds_toArray]
  rw [show p + (m + 1) = p + m + 1 from by omega, this]
  rfl

set_option maxRecDepth 20000 in
set_option maxHeartbeats 800000 in
theorem put_any {w : World} {g p k : Nat} {L : List Value} {n : Int} (hk : k = 1 ∨ k = 2 ∨ k = 4 ∨ k = 8) (hL : L.length = p + k) (hg : w.heap[g]? = some (.cells L.toArray 5 (0, 0))) (h1 : 1 < g) (ht : Tab w)
    (hn0 : 0 ≤ n) (hn1 : n < 64 * 256 ^ (k - 1)) (hm : p + k ≤ 140737488355328) :
    Calls Tryd.prog 47 #[.slice (some ⟨g, p, none⟩) k k, .int .i64 n] w fun e w' => e = .returned (.tuple #[]) ∧ w'.heap[g]? = some (.cells (L.take p ++ by8 (bts k n)).toArray 5 (0, 0)) ∧ Below g w w' := by
  have hk1 : 1 ≤ k := by omega
  have hk8 : k ≤ 8 := by omega
  have HG := Lib.hid hg
  have HL := Lib.hid hL
  have HK := Lib.hid hk
  have HN1 := Lib.hid hn1
  clear hg hL hk hn1
  go_enter Tryd.func47, Tryd.ntmps47
  go_wp2
  go_loopw [1, 4] (fun nn i wr => ∃ (m j : Nat) (i0 : Int), Hid (m + j = k) ∧ Hid (i0 = (m : Int) - 1) ∧ i = .int .i64 i0 ∧ nn = .int .i64 (n / 256 ^ j) ∧ Hid (wr.heap[g]? = some (.cells (L.take (p + m) ++ by8 (tl j n)).toArray 5 (0, 0))) ∧ Below g w wr) (fun _ i _ => (intOf i + 1).toNat)
  case atStart =>
    refine ⟨k, 0, _, Lib.hid (by omega), Lib.hid rfl, rfl, by simp, Lib.hid ?_, Below.refl _ _⟩
    have := HG.out
    have hl := HL.out
    simpa [by8, tl, List.take_of_length_le (Nat.le_of_eq hl)] using this
  case round =>
    obtain ⟨m, j, i0, hmj, hi, rfl, rfl, hh, hb⟩ := hrel
    cases m with
    | zero =>
      obtain rfl : i0 = -1 := by have := hi.out; omega
      clear hi
      obtain rfl : j = k := by have := hmj.out; omega
      obtain ⟨x, r, hxr, hx⟩ : ∃ x r, tl j n = x :: r ∧ x = n / 256 ^ (j - 1) % 256 := by
        cases j with
        | zero => omega
        | succ j => exact ⟨_, _, rfl, rfl⟩
      have hbts : bts j n = (x + 64 * lg j) :: r := by simp [bts, hxr]
      have hx0 : 0 ≤ x := by rw [hx]; exact Int.emod_nonneg _ (by decide)
      have hx1 : x < 64 := by
        have h3 : n / 256 ^ (j - 1) < 64 := Int.ediv_lt_of_lt_mul (Int.pow_pos (by decide)) HN1.out
        have h4 : 0 ≤ n / 256 ^ (j - 1) := Int.ediv_nonneg hn0 (Int.le_of_lt (Int.pow_pos (by decide)))
        rw [hx, Int.emod_eq_of_lt h4 (by omega)]; exact h3
      have hh' : wr.heap[g]? = some (.cells (L.take p ++ by8 (x :: r)).toArray 5 (0, 0)) := by rw [← hxr]; exact hh.out
      have hl := HL.out
      have hlp : (L.take p).length = p := by simp; omega
      have hc : wr.cell? ⟨g, p, none⟩ = some (.int .u8 x) := by
        simp [World.cell?, hh', by8, hlp]
      have hf : wr.frozen? ⟨g, p, none⟩ = false := by simp [World.frozen?, hh']
      have hfin : ∀ y, (wr.setCell ⟨g, p, none⟩ (.int .u8 y)).heap[g]? = some (.cells (L.take p ++ by8 (y :: r)).toArray 5 (0, 0)) := by
        intro y
        rw [heap_setCell_same wr g p _ 5 _ hh']
        simp [by8, List.set_append_right, hlp]
      have HX := Lib.hid hx
      have HXR := Lib.hid hxr
      have HB := Lib.hid hbts
      have HH := Lib.hid hh'
      have HF := Lib.hid hfin
      clear hx hxr hbts hh' hfin hl hlp hh hmj
      have htb : Tab wr := by
        obtain ⟨t0, t1, t2, t3⟩ := ht
        exact ⟨by rw [hb.cell h1]; exact t0, by rw [hb.cell h1]; exact t1, by rw [hb.cell h1]; exact t2, by rw [hb.cell h1]; exact t3⟩
      have HKO := HK.out
      clear HK HL HN1 HG
      rcases HKO with rfl | rfl | rfl | rfl
      · have e1 : IntKind.u64.wrap 1 = 1 := by kernel_rfl
        have e2 : IntKind.u8.wrap 0 = 0 := by kernel_rfl
        have e3 : IntKind.u8.wrap 0 = 0 := by kernel_rfl
        have e4 : bits BinOp.or IntKind.u8 x 0 = x + 0 := or_u8 x 0 hx0 hx1 (by omega)
        go_wp2
        go_region_with (go_at_call 58; refine (tz_1 (Tab.drew htb)).mono ?_; rintro e w' ⟨rfl, rfl⟩)
        all_goals
          go_end0
          refine ⟨rfl, ?_, (hb.drew.setCell (Nat.le_refl _) _)⟩
          rw [HB.out, show x + 64 * lg 1 = x from by simp [lg]]
          exact HF.out _
      · have e1 : IntKind.u64.wrap 2 = 2 := by kernel_rfl
        have e2 : IntKind.u8.wrap 1 = 1 := by kernel_rfl
        have e3 : IntKind.u8.wrap 64 = 64 := by kernel_rfl
        have e4 : bits BinOp.or IntKind.u8 x 64 = x + 64 := or_u8 x 64 hx0 hx1 (by omega)
        go_wp2
        go_region_with (go_at_call 58; refine (tz_2 (Tab.drew htb)).mono ?_; rintro e w' ⟨rfl, rfl⟩)
        all_goals
          go_end0
          refine ⟨rfl, ?_, (hb.drew.setCell (Nat.le_refl _) _)⟩
          rw [HB.out]
          exact HF.out _
      · have e1 : IntKind.u64.wrap 4 = 4 := by kernel_rfl
        have e2 : IntKind.u8.wrap 2 = 2 := by kernel_rfl
        have e3 : IntKind.u8.wrap 128 = 128 := by kernel_rfl
        have e4 : bits BinOp.or IntKind.u8 x 128 = x + 128 := or_u8 x 128 hx0 hx1 (by omega)
        go_wp2
        go_region_with (go_at_call 58; refine (tz_4 (Tab.drew htb)).mono ?_; rintro e w' ⟨rfl, rfl⟩)
        all_goals
          go_end0
          refine ⟨rfl, ?_, (hb.drew.setCell (Nat.le_refl _) _)⟩
          rw [HB.out]
          exact HF.out _
      · have e1 : IntKind.u64.wrap 8 = 8 := by kernel_rfl
        have e2 : IntKind.u8.wrap 3 = 3 := by kernel_rfl
        have e3 : IntKind.u8.wrap 192 = 192 := by kernel_rfl
        have e4 : bits BinOp.or IntKind.u8 x 192 = x + 192 := or_u8 x 192 hx0 hx1 (by omega)
        go_wp2
        go_region_with (go_at_call 58; refine (tz_8 (Tab.drew htb)).mono ?_; rintro e w' ⟨rfl, rfl⟩)
        all_goals
          go_end0
          refine ⟨rfl, ?_, (hb.drew.setCell (Nat.le_refl _) _)⟩
          rw [HB.out]
          exact HF.out _
    | succ m =>
      obtain rfl : i0 = (m : Int) := by have := hi.out; omega
      clear hi
      have hmk : m < k := by have := hmj.out; omega
      have hc : wr.cell? ⟨g, p + m, none⟩ = some ((L.take (p + (m + 1)) ++ by8 (tl j n)).getD (p + m) undef) := by
        have hl := HL.out
        have hlt : p + m < (L.take (p + (m + 1)) ++ by8 (tl j n)).length := by simp; omega
        simp [World.cell?, hh.out, List.getD, List.getElem?_eq_getElem hlt]
      have hf : wr.frozen? ⟨g, p + m, none⟩ = false := by simp [World.frozen?, hh.out]
      generalize (L.take (p + (m + 1)) ++ by8 (tl j n)).getD (p + m) undef = old at hc
      go_wp2
      go_roundw
      case rel => exact ⟨m, j + 1, _, Lib.hid (by have := hmj.out; omega), Lib.hid rfl, rfl, by rw [div_pow], Lib.hid (put_step HL.out hmk hh.out hb rfl).1, (put_step HL.out hmk hh.out hb rfl).2⟩
      case measure => simp [intOf]
#print axioms put_any
end Go.Proofs.YtepkhhpdpmhfaaaDoor
