/- Numbers of a fixed size, the greatest byte first: the program's Append, the document's power and Big. -/
import Derived.Test.YtefcjggmlhoebaaDoorVal
import Derived.IntWalk
namespace Go.Proofs.YtefcjggmlhoebaaDoor
open Go Go.RowKit

set_option maxRecDepth 20000 in
set_option maxHeartbeats 800000 in
theorem give_any {w : World} {vb vp : Value} {zb zp : List Int} (hb : Rd w vb zb) (hp : Rd w vp zp) (h1 : zb.length ≤ 1000) (h2 : zp.length ≤ 1000) (ht : Tab w) (hw : 1 < w.heap.size) :
    Calls Tryd.prog 54 #[vb, vp] w fun e w' => ∃ v', e = .returned v' ∧ w'.ownsRow w.heap.size 5 1 v' (zb.length + (enc zp.length).length + zp.length) (by8 (zb ++ enc zp.length ++ zp)) ∧ Below w.heap.size w w' := by
  have hp' := hp
  obtain ⟨ab, cb, rfl, _⟩ := hp'
  have hl8 := enc_len zp.length
  go_enter Tryd.func54, Tryd.ntmps54
  go_wp2_with fail
  refine (append_any hb (by omega) (zp.length : Int) ht hw).mono ?_
  rintro e w1 ⟨v1, rfl, hown1, hb1⟩
  have gp := hp.below hb1
  have s1 := hb1.size
  go_wp2_with (at_builtin; refine wpList_append_bytes (.tmp 8) (.tmp 9) 22 rfl rfl info5 Tryd.underlying22 w.heap.size _ _ _ rfl hown1 _ zp rfl gp (by omega) s1 ?_; intro v2 w2 hown2 hb2)
  go_ret
  exact ⟨_, rfl, hown2, hb1.trans hb2⟩
#print axioms give_any
end Go.Proofs.YtefcjggmlhoebaaDoor
namespace Go.Proofs.YtefcjggmlhoebaaDoor
open Go Go.RowKit

theorem refsize_is (n : Int) (k : Nat) (h : sz n = (k : Int)) (w : World) : Calls Tryd.prog 24 #[.int .i64 n] w fun e w' => e = .returned (.int .i64 (k : Int)) ∧ w = w' := by
  have := refsize_any n w
  rw [h] at this
  exact this

theorem bytes_step {w0 wr : World} {base g cap k j m : Nat} {n : Int}
    (hown : wr.ownsRow base 5 1 (.slice (some ⟨g, 0, none⟩) k cap) k (by8 (List.replicate (m + 1) 0 ++ tl j n))) (hb : Below base w0 wr) {x : Int} (hx : x = (n / 256 ^ j) % 256) :
    (wr.setCell ⟨g, m, none⟩ (.int .u8 x)).ownsRow base 5 1 (.slice (some ⟨g, 0, none⟩) k cap) k (by8 (List.replicate m 0 ++ tl (j + 1) n)) ∧ Below base w0 (wr.setCell ⟨g, m, none⟩ (.int .u8 x)) := by
  obtain ⟨h1, _⟩ := hown.stored m (.int .u8 x)
  have hg := (hown.lt g rfl).1
  refine ⟨?_, hb.setCell hg _⟩
  have e : (by8 (List.replicate (m + 1) 0 ++ tl j n)).set m (.int .u8 x) = by8 (List.replicate m 0 ++ tl (j + 1) n) := by
    have := set_tail (by8 (List.replicate (m + 1) 0)) m (by8 (tl j n)) (.int .u8 x) (by simp [by8])
    rw [List.take_of_length_le (by simp [by8])] at this
    rw [by8_app, this]
    subst hx
    simp [by8, tl]
  rw [← e]
  exact h1

theorem put0 {w0 wr : World} {base g cap k : Nat} {x y : Int} {r : List Int} (hown : wr.ownsRow base 5 1 (.slice (some ⟨g, 0, none⟩) k cap) k (by8 (x :: r))) (hb : Below base w0 wr) :
    (wr.setCell ⟨g, 0, none⟩ (.int .u8 y)).ownsRow base 5 1 (.slice (some ⟨g, 0, none⟩) k cap) k (by8 (y :: r)) ∧ Below base w0 (wr.setCell ⟨g, 0, none⟩ (.int .u8 y)) := by
  obtain ⟨h1, _⟩ := hown.stored 0 (.int .u8 y)
  exact ⟨h1, hb.setCell (hown.lt g rfl).1 _⟩

set_option maxRecDepth 20000 in
set_option maxHeartbeats 1600000 in
theorem bytes_any {w : World} (n : Int) : Calls Tryd.prog 35 #[.int .i64 n] w fun e w' => ∃ v', e = .returned v' ∧ w'.ownsRow w.heap.size 5 1 v' (enc n).length (by8 (enc n)) ∧ Below w.heap.size w w' := by
  rcases sz_cases n with ⟨hs, _⟩ | ⟨hn0, hn1, k, hs, hk, hnk⟩
  · have hsz := refsize_is n 0 hs
    have HE : Hid (enc n = []) := Lib.hid (by simp [enc, hs, bts, tl])
    clear hs
    go_enter Tryd.func35, Tryd.ntmps35
    go_wp2_with (go_at_call 24; refine (hsz _).mono ?_; rintro e w' ⟨rfl, rfl⟩)
    refine wp_loop_rounds 1 ?_
    rw [rounds_succ]
    go_wp2
    refine wp_loop_rounds 1 ?_
    rw [rounds_succ]
    go_wp2
    go_ret
    refine ⟨_, rfl, ?_, Below.refl _ _⟩
    rw [HE.out]
    exact World.ownsRow_nil _ _ _ _
  · have hsz := refsize_is n k hs
    have HE : Hid (enc n = bts k n) := Lib.hid (by simp [enc, hs])
    have HK := Lib.hid hk
    have HN1 := Lib.hid hnk
    have hk1 : 1 ≤ k := by omega
    have hk8 : k ≤ 8 := by omega
    have HN2 := Lib.hid hn1
    clear hs hk hnk hn1
    go_enter Tryd.func35, Tryd.ntmps35
    go_wp2_with (go_at_call 24; refine (hsz _).mono ?_; rintro e w' ⟨rfl, rfl⟩)
    go_loopw [4, 5] (fun v i wr => ∃ m : Nat, m ≤ k ∧ i = .int .i64 m ∧ wr.ownsRow w.heap.size 5 1 v m (by8 (List.replicate m 0)) ∧ Below w.heap.size w wr) (fun _ i _ => k - (intOf i).toNat)
    case atStart => exact ⟨0, Nat.zero_le _, rfl, World.ownsRow_nil _ _ _ _, Below.refl _ _⟩
    case round =>
      obtain ⟨m, hm, rfl, hown, hb⟩ := hrel
      have hsw := hb.size
      by_cases hlt : m < k
      · have hlt' : (m : Int) < (k : Int) := by omega
        go_wp2_with (at_builtin; refine wpList_append_bytes (.tmp 15) (.tmp 16) 22 rfl rfl info5 Tryd.underlying22 w.heap.size _ m (List.replicate m 0) rfl (hown.alloc _) _ [0] rfl (Rd.lit wr [0] (by decide) (byt_of (by decide))) (by simp; omega) (by simp; omega) ?_; intro v1 w1 hown1 hb1)
        go_roundw
        case rel => exact ⟨m + 1, by omega, by go_num, by rw [List.replicate_succ']; exact hown1, hb.trans (((below_alloc _ _).mono hsw).trans hb1)⟩
        case measure => simp [intOf]; omega
      · have hown' := hown
        obtain rfl : k = m := by omega
        rcases hown'.2 with ⟨_, h0⟩ | ⟨g, cap, cur, rfl, hg, _, hkc, hcap, _⟩
        · omega
        · unfold maxLen at hcap
          clear hlt hm hown'
          go_wp2
          go_loopw [6, 7] (fun l i wr2 => ∃ (q j : Nat) (i0 : Int), Hid (q + j = k) ∧ Hid (i0 = (q : Int) - 1) ∧ i = .int .i64 i0 ∧ l = .int .i64 (n / 256 ^ j) ∧ wr2.ownsRow w.heap.size 5 1 (.slice (some ⟨g, 0, none⟩) k cap) k (by8 (List.replicate q 0 ++ tl j n)) ∧ Below w.heap.size w wr2) (fun _ i _ => (intOf i + 1).toNat)
          case atStart => exact ⟨k, 0, _, Lib.hid (by omega), Lib.hid rfl, rfl, by simp, by simpa [tl] using hown, hb⟩
          case round =>
            clear hown hb hsw
            obtain ⟨q, j, i0, hmj, hi, rfl, rfl, hown, hb⟩ := hrel
            cases q with
            | zero =>
              obtain rfl : i0 = -1 := by have := hi.out; omega
              clear hi
              obtain rfl : j = k := by have := hmj.out; omega
              obtain ⟨x, r, hxr, hx⟩ : ∃ x r, tl j n = x :: r ∧ x = n / 256 ^ (j - 1) % 256 := by
                cases j with
                | zero => omega
                | succ j => exact ⟨_, _, rfl, rfl⟩
              have hbts : enc n = (x + 64 * lg j) :: r := by rw [HE.out]; simp [bts, hxr]
              have hrl : r.length + 1 = j := by have := tl_len j n; rw [hxr] at this; simpa using this
              have hx0 : 0 ≤ x := by rw [hx]; exact Int.emod_nonneg _ (by decide)
              have hx1 : x < 64 := by
                have h3 : n / 256 ^ (j - 1) < 64 := Int.ediv_lt_of_lt_mul (Int.pow_pos (by decide)) HN1.out
                have h4 : 0 ≤ n / 256 ^ (j - 1) := Int.ediv_nonneg hn0 (Int.le_of_lt (Int.pow_pos (by decide)))
                rw [hx, Int.emod_eq_of_lt h4 (by omega)]; exact h3
              have hbl : (enc n).length = j := by rw [HE.out, bts_len]
              rw [hxr] at hown
              simp only [List.replicate_zero, List.nil_append] at hown
              have hc : wr.cell? ⟨g, 0, none⟩ = some (.int .u8 x) := by rw [hown.cellAt 0 (by omega)]; rfl
              have hf : wr.frozen? ⟨g, 0, none⟩ = false := hown.frozenAt 0
              have HX := Lib.hid hx
              have HB := Lib.hid hbts
              have HKO := HK.out
              have HBL := Lib.hid hbl
              clear hx hxr hbts hbl hrl hmj HE HN1 HK HN2
              rcases HKO with rfl | rfl | rfl | rfl
              · go_wp2
                go_ret
                rw [HBL.out, HB.out, show x + 64 * lg 1 = x from by simp [lg]]
                exact ⟨_, rfl, hown, hb⟩
              · have e1 : IntKind.u8.wrap (x + 64) = x + 64 := by rw [IntKind.wrap_u8']; omega
                go_wp2
                go_ret
                rw [HBL.out, HB.out]
                exact ⟨_, rfl, (put0 hown hb).1, (put0 hown hb).2⟩
              · have e1 : IntKind.u8.wrap (x + 128) = x + 128 := by rw [IntKind.wrap_u8']; omega
                go_wp2
                go_ret
                rw [HBL.out, HB.out]
                exact ⟨_, rfl, (put0 hown hb).1, (put0 hown hb).2⟩
              · have e1 : IntKind.u8.wrap (x + 192) = x + 192 := by rw [IntKind.wrap_u8']; omega
                go_wp2
                go_ret
                rw [HBL.out, HB.out]
                exact ⟨_, rfl, (put0 hown hb).1, (put0 hown hb).2⟩
            | succ q =>
              obtain rfl : i0 = (q : Int) := by have := hi.out; omega
              clear hi
              have hmk : q < k := by have := hmj.out; omega
              have hc := hown.cellAt q (by omega)
              have hc2 : (by8 (List.replicate (q + 1) 0 ++ tl j n))[q]? = some (.int .u8 0) := by
                have h9 : (List.replicate (q + 1) (0 : Int) ++ tl j n)[q]? = some 0 := by rw [List.getElem?_append_left (by simp)]; simp
                simp only [by8, List.getElem?_map, h9, Option.map_some]
              rw [hc2] at hc
              clear hc2
              have hf := hown.frozenAt q
              have hq : 0 ≤ n / 256 ^ j := Int.ediv_nonneg hn0 (Int.le_of_lt (Int.pow_pos (by decide)))
              have hq2 : n / 256 ^ j < 4611686018427387904 := by
                have := Int.ediv_le_self (256 ^ j) hn0
                have h8 := HN2.out
                omega
              generalize hA : n / 256 ^ j = A at hq hq2 ⊢
              have HA := Lib.hid hA
              clear hA
              go_wp2
              go_roundw
              case rel => exact ⟨q, j + 1, _, Lib.hid (by have := hmj.out; omega), Lib.hid rfl, rfl, by rw [← HA.out, div_pow], (bytes_step hown hb (by rw [HA.out])).1, (bytes_step hown hb (by rw [HA.out])).2⟩
              case measure => simp [intOf]
#print axioms bytes_any
end Go.Proofs.YtefcjggmlhoebaaDoor
namespace Go.Proofs.YtefcjggmlhoebaaDoor
open Go Go.RowKit

/-- n in so many bytes. -/
def big (n : Int) : Nat → List Int
  | 0 => []
  | k + 1 => (n / 256 ^ k % 256) :: big n k
theorem big_len (n : Int) (k : Nat) : (big n k).length = k := by
  induction k with
  | zero => rfl
  | succ k ih => simp [big, ih]
theorem big_byt (n : Int) (k : Nat) : Byt (big n k) := by
  induction k with
  | zero => exact Byt.nil
  | succ k ih =>
    intro z hz
    rcases List.mem_cons.1 hz with rfl | hz
    · omega
    · exact ih z hz
/-- A number of so many bytes. -/
def fitsB (n w : Int) : Bool := decide (0 ≤ n) && decide (n < 256 ^ w.toNat)

set_option maxRecDepth 20000 in
set_option maxHeartbeats 1000000 in
theorem power_any (w : World) (k : Nat) (hk : k ≤ 4) : Calls Tryd.prog 58 #[.int .i64 (k : Int)] w fun e w' => e = .returned (.int .i64 (256 ^ k)) ∧ w = w' := by
  have h : k = 0 ∨ k = 1 ∨ k = 2 ∨ k = 3 ∨ k = 4 := by omega
  clear hk
  rcases h with rfl | rfl | rfl | rfl | rfl
  · go_enter Tryd.func58, Tryd.ntmps58
    go_wp2
    refine wp_loop_rounds 1 ?_
    rw [rounds_succ]
    go_wp2
    go_ret
    exact ⟨rfl, rfl⟩
  · go_enter Tryd.func58, Tryd.ntmps58
    go_wp2
    refine wp_loop_rounds 2 ?_
    rw [rounds_succ]
    go_wp2
    rw [rounds_succ]
    go_wp2
    go_ret
    exact ⟨rfl, rfl⟩
  · go_enter Tryd.func58, Tryd.ntmps58
    go_wp2
    refine wp_loop_rounds 3 ?_
    rw [rounds_succ]
    go_wp2
    rw [rounds_succ]
    go_wp2
    rw [rounds_succ]
    go_wp2
    go_ret
    exact ⟨rfl, rfl⟩
  · go_enter Tryd.func58, Tryd.ntmps58
    go_wp2
    refine wp_loop_rounds 4 ?_
    rw [rounds_succ]
    go_wp2
    rw [rounds_succ]
    go_wp2
    rw [rounds_succ]
    go_wp2
    rw [rounds_succ]
    go_wp2
    go_ret
    exact ⟨rfl, rfl⟩
  · go_enter Tryd.func58, Tryd.ntmps58
    go_wp2
    refine wp_loop_rounds 5 ?_
    rw [rounds_succ]
    go_wp2
    rw [rounds_succ]
    go_wp2
    rw [rounds_succ]
    go_wp2
    rw [rounds_succ]
    go_wp2
    rw [rounds_succ]
    go_wp2
    go_ret
    exact ⟨rfl, rfl⟩

theorem big_step {n : Int} {k m : Nat} {P : List Int} (h : P ++ big n (m + 1) = big n k) : (P ++ [n / 256 ^ m % 256]) ++ big n m = big n k := by
  rw [← h]
  simp [big]

set_option maxRecDepth 20000 in
set_option maxHeartbeats 4000000 in
theorem fappend_any {w : World} {base : Nat} {v : Value} {zs : List Int} (ho : w.ownsRow base 5 1 v zs.length (by8 zs)) (hb : base ≤ w.heap.size) (hl : zs.length ≤ 100000) (n : Int) (hn0 : 0 ≤ n) (hn1 : n < 4294967296) (k : Nat) (hk : k ≤ 4) :
    Calls Tryd.prog 51 #[v, .int .i64 n, .int .i64 (k : Int)] w fun e w' => ∃ v', e = .returned v' ∧ w'.ownsRow base 5 1 v' (zs.length + k) (by8 (zs ++ big n k)) ∧ Below base w w' := by
  go_enter Tryd.func51, Tryd.ntmps51
  go_wp2
  go_loopw [0, 7] (fun u i wr => ∃ (m j : Nat) (i0 : Int) (P : List Int), m ≤ 4 ∧ Hid (m + j = k) ∧ Hid (i0 = (m : Int) - 1) ∧ i = .int .i64 i0 ∧ wr.ownsRow base 5 1 u (zs.length + j) (by8 (zs ++ P)) ∧ Hid (P ++ big n m = big n k ∧ P.length = j) ∧ Below base w wr) (fun _ i _ => (intOf i + 1).toNat)
  case atStart => exact ⟨k, 0, _, [], hk, Lib.hid rfl, Lib.hid rfl, rfl, by simpa using ho, Lib.hid ⟨rfl, rfl⟩, Below.refl _ _⟩
  case round =>
    clear ho
    obtain ⟨m, j, i0, P, hm4, hmj, hi, rfl, hown, hP, hbel⟩ := hrel
    have hsz : base ≤ wr.heap.size := Nat.le_trans hb hbel.size
    cases m with
    | zero =>
      obtain rfl : i0 = -1 := by have := hi.out; omega
      clear hi
      have hj : j = k := by have := hmj.out; omega
      have e : P = big n k := by have := hP.out.1; simpa [big] using this
      rw [hj, e] at hown
      clear hj e hP hmj
      go_wp2
      go_ret
      exact ⟨_, rfl, hown, hbel⟩
    | succ m =>
      obtain rfl : i0 = (m : Int) := by have := hi.out; omega
      clear hi
      have hj4 : j ≤ 4 := by have := hmj.out; omega
      have h : m = 0 ∨ m = 1 ∨ m = 2 ∨ m = 3 := by omega
      clear hm4
      rcases h with rfl | rfl | rfl | rfl
      · have hx : Hid (n % 256 = n / 256 ^ 0 % 256) := Lib.hid (by simp)
        have hbx : Byt [n % 256] := fun z hz => by
          obtain rfl := List.mem_singleton.1 hz
          omega
        have hR := Rd.lit wr [n % 256] (by simp) hbx
        have hA := hown.alloc (.cells (by8 [n % 256]).toArray 5)
        have hb9 : zs.length + j + [n % 256].length ≤ 140737488355328 := by simp; omega
        have hs9 : base ≤ (wr.alloc (.cells (by8 [n % 256]).toArray 5)).heap.size := by simp; omega
        go_wp2_with (at_builtin; refine wpList_append_bytes (.tmp 14) (.tmp 20) 22 rfl rfl info5 Tryd.underlying22 base _ (zs.length + j) (zs ++ P) rfl hA _ [n % 256] rfl hR hb9 hs9 ?_; intro v1 w1 hown1 hb1)
        go_roundw
        case rel => exact ⟨0, j + 1, _, P ++ [n / 256 ^ 0 % 256], by decide, Lib.hid (by have := hmj.out; omega), Lib.hid rfl, (by first | rfl | go_num), (by rw [← hx.out, ← List.append_assoc]; exact hown1), Lib.hid ⟨big_step hP.out.1, by simp [hP.out.2]⟩, hbel.trans (((below_alloc _ _).mono hsz).trans hb1)⟩
        case measure => simp [intOf]
      · have hx : Hid (n / 256 % 256 = n / 256 ^ 1 % 256) := Lib.hid (by simp)
        have hbx : Byt [n / 256 % 256] := fun z hz => by
          obtain rfl := List.mem_singleton.1 hz
          omega
        have hR := Rd.lit wr [n / 256 % 256] (by simp) hbx
        have hA := hown.alloc (.cells (by8 [n / 256 % 256]).toArray 5)
        have hb9 : zs.length + j + [n / 256 % 256].length ≤ 140737488355328 := by simp; omega
        have hs9 : base ≤ (wr.alloc (.cells (by8 [n / 256 % 256]).toArray 5)).heap.size := by simp; omega
        go_wp2_with (at_builtin; refine wpList_append_bytes (.tmp 14) (.tmp 20) 22 rfl rfl info5 Tryd.underlying22 base _ (zs.length + j) (zs ++ P) rfl hA _ [n / 256 % 256] rfl hR hb9 hs9 ?_; intro v1 w1 hown1 hb1)
        go_roundw
        case rel => exact ⟨1, j + 1, _, P ++ [n / 256 ^ 1 % 256], by decide, Lib.hid (by have := hmj.out; omega), Lib.hid rfl, (by first | rfl | go_num), (by rw [← hx.out, ← List.append_assoc]; exact hown1), Lib.hid ⟨big_step hP.out.1, by simp [hP.out.2]⟩, hbel.trans (((below_alloc _ _).mono hsz).trans hb1)⟩
        case measure => simp [intOf]
      · have hx : Hid (n / 65536 % 256 = n / 256 ^ 2 % 256) := Lib.hid (by simp)
        have hbx : Byt [n / 65536 % 256] := fun z hz => by
          obtain rfl := List.mem_singleton.1 hz
          omega
        have hR := Rd.lit wr [n / 65536 % 256] (by simp) hbx
        have hA := hown.alloc (.cells (by8 [n / 65536 % 256]).toArray 5)
        have hb9 : zs.length + j + [n / 65536 % 256].length ≤ 140737488355328 := by simp; omega
        have hs9 : base ≤ (wr.alloc (.cells (by8 [n / 65536 % 256]).toArray 5)).heap.size := by simp; omega
        go_wp2_with (at_builtin; refine wpList_append_bytes (.tmp 14) (.tmp 20) 22 rfl rfl info5 Tryd.underlying22 base _ (zs.length + j) (zs ++ P) rfl hA _ [n / 65536 % 256] rfl hR hb9 hs9 ?_; intro v1 w1 hown1 hb1)
        go_roundw
        case rel => exact ⟨2, j + 1, _, P ++ [n / 256 ^ 2 % 256], by decide, Lib.hid (by have := hmj.out; omega), Lib.hid rfl, (by first | rfl | go_num), (by rw [← hx.out, ← List.append_assoc]; exact hown1), Lib.hid ⟨big_step hP.out.1, by simp [hP.out.2]⟩, hbel.trans (((below_alloc _ _).mono hsz).trans hb1)⟩
        case measure => simp [intOf]
      · have hx : Hid (n / 16777216 = n / 256 ^ 3 % 256) := Lib.hid (by simp; omega)
        have hbx : Byt [n / 16777216] := fun z hz => by
          obtain rfl := List.mem_singleton.1 hz
          omega
        have hR := Rd.lit wr [n / 16777216] (by simp) hbx
        have hA := hown.alloc (.cells (by8 [n / 16777216]).toArray 5)
        have hb9 : zs.length + j + [n / 16777216].length ≤ 140737488355328 := by simp; omega
        have hs9 : base ≤ (wr.alloc (.cells (by8 [n / 16777216]).toArray 5)).heap.size := by simp; omega
        go_wp2_with (at_builtin; refine wpList_append_bytes (.tmp 14) (.tmp 20) 22 rfl rfl info5 Tryd.underlying22 base _ (zs.length + j) (zs ++ P) rfl hA _ [n / 16777216] rfl hR hb9 hs9 ?_; intro v1 w1 hown1 hb1)
        go_roundw
        case rel => exact ⟨3, j + 1, _, P ++ [n / 256 ^ 3 % 256], by decide, Lib.hid (by have := hmj.out; omega), Lib.hid rfl, (by first | rfl | go_num), (by rw [← hx.out, ← List.append_assoc]; exact hown1), Lib.hid ⟨big_step hP.out.1, by simp [hP.out.2]⟩, hbel.trans (((below_alloc _ _).mono hsz).trans hb1)⟩
        case measure => simp [intOf]

set_option maxRecDepth 20000 in
set_option maxHeartbeats 4000000 in
theorem refbig_any {w : World} (n : Int) (hn0 : 0 ≤ n) (hn1 : n < 4294967296) (k : Nat) (hk : k ≤ 4) :
    Calls Tryd.prog 34 #[.int .i64 n, .int .i64 (k : Int)] w fun e w' => ∃ v', e = .returned v' ∧ w'.ownsRow w.heap.size 5 1 v' k (by8 (big n k)) ∧ Below w.heap.size w w' := by
  go_enter Tryd.func34, Tryd.ntmps34
  go_wp2_with fail
  go_loopw [5, 6] (fun u i wr => ∃ (m j : Nat) (i0 : Int) (P : List Int), m ≤ 4 ∧ Hid (m + j = k) ∧ Hid (i0 = (m : Int) - 1) ∧ i = .int .i64 i0 ∧ wr.ownsRow w.heap.size 5 1 u j (by8 P) ∧ Hid (P ++ big n m = big n k ∧ P.length = j) ∧ Below w.heap.size w wr) (fun _ i _ => (intOf i + 1).toNat)
  case atStart => exact ⟨k, 0, _, [], hk, Lib.hid rfl, Lib.hid rfl, rfl, World.ownsRow_nil _ _ _ _, Lib.hid ⟨rfl, rfl⟩, Below.refl _ _⟩
  case round =>
    obtain ⟨m, j, i0, P, hm4, hmj, hi, rfl, hown, hP, hbel⟩ := hrel
    have hsz : w.heap.size ≤ wr.heap.size := hbel.size
    cases m with
    | zero =>
      obtain rfl : i0 = -1 := by have := hi.out; omega
      clear hi
      have hj : j = k := by have := hmj.out; omega
      have e : P = big n k := by have := hP.out.1; simpa [big] using this
      rw [hj, e] at hown
      clear hj e hP hmj
      go_wp2_with fail
      go_ret
      exact ⟨_, rfl, hown, hbel⟩
    | succ m =>
      obtain rfl : i0 = (m : Int) := by have := hi.out; omega
      clear hi
      have hj4 : j ≤ 4 := by have := hmj.out; omega
      have h : m = 0 ∨ m = 1 ∨ m = 2 ∨ m = 3 := by omega
      clear hm4
      rcases h with rfl | rfl | rfl | rfl
      · have hx : Hid (n % 256 = n / 256 ^ 0 % 256) := Lib.hid (by simp)
        have hbx : Byt [n % 256] := fun z hz => by
          obtain rfl := List.mem_singleton.1 hz
          omega
        have hR := Rd.lit wr [n % 256] (by simp) hbx
        have hA := hown.alloc (.cells (by8 [n % 256]).toArray 5)
        have hb9 : j + [n % 256].length ≤ 140737488355328 := by simp; omega
        have hs9 : w.heap.size ≤ (wr.alloc (.cells (by8 [n % 256]).toArray 5)).heap.size := by simp; omega
        have hpw := power_any wr 0 (by decide)
        go_wp2_with (first | (go_at_call 58; refine hpw.mono ?_; rintro e w' ⟨rfl, rfl⟩) | (at_builtin; refine wpList_append_bytes (.tmp 13) (.tmp 20) 22 rfl rfl info5 Tryd.underlying22 w.heap.size _ j P rfl hA _ [n % 256] rfl hR hb9 hs9 ?_; intro v1 w1 hown1 hb1))
        go_roundw
        case rel => exact ⟨0, j + 1, _, P ++ [n / 256 ^ 0 % 256], by decide, Lib.hid (by have := hmj.out; omega), Lib.hid rfl, (by first | rfl | go_num), (by rw [← hx.out]; exact hown1), Lib.hid ⟨big_step hP.out.1, by simp [hP.out.2]⟩, hbel.trans (((below_alloc _ _).mono hsz).trans hb1)⟩
        case measure => simp [intOf]
      · have hx : Hid (n / 256 % 256 = n / 256 ^ 1 % 256) := Lib.hid (by simp)
        have hbx : Byt [n / 256 % 256] := fun z hz => by
          obtain rfl := List.mem_singleton.1 hz
          omega
        have hR := Rd.lit wr [n / 256 % 256] (by simp) hbx
        have hA := hown.alloc (.cells (by8 [n / 256 % 256]).toArray 5)
        have hb9 : j + [n / 256 % 256].length ≤ 140737488355328 := by simp; omega
        have hs9 : w.heap.size ≤ (wr.alloc (.cells (by8 [n / 256 % 256]).toArray 5)).heap.size := by simp; omega
        have hpw := power_any wr 1 (by decide)
        go_wp2_with (first | (go_at_call 58; refine hpw.mono ?_; rintro e w' ⟨rfl, rfl⟩) | (at_builtin; refine wpList_append_bytes (.tmp 13) (.tmp 20) 22 rfl rfl info5 Tryd.underlying22 w.heap.size _ j P rfl hA _ [n / 256 % 256] rfl hR hb9 hs9 ?_; intro v1 w1 hown1 hb1))
        go_roundw
        case rel => exact ⟨1, j + 1, _, P ++ [n / 256 ^ 1 % 256], by decide, Lib.hid (by have := hmj.out; omega), Lib.hid rfl, (by first | rfl | go_num), (by rw [← hx.out]; exact hown1), Lib.hid ⟨big_step hP.out.1, by simp [hP.out.2]⟩, hbel.trans (((below_alloc _ _).mono hsz).trans hb1)⟩
        case measure => simp [intOf]
      · have hx : Hid (n / 65536 % 256 = n / 256 ^ 2 % 256) := Lib.hid (by simp)
        have hbx : Byt [n / 65536 % 256] := fun z hz => by
          obtain rfl := List.mem_singleton.1 hz
          omega
        have hR := Rd.lit wr [n / 65536 % 256] (by simp) hbx
        have hA := hown.alloc (.cells (by8 [n / 65536 % 256]).toArray 5)
        have hb9 : j + [n / 65536 % 256].length ≤ 140737488355328 := by simp; omega
        have hs9 : w.heap.size ≤ (wr.alloc (.cells (by8 [n / 65536 % 256]).toArray 5)).heap.size := by simp; omega
        have hpw := power_any wr 2 (by decide)
        go_wp2_with (first | (go_at_call 58; refine hpw.mono ?_; rintro e w' ⟨rfl, rfl⟩) | (at_builtin; refine wpList_append_bytes (.tmp 13) (.tmp 20) 22 rfl rfl info5 Tryd.underlying22 w.heap.size _ j P rfl hA _ [n / 65536 % 256] rfl hR hb9 hs9 ?_; intro v1 w1 hown1 hb1))
        go_roundw
        case rel => exact ⟨2, j + 1, _, P ++ [n / 256 ^ 2 % 256], by decide, Lib.hid (by have := hmj.out; omega), Lib.hid rfl, (by first | rfl | go_num), (by rw [← hx.out]; exact hown1), Lib.hid ⟨big_step hP.out.1, by simp [hP.out.2]⟩, hbel.trans (((below_alloc _ _).mono hsz).trans hb1)⟩
        case measure => simp [intOf]
      · have hx : Hid (n / 16777216 % 256 = n / 256 ^ 3 % 256) := Lib.hid (by simp)
        have hbx : Byt [n / 16777216 % 256] := fun z hz => by
          obtain rfl := List.mem_singleton.1 hz
          omega
        have hR := Rd.lit wr [n / 16777216 % 256] (by simp) hbx
        have hA := hown.alloc (.cells (by8 [n / 16777216 % 256]).toArray 5)
        have hb9 : j + [n / 16777216 % 256].length ≤ 140737488355328 := by simp; omega
        have hs9 : w.heap.size ≤ (wr.alloc (.cells (by8 [n / 16777216 % 256]).toArray 5)).heap.size := by simp; omega
        have hpw := power_any wr 3 (by decide)
        go_wp2_with (first | (go_at_call 58; refine hpw.mono ?_; rintro e w' ⟨rfl, rfl⟩) | (at_builtin; refine wpList_append_bytes (.tmp 13) (.tmp 20) 22 rfl rfl info5 Tryd.underlying22 w.heap.size _ j P rfl hA _ [n / 16777216 % 256] rfl hR hb9 hs9 ?_; intro v1 w1 hown1 hb1))
        go_roundw
        case rel => exact ⟨3, j + 1, _, P ++ [n / 256 ^ 3 % 256], by decide, Lib.hid (by have := hmj.out; omega), Lib.hid rfl, (by first | rfl | go_num), (by rw [← hx.out]; exact hown1), Lib.hid ⟨big_step hP.out.1, by simp [hP.out.2]⟩, hbel.trans (((below_alloc _ _).mono hsz).trans hb1)⟩
        case measure => simp [intOf]
#print axioms fappend_any
#print axioms refbig_any
end Go.Proofs.YtefcjggmlhoebaaDoor
