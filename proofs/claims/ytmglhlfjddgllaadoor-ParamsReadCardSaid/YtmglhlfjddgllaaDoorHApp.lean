/- Numbers of a fixed size, the greatest byte first: the program's Append, the document's power and Big. -/
import Derived.Test.YtmglhlfjddgllaaDoorVal
import Derived.Test.YtmglhlfjddgllaaDoorGive
import Derived.Test.YtmglhlfjddgllaaDoorBytes
import Derived.IntWalk
namespace Go.Proofs.YtmglhlfjddgllaaDoor
open Go Go.RowKit

/-- n in so many bytes. -/
def big (n : Int) : Nat → List Int
  | 0 => []
  | k + 1 => (n / 256 ^ k % 256) :: big n k
theorem big_len (n : Int) (k : Nat) : (big n k).length = k := by
  induction k with
  | zero => rfl
  | succ k ih => simp [big, ih]
theorem big_byt (n : Int) (k : Nat) : Byt (big n k) := by
  induction k with
  | zero => exact Byt.nil
  | succ k ih =>
    intro z hz
    rcases List.mem_cons.1 hz with rfl | hz
    · omega
    · exact ih z hz
/-- A number of so many bytes. -/
def fitsB (n w : Int) : Bool := decide (0 ≤ n) && decide (n < 256 ^ w.toNat)

set_option maxRecDepth 20000 in
set_option maxHeartbeats 1000000 in
theorem power_any (w : World) (k : Nat) (hk : k ≤ 4) : Calls Tryd.prog 47 #[.int .i64 (k : Int)] w fun e w' => e = .returned (.int .i64 (256 ^ k)) ∧ w = w' := by
  have h : k = 0 ∨ k = 1 ∨ k = 2 ∨ k = 3 ∨ k = 4 := by omega
  clear hk
  rcases h with rfl | rfl | rfl | rfl | rfl
  · go_enter Tryd.func47, Tryd.ntmps47
    go_wp2
    refine wp_loop_rounds 1 ?_
    rw [rounds_succ]
    go_wp2
    go_ret
    exact ⟨rfl, rfl⟩
  · go_enter Tryd.func47, Tryd.ntmps47
    go_wp2
    refine wp_loop_rounds 2 ?_
    rw [rounds_succ]
    go_wp2
    rw [rounds_succ]
    go_wp2
    go_ret
    exact ⟨rfl, rfl⟩
  · go_enter Tryd.func47, Tryd.ntmps47
    go_wp2
    refine wp_loop_rounds 3 ?_
    rw [rounds_succ]
    go_wp2
    rw [rounds_succ]
    go_wp2
    rw [rounds_succ]
    go_wp2
    go_ret
    exact ⟨rfl, rfl⟩
  · go_enter Tryd.func47, Tryd.ntmps47
    go_wp2
    refine wp_loop_rounds 4 ?_
    rw [rounds_succ]
    go_wp2
    rw [rounds_succ]
    go_wp2
    rw [rounds_succ]
    go_wp2
    rw [rounds_succ]
    go_wp2
    go_ret
    exact ⟨rfl, rfl⟩
  · go_enter Tryd.func47, Tryd.ntmps47
    go_wp2
    refine wp_loop_rounds 5 ?_
    rw [rounds_succ]
    go_wp2
    rw [rounds_succ]
    go_wp2
    rw [rounds_succ]
    go_wp2
    rw [rounds_succ]
    go_wp2
    rw [rounds_succ]
    go_wp2
    go_ret
    exact ⟨rfl, rfl⟩

theorem big_step {n : Int} {k m : Nat} {P : List Int} (h : P ++ big n (m + 1) = big n k) : (P ++ [n / 256 ^ m % 256]) ++ big n m = big n k := by
  rw [← h]
  simp [big]

set_option maxRecDepth 20000 in
set_option maxHeartbeats 4000000 in
theorem fappend_any {w : World} {base : Nat} {v : Value} {zs : List Int} (ho : w.ownsRow base 5 1 v zs.length (by8 zs)) (hb : base ≤ w.heap.size) (hl : zs.length ≤ 100000) (n : Int) (hn0 : 0 ≤ n) (hn1 : n < 4294967296) (k : Nat) (hk : k ≤ 4) :
    Calls Tryd.prog 43 #[v, .int .i64 n, .int .i64 (k : Int)] w fun e w' => ∃ v', e = .returned v' ∧ w'.ownsRow base 5 1 v' (zs.length + k) (by8 (zs ++ big n k)) ∧ Below base w w' := by
  go_enter Tryd.func43, Tryd.ntmps43
  go_wp2
  go_loopw [0, 7] (fun u i wr => ∃ (m j : Nat) (i0 : Int) (P : List Int), m ≤ 4 ∧ Hid (m + j = k) ∧ Hid (i0 = (m : Int) - 1) ∧ i = .int .i64 i0 ∧ wr.ownsRow base 5 1 u (zs.length + j) (by8 (zs ++ P)) ∧ Hid (P ++ big n m = big n k ∧ P.length = j) ∧ Below base w wr) (fun _ i _ => (intOf i + 1).toNat)
  case atStart => exact ⟨k, 0, _, [], hk, Lib.hid rfl, Lib.hid rfl, rfl, by simpa using ho, Lib.hid ⟨rfl, rfl⟩, Below.refl _ _⟩
  case round =>
    clear ho
    obtain ⟨m, j, i0, P, hm4, hmj, hi, rfl, hown, hP, hbel⟩ := hrel
    have hsz : base ≤ wr.heap.size := Nat.le_trans hb hbel.size
    cases m with
    | zero =>
      obtain rfl : i0 = -1 := by have := hi.out; omega
      clear hi
      have hj : j = k := by have := hmj.out; omega
      have e : P = big n k := by have := hP.out.1; simpa [big] using this
      rw [hj, e] at hown
      clear hj e hP hmj
      go_wp2
      go_ret
      exact ⟨_, rfl, hown, hbel⟩
    | succ m =>
      obtain rfl : i0 = (m : Int) := by have := hi.out; omega
      clear hi
      have hj4 : j ≤ 4 := by have := hmj.out; omega
      have h : m = 0 ∨ m = 1 ∨ m = 2 ∨ m = 3 := by omega
      clear hm4
      rcases h with rfl | rfl | rfl | rfl
      · have hx : Hid (n % 256 = n / 256 ^ 0 % 256) := Lib.hid (by simp)
        have hbx : Byt [n % 256] := fun z hz => by
          obtain rfl := List.mem_singleton.1 hz
          omega
        have hR := Rd.lit wr [n % 256] (by simp) hbx
        have hA := hown.alloc (.cells (by8 [n % 256]).toArray 5)
        have hb9 : zs.length + j + [n % 256].length ≤ 140737488355328 := by simp; omega
        have hs9 : base ≤ (wr.alloc (.cells (by8 [n % 256]).toArray 5)).heap.size := by simp; omega
        go_wp2_with (at_builtin; refine wpList_append_bytes (.tmp 14) (.tmp 20) 22 rfl rfl info5 Tryd.underlying22 base _ (zs.length + j) (zs ++ P) rfl hA _ [n % 256] rfl hR hb9 hs9 ?_; intro v1 w1 hown1 hb1)
        go_roundw
        case rel => exact ⟨0, j + 1, _, P ++ [n / 256 ^ 0 % 256], by decide, Lib.hid (by have := hmj.out; omega), Lib.hid rfl, (by first | rfl | go_num), (by rw [← hx.out, ← List.append_assoc]; exact hown1), Lib.hid ⟨big_step hP.out.1, by simp [hP.out.2]⟩, hbel.trans (((below_alloc _ _).mono hsz).trans hb1)⟩
        case measure => simp [intOf]
      · have hx : Hid (n / 256 % 256 = n / 256 ^ 1 % 256) := Lib.hid (by simp)
        have hbx : Byt [n / 256 % 256] := fun z hz => by
          obtain rfl := List.mem_singleton.1 hz
          omega
        have hR := Rd.lit wr [n / 256 % 256] (by simp) hbx
        have hA := hown.alloc (.cells (by8 [n / 256 % 256]).toArray 5)
        have hb9 : zs.length + j + [n / 256 % 256].length ≤ 140737488355328 := by simp; omega
        have hs9 : base ≤ (wr.alloc (.cells (by8 [n / 256 % 256]).toArray 5)).heap.size := by simp; omega
        go_wp2_with (at_builtin; refine wpList_append_bytes (.tmp 14) (.tmp 20) 22 rfl rfl info5 Tryd.underlying22 base _ (zs.length + j) (zs ++ P) rfl hA _ [n / 256 % 256] rfl hR hb9 hs9 ?_; intro v1 w1 hown1 hb1)
        go_roundw
        case rel => exact ⟨1, j + 1, _, P ++ [n / 256 ^ 1 % 256], by decide, Lib.hid (by have := hmj.out; omega), Lib.hid rfl, (by first | rfl | go_num), (by rw [← hx.out, ← List.append_assoc]; exact hown1), Lib.hid ⟨big_step hP.out.1, by simp [hP.out.2]⟩, hbel.trans (((below_alloc _ _).mono hsz).trans hb1)⟩
        case measure => simp [intOf]
      · have hx : Hid (n / 65536 % 256 = n / 256 ^ 2 % 256) := Lib.hid (by simp)
        have hbx : Byt [n / 65536 % 256] := fun z hz => by
          obtain rfl := List.mem_singleton.1 hz
          omega
        have hR := Rd.lit wr [n / 65536 % 256] (by simp) hbx
        have hA := hown.alloc (.cells (by8 [n / 65536 % 256]).toArray 5)
        have hb9 : zs.length + j + [n / 65536 % 256].length ≤ 140737488355328 := by simp; omega
        have hs9 : base ≤ (wr.alloc (.cells (by8 [n / 65536 % 256]).toArray 5)).heap.size := by simp; omega
        go_wp2_with (at_builtin; refine wpList_append_bytes (.tmp 14) (.tmp 20) 22 rfl rfl info5 Tryd.underlying22 base _ (zs.length + j) (zs ++ P) rfl hA _ [n / 65536 % 256] rfl hR hb9 hs9 ?_; intro v1 w1 hown1 hb1)
        go_roundw
        case rel => exact ⟨2, j + 1, _, P ++ [n / 256 ^ 2 % 256], by decide, Lib.hid (by have := hmj.out; omega), Lib.hid rfl, (by first | rfl | go_num), (by rw [← hx.out, ← List.append_assoc]; exact hown1), Lib.hid ⟨big_step hP.out.1, by simp [hP.out.2]⟩, hbel.trans (((below_alloc _ _).mono hsz).trans hb1)⟩
        case measure => simp [intOf]
      · have hx : Hid (n / 16777216 = n / 256 ^ 3 % 256) := Lib.hid (by simp; omega)
        have hbx : Byt [n / 16777216] := fun z hz => by
          obtain rfl := List.mem_singleton.1 hz
          omega
        have hR := Rd.lit wr [n / 16777216] (by simp) hbx
        have hA := hown.alloc (.cells (by8 [n / 16777216]).toArray 5)
        have hb9 : zs.length + j + [n / 16777216].length ≤ 140737488355328 := by simp; omega
        have hs9 : base ≤ (wr.alloc (.cells (by8 [n / 16777216]).toArray 5)).heap.size := by simp; omega
        go_wp2_with (at_builtin; refine wpList_append_bytes (.tmp 14) (.tmp 20) 22 rfl rfl info5 Tryd.underlying22 base _ (zs.length + j) (zs ++ P) rfl hA _ [n / 16777216] rfl hR hb9 hs9 ?_; intro v1 w1 hown1 hb1)
        go_roundw
        case rel => exact ⟨3, j + 1, _, P ++ [n / 256 ^ 3 % 256], by decide, Lib.hid (by have := hmj.out; omega), Lib.hid rfl, (by first | rfl | go_num), (by rw [← hx.out, ← List.append_assoc]; exact hown1), Lib.hid ⟨big_step hP.out.1, by simp [hP.out.2]⟩, hbel.trans (((below_alloc _ _).mono hsz).trans hb1)⟩
        case measure => simp [intOf]

set_option maxRecDepth 20000 in
set_option maxHeartbeats 4000000 in
theorem refbig_any {w : World} (n : Int) (hn0 : 0 ≤ n) (hn1 : n < 4294967296) (k : Nat) (hk : k ≤ 4) :
    Calls Tryd.prog 32 #[.int .i64 n, .int .i64 (k : Int)] w fun e w' => ∃ v', e = .returned v' ∧ w'.ownsRow w.heap.size 5 1 v' k (by8 (big n k)) ∧ Below w.heap.size w w' := by
  go_enter Tryd.func32, Tryd.ntmps32
  go_wp2_with fail
  go_loopw [5, 6] (fun u i wr => ∃ (m j : Nat) (i0 : Int) (P : List Int), m ≤ 4 ∧ Hid (m + j = k) ∧ Hid (i0 = (m : Int) - 1) ∧ i = .int .i64 i0 ∧ wr.ownsRow w.heap.size 5 1 u j (by8 P) ∧ Hid (P ++ big n m = big n k ∧ P.length = j) ∧ Below w.heap.size w wr) (fun _ i _ => (intOf i + 1).toNat)
  case atStart => exact ⟨k, 0, _, [], hk, Lib.hid rfl, Lib.hid rfl, rfl, World.ownsRow_nil _ _ _ _, Lib.hid ⟨rfl, rfl⟩, Below.refl _ _⟩
  case round =>
    obtain ⟨m, j, i0, P, hm4, hmj, hi, rfl, hown, hP, hbel⟩ := hrel
    have hsz : w.heap.size ≤ wr.heap.size := hbel.size
    cases m with
    | zero =>
      obtain rfl : i0 = -1 := by have := hi.out; omega
      clear hi
      have hj : j = k := by have := hmj.out; omega
      have e : P = big n k := by have := hP.out.1; simpa [big] using this
      rw [hj, e] at hown
      clear hj e hP hmj
      go_wp2_with fail
      go_ret
      exact ⟨_, rfl, hown, hbel⟩
    | succ m =>
      obtain rfl : i0 = (m : Int) := by have := hi.out; omega
      clear hi
      have hj4 : j ≤ 4 := by have := hmj.out; omega
      have h : m = 0 ∨ m = 1 ∨ m = 2 ∨ m = 3 := by omega
      clear hm4
      rcases h with rfl | rfl | rfl | rfl
      · have hx : Hid (n % 256 = n / 256 ^ 0 % 256) := Lib.hid (by simp)
        have hbx : Byt [n % 256] := fun z hz => by
          obtain rfl := List.mem_singleton.1 hz
          omega
        have hR := Rd.lit wr [n % 256] (by simp) hbx
        have hA := hown.alloc (.cells (by8 [n % 256]).toArray 5)
        have hb9 : j + [n % 256].length ≤ 140737488355328 := by simp; omega
        have hs9 : w.heap.size ≤ (wr.alloc (.cells (by8 [n % 256]).toArray 5)).heap.size := by simp; omega
        have hpw := power_any wr 0 (by decide)
        go_wp2_with (first | (go_at_call 47; refine hpw.mono ?_; rintro e w' ⟨rfl, rfl⟩) | (at_builtin; refine wpList_append_bytes (.tmp 13) (.tmp 20) 22 rfl rfl info5 Tryd.underlying22 w.heap.size _ j P rfl hA _ [n % 256] rfl hR hb9 hs9 ?_; intro v1 w1 hown1 hb1))
        go_roundw
        case rel => exact ⟨0, j + 1, _, P ++ [n / 256 ^ 0 % 256], by decide, Lib.hid (by have := hmj.out; omega), Lib.hid rfl, (by first | rfl | go_num), (by rw [← hx.out]; exact hown1), Lib.hid ⟨big_step hP.out.1, by simp [hP.out.2]⟩, hbel.trans (((below_alloc _ _).mono hsz).trans hb1)⟩
        case measure => simp [intOf]
      · have hx : Hid (n / 256 % 256 = n / 256 ^ 1 % 256) := Lib.hid (by simp)
        have hbx : Byt [n / 256 % 256] := fun z hz => by
          obtain rfl := List.mem_singleton.1 hz
          omega
        have hR := Rd.lit wr [n / 256 % 256] (by simp) hbx
        have hA := hown.alloc (.cells (by8 [n / 256 % 256]).toArray 5)
        have hb9 : j + [n / 256 % 256].length ≤ 140737488355328 := by simp; omega
        have hs9 : w.heap.size ≤ (wr.alloc (.cells (by8 [n / 256 % 256]).toArray 5)).heap.size := by simp; omega
        have hpw := power_any wr 1 (by decide)
        go_wp2_with (first | (go_at_call 47; refine hpw.mono ?_; rintro e w' ⟨rfl, rfl⟩) | (at_builtin; refine wpList_append_bytes (.tmp 13) (.tmp 20) 22 rfl rfl info5 Tryd.underlying22 w.heap.size _ j P rfl hA _ [n / 256 % 256] rfl hR hb9 hs9 ?_; intro v1 w1 hown1 hb1))
        go_roundw
        case rel => exact ⟨1, j + 1, _, P ++ [n / 256 ^ 1 % 256], by decide, Lib.hid (by have := hmj.out; omega), Lib.hid rfl, (by first | rfl | go_num), (by rw [← hx.out]; exact hown1), Lib.hid ⟨big_step hP.out.1, by simp [hP.out.2]⟩, hbel.trans (((below_alloc _ _).mono hsz).trans hb1)⟩
        case measure => simp [intOf]
      · have hx : Hid (n / 65536 % 256 = n / 256 ^ 2 % 256) := Lib.hid (by simp)
        have hbx : Byt [n / 65536 % 256] := fun z hz => by
          obtain rfl := List.mem_singleton.1 hz
          omega
        have hR := Rd.lit wr [n / 65536 % 256] (by simp) hbx
        have hA := hown.alloc (.cells (by8 [n / 65536 % 256]).toArray 5)
        have hb9 : j + [n / 65536 % 256].length ≤ 140737488355328 := by simp; omega
        have hs9 : w.heap.size ≤ (wr.alloc (.cells (by8 [n / 65536 % 256]).toArray 5)).heap.size := by simp; omega
        have hpw := power_any wr 2 (by decide)
        go_wp2_with (first | (go_at_call 47; refine hpw.mono ?_; rintro e w' ⟨rfl, rfl⟩) | (at_builtin; refine wpList_append_bytes (.tmp 13) (.tmp 20) 22 rfl rfl info5 Tryd.underlying22 w.heap.size _ j P rfl hA _ [n / 65536 % 256] rfl hR hb9 hs9 ?_; intro v1 w1 hown1 hb1))
        go_roundw
        case rel => exact ⟨2, j + 1, _, P ++ [n / 256 ^ 2 % 256], by decide, Lib.hid (by have := hmj.out; omega), Lib.hid rfl, (by first | rfl | go_num), (by rw [← hx.out]; exact hown1), Lib.hid ⟨big_step hP.out.1, by simp [hP.out.2]⟩, hbel.trans (((below_alloc _ _).mono hsz).trans hb1)⟩
        case measure => simp [intOf]
      · have hx : Hid (n / 16777216 % 256 = n / 256 ^ 3 % 256) := Lib.hid (by simp)
        have hbx : Byt [n / 16777216 % 256] := fun z hz => by
          obtain rfl := List.mem_singleton.1 hz
          omega
        have hR := Rd.lit wr [n / 16777216 % 256] (by simp) hbx
        have hA := hown.alloc (.cells (by8 [n / 16777216 % 256]).toArray 5)
        have hb9 : j + [n / 16777216 % 256].length ≤ 140737488355328 := by simp; omega
        have hs9 : w.heap.size ≤ (wr.alloc (.cells (by8 [n / 16777216 % 256]).toArray 5)).heap.size := by simp; omega
        have hpw := power_any wr 3 (by decide)
        go_wp2_with (first | (go_at_call 47; refine hpw.mono ?_; rintro e w' ⟨rfl, rfl⟩) | (at_builtin; refine wpList_append_bytes (.tmp 13) (.tmp 20) 22 rfl rfl info5 Tryd.underlying22 w.heap.size _ j P rfl hA _ [n / 16777216 % 256] rfl hR hb9 hs9 ?_; intro v1 w1 hown1 hb1))
        go_roundw
        case rel => exact ⟨3, j + 1, _, P ++ [n / 256 ^ 3 % 256], by decide, Lib.hid (by have := hmj.out; omega), Lib.hid rfl, (by first | rfl | go_num), (by rw [← hx.out]; exact hown1), Lib.hid ⟨big_step hP.out.1, by simp [hP.out.2]⟩, hbel.trans (((below_alloc _ _).mono hsz).trans hb1)⟩
        case measure => simp [intOf]
#print axioms fappend_any
#print axioms refbig_any
end Go.Proofs.YtmglhlfjddgllaaDoor
