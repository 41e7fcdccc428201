/- May it be a header? Both sides tell the same. -/
import Derived.Test.YtgnjmmaahpngpaaDoorHv
import Derived.Test.YtgnjmmaahpngpaaDoorHApp
import Derived.Deep.QuietTactic
import Derived.BigQuiet
namespace Go.Proofs.YtgnjmmaahpngpaaDoor
open Go Go.RowKit

def numB (h : Hv) : Bool := decide (1 ≤ h.w) && decide (h.w ≤ 4) && fitsB h.n h.w
def longB (h : Hv) : Bool := decide (0 < h.v) && decide (h.v < 4294967296) && decide (h.to.length ≤ 20) && decide (h.fr.length ≤ 20) && decide (h.p = 0) && numB h
def shortB (h : Hv) : Bool := decide (h.v = 0) && decide (h.to.length = 8) && decide (h.fr.length = 0) && decide (h.tk.length = 0) && (decide (h.p = 0) || decide (h.p = 1)) && numB h
def rightB (h : Hv) : Bool :=
  if h.k = 0 then longB h && decide (h.tk.length ≤ 64)
  else if h.k = 1 ∨ h.k = 2 then longB h && decide (h.tk.length = 0)
  else if h.k = 3 then shortB h else false
theorem ret_bool {a b : Bool} (h : a = b) : Ending.returned (.bool a) = .returned (.bool b) := by rw [h]

set_option maxRecDepth 20000 in
set_option maxHeartbeats 1000000 in
theorem fits_any (w : World) (n : Int) (k : Nat) (h1 : 1 ≤ k) (h4 : k ≤ 4) : Calls Tryd.prog 31 #[.int .i64 n, .int .i64 (k : Int)] w fun e w' => e = .returned (.bool (fitsB n (k : Int))) ∧ w = w' := by
  have h : k = 1 ∨ k = 2 ∨ k = 3 ∨ k = 4 := by omega
  clear h1 h4
  by_cases h0 : 0 ≤ n
  · rcases h with rfl | rfl | rfl | rfl
    · by_cases hn : n < 256
      all_goals
        go_enter Tryd.func31, Tryd.ntmps31
        go_wp2
        go_ret
        exact ⟨ret_bool (by simp [fitsB, h0, hn]), rfl⟩
    · by_cases hn : n < 65536
      all_goals
        go_enter Tryd.func31, Tryd.ntmps31
        go_wp2
        go_ret
        exact ⟨ret_bool (by simp [fitsB, h0, hn]), rfl⟩
    · by_cases hn : n < 16777216
      all_goals
        go_enter Tryd.func31, Tryd.ntmps31
        go_wp2
        go_ret
        exact ⟨ret_bool (by simp [fitsB, h0, hn]), rfl⟩
    · by_cases hn : n < 4294967296
      all_goals
        go_enter Tryd.func31, Tryd.ntmps31
        go_wp2
        go_ret
        exact ⟨ret_bool (by simp [fitsB, h0, hn]), rfl⟩
  · have HE : Hid (fitsB n (k : Int) = false) := Lib.hid (by simp [fitsB, h0])
    go_enter Tryd.func31, Tryd.ntmps31
    go_wp2
    go_ret
    exact ⟨ret_bool HE.out.symm, rfl⟩

set_option maxRecDepth 20000 in
set_option maxHeartbeats 1000000 in
theorem isver_any (w : World) (n : Int) : Calls Tryd.prog 23 #[.int .i64 n] w fun e w' => e = .returned (.bool (decide (0 < n) && decide (n < 4294967296))) ∧ w = w' := by
  have hf := fits_any w n 4 (by decide) (by decide)
  by_cases h0 : 0 < n
  · have HE : Hid ((decide (0 < n) && decide (n < 4294967296)) = fitsB n ((4 : Nat) : Int)) := Lib.hid (by simp [fitsB, h0]; omega)
    generalize fitsB n ((4 : Nat) : Int) = X at *
    go_enter Tryd.func23, Tryd.ntmps23
    go_wp2_with (go_at_call 31; refine hf.mono ?_; rintro e w' ⟨rfl, rfl⟩)
    go_ret
    exact ⟨ret_bool HE.out.symm, rfl⟩
  · have HE : Hid ((decide (0 < n) && decide (n < 4294967296)) = false) := Lib.hid (by simp [h0])
    clear hf
    go_enter Tryd.func23, Tryd.ntmps23
    go_wp2_with fail
    go_ret
    exact ⟨ret_bool HE.out.symm, rfl⟩

set_option maxRecDepth 20000 in
set_option maxHeartbeats 1000000 in
theorem rnum_any (w : World) (h : Hv) (a2 : Option Addr) (n2 c2 : Nat) (a3 : Option Addr) (n3 c3 : Nat) (a4 : Option Addr) (n4 c4 : Nat) :
    Calls Tryd.prog 24 #[.agg #[.int .i64 h.k, .int .i64 h.v, .slice a2 n2 c2, .slice a3 n3 c3, .slice a4 n4 c4, .int .i64 h.p, .int .i64 h.n, .int .i64 h.w]] w fun e w' => e = .returned (.bool (numB h)) ∧ Below w.heap.size w w' := by
  have hB := below_alloc w (.cells #[.int .i64 h.k, .int .i64 h.v, .slice a2 n2 c2, .slice a3 n3 c3, .slice a4 n4 c4, .int .i64 h.p, .int .i64 h.n, .int .i64 h.w] 29)
  by_cases h1 : 1 ≤ h.w
  · by_cases h4 : h.w ≤ 4
    · obtain ⟨k, hk⟩ : ∃ k : Nat, h.w = (k : Int) := ⟨h.w.toNat, by omega⟩
      have hf := fits_any (w.alloc (.cells #[.int .i64 h.k, .int .i64 h.v, .slice a2 n2 c2, .slice a3 n3 c3, .slice a4 n4 c4, .int .i64 h.p, .int .i64 h.n, .int .i64 h.w] 29)) h.n k (by omega) (by omega)
      rw [← hk] at hf
      have HE : Hid (numB h = fitsB h.n h.w) := Lib.hid (by simp [numB, h1, h4])
      clear hk
      generalize fitsB h.n h.w = X at *
      go_enter Tryd.func24, Tryd.ntmps24
      go_wp2_with (go_at_call 31; refine hf.mono ?_; rintro e w' ⟨rfl, rfl⟩)
      go_ret
      exact ⟨ret_bool HE.out.symm, hB⟩
    · have HE : Hid (numB h = false) := Lib.hid (by simp [numB, h4])
      go_enter Tryd.func24, Tryd.ntmps24
      go_wp2_with fail
      go_ret
      exact ⟨ret_bool HE.out.symm, hB⟩
  · have HE : Hid (numB h = false) := Lib.hid (by simp [numB, h1])
    go_enter Tryd.func24, Tryd.ntmps24
    go_wp2_with fail
    go_ret
    exact ⟨ret_bool HE.out.symm, hB⟩

set_option maxRecDepth 20000 in
set_option maxHeartbeats 2000000 in
theorem rlong_any (w : World) (h : Hv) (a2 : Option Addr) (c2 : Nat) (a3 : Option Addr) (c3 : Nat) (a4 : Option Addr) (c4 : Nat) (hl2 : h.to.length ≤ 1000) (hl3 : h.fr.length ≤ 1000) (_hl4 : h.tk.length ≤ 1000) :
    Calls Tryd.prog 16 #[.agg #[.int .i64 h.k, .int .i64 h.v, .slice a2 h.to.length c2, .slice a3 h.fr.length c3, .slice a4 h.tk.length c4, .int .i64 h.p, .int .i64 h.n, .int .i64 h.w]] w fun e w' => e = .returned (.bool (longB h)) ∧ Below w.heap.size w w' := by
  have hB := below_alloc w (.cells #[.int .i64 h.k, .int .i64 h.v, .slice a2 h.to.length c2, .slice a3 h.fr.length c3, .slice a4 h.tk.length c4, .int .i64 h.p, .int .i64 h.n, .int .i64 h.w] 29)
  have fin : ∀ b, b = longB h → ∀ w', Below w.heap.size w w' → (Ending.returned (.bool b) = .returned (.bool (longB h)) ∧ Below w.heap.size w w') := fun b e w' hb => ⟨ret_bool e, hb⟩
  by_cases c1 : 0 < h.v
  · have hf := isver_any (w.alloc (.cells #[.int .i64 h.k, .int .i64 h.v, .slice a2 h.to.length c2, .slice a3 h.fr.length c3, .slice a4 h.tk.length c4, .int .i64 h.p, .int .i64 h.n, .int .i64 h.w] 29)) h.v
    by_cases c2' : h.v < 4294967296
    · have e2 : (decide (0 < h.v) && decide (h.v < 4294967296)) = true := by simp [c1, c2']
      rw [e2] at hf
      by_cases c3' : h.to.length ≤ 20
      · by_cases c4' : h.fr.length ≤ 20
        · by_cases c5 : h.p = 0
          · have hn := rnum_any (w.alloc (.cells #[.int .i64 h.k, .int .i64 h.v, .slice a2 h.to.length c2, .slice a3 h.fr.length c3, .slice a4 h.tk.length c4, .int .i64 h.p, .int .i64 h.n, .int .i64 h.w] 29)) h a2 h.to.length c2 a3 h.fr.length c3 a4 h.tk.length c4
            have fin' := fin (numB h) (by simp [longB, c1, c2', c3', c4', c5])
            have e5 : (h.p == 0) = true := by simp [c5]
            clear c5 fin
            generalize numB h = X at *
            go_enter Tryd.func16, Tryd.ntmps16
            go_wp2_with (first | (go_at_call 23; refine hf.mono ?_; rintro e w' ⟨rfl, rfl⟩) | (go_at_call 24; refine hn.mono ?_; rintro e w1 ⟨rfl, hb1⟩))
            go_ret
            exact fin' _ (hB.trans (hb1.mono hB.size))
          · have fin' := fin false (by simp [longB, c5])
            have e5 : (h.p == 0) = false := by simp [c5]
            clear c5 fin
            go_enter Tryd.func16, Tryd.ntmps16
            go_wp2_with (go_at_call 23; refine hf.mono ?_; rintro e w' ⟨rfl, rfl⟩)
            go_ret
            exact fin' _ hB
        · have fin' := fin false (by simp [longB, c4'])
          go_enter Tryd.func16, Tryd.ntmps16
          go_wp2_with (go_at_call 23; refine hf.mono ?_; rintro e w' ⟨rfl, rfl⟩)
          go_ret
          exact fin' _ hB
      · have fin' := fin false (by simp [longB, c3'])
        go_enter Tryd.func16, Tryd.ntmps16
        go_wp2_with (go_at_call 23; refine hf.mono ?_; rintro e w' ⟨rfl, rfl⟩)
        go_ret
        exact fin' _ hB
    · have e2 : (decide (0 < h.v) && decide (h.v < 4294967296)) = false := by simp [c2']
      rw [e2] at hf
      have fin' := fin false (by simp [longB, c2'])
      go_enter Tryd.func16, Tryd.ntmps16
      go_wp2_with (go_at_call 23; refine hf.mono ?_; rintro e w' ⟨rfl, rfl⟩)
      go_ret
      exact fin' _ hB
  · have hf := isver_any (w.alloc (.cells #[.int .i64 h.k, .int .i64 h.v, .slice a2 h.to.length c2, .slice a3 h.fr.length c3, .slice a4 h.tk.length c4, .int .i64 h.p, .int .i64 h.n, .int .i64 h.w] 29)) h.v
    have e2 : (decide (0 < h.v) && decide (h.v < 4294967296)) = false := by simp [c1]
    rw [e2] at hf
    have fin' := fin false (by simp [longB, c1])
    go_enter Tryd.func16, Tryd.ntmps16
    go_wp2_with (go_at_call 23; refine hf.mono ?_; rintro e w' ⟨rfl, rfl⟩)
    go_ret
    exact fin' _ hB

set_option maxRecDepth 20000 in
set_option maxHeartbeats 2000000 in
theorem rshort_any (w : World) (h : Hv) (a2 : Option Addr) (c2 : Nat) (a3 : Option Addr) (c3 : Nat) (a4 : Option Addr) (c4 : Nat) (_hl2 : h.to.length ≤ 1000) (_hl3 : h.fr.length ≤ 1000) (_hl4 : h.tk.length ≤ 1000) :
    Calls Tryd.prog 17 #[.agg #[.int .i64 h.k, .int .i64 h.v, .slice a2 h.to.length c2, .slice a3 h.fr.length c3, .slice a4 h.tk.length c4, .int .i64 h.p, .int .i64 h.n, .int .i64 h.w]] w fun e w' => e = .returned (.bool (shortB h)) ∧ Below w.heap.size w w' := by
  have hB := below_alloc w (.cells #[.int .i64 h.k, .int .i64 h.v, .slice a2 h.to.length c2, .slice a3 h.fr.length c3, .slice a4 h.tk.length c4, .int .i64 h.p, .int .i64 h.n, .int .i64 h.w] 29)
  have fin : ∀ b, b = shortB h → ∀ w', Below w.heap.size w w' → (Ending.returned (.bool b) = .returned (.bool (shortB h)) ∧ Below w.heap.size w w') := fun b e w' hb => ⟨ret_bool e, hb⟩
  by_cases c1' : h.v = 0
  · have d0 : (h.v == 0) = true := by simp [c1']
    have HC0 := Lib.hid c1'
    clear c1'
    by_cases c2' : h.to.length = 8
    · have d1 : ((h.to.length : Int) == 8) = true := by simp [c2']
      have HC1 := Lib.hid c2'
      clear c2'
      by_cases c3' : h.fr.length = 0
      · have d2 : ((h.fr.length : Int) == 0) = true := by simp [c3']
        have HC2 := Lib.hid c3'
        clear c3'
        by_cases c4' : h.tk.length = 0
        · have d3 : ((h.tk.length : Int) == 0) = true := by simp [c4']
          have HC3 := Lib.hid c4'
          clear c4'
          by_cases c5' : h.p = 0
          · have d4 : (h.p == 0) = true := by simp [c5']
            have hn := rnum_any (w.alloc (.cells #[.int .i64 h.k, .int .i64 h.v, .slice a2 h.to.length c2, .slice a3 h.fr.length c3, .slice a4 h.tk.length c4, .int .i64 h.p, .int .i64 h.n, .int .i64 h.w] 29)) h a2 h.to.length c2 a3 h.fr.length c3 a4 h.tk.length c4
            have fin' := fin (numB h) (by simp [shortB, HC0.out, HC1.out, HC2.out, HC3.out, c5'])
            clear fin c5'
            generalize numB h = X at *
            go_enter Tryd.func17, Tryd.ntmps17
            go_wp2_with (go_at_call 24; refine hn.mono ?_; rintro e w1 ⟨rfl, hb1⟩)
            go_ret
            exact fin' _ (hB.trans (hb1.mono hB.size))
          · have d4 : (h.p == 0) = false := by simp [c5']
            by_cases c6' : h.p = 1
            · have d5 : (h.p == 1) = true := by simp [c6']
              have hn := rnum_any (w.alloc (.cells #[.int .i64 h.k, .int .i64 h.v, .slice a2 h.to.length c2, .slice a3 h.fr.length c3, .slice a4 h.tk.length c4, .int .i64 h.p, .int .i64 h.n, .int .i64 h.w] 29)) h a2 h.to.length c2 a3 h.fr.length c3 a4 h.tk.length c4
              have fin' := fin (numB h) (by simp [shortB, HC0.out, HC1.out, HC2.out, HC3.out, c6'])
              clear fin c5' c6'
              generalize numB h = X at *
              go_enter Tryd.func17, Tryd.ntmps17
              go_wp2_with (go_at_call 24; refine hn.mono ?_; rintro e w1 ⟨rfl, hb1⟩)
              go_ret
              exact fin' _ (hB.trans (hb1.mono hB.size))
            · have d5 : (h.p == 1) = false := by simp [c6']
              have fin' := fin false (by simp [shortB, c5', c6'])
              clear fin c5' c6'
              go_enter Tryd.func17, Tryd.ntmps17
              go_wp2_with fail
              go_ret
              exact fin' _ hB
        · have d3 : ((h.tk.length : Int) == 0) = false := beq_eq_false_iff_ne.2 (by omega)
          have fin' := fin false (by simp [shortB, c4'])
          clear fin c4'
          go_enter Tryd.func17, Tryd.ntmps17
          go_wp2_with fail
          go_ret
          exact fin' _ hB
      · have d2 : ((h.fr.length : Int) == 0) = false := beq_eq_false_iff_ne.2 (by omega)
        have fin' := fin false (by simp [shortB, c3'])
        clear fin c3'
        go_enter Tryd.func17, Tryd.ntmps17
        go_wp2_with fail
        go_ret
        exact fin' _ hB
    · have d1 : ((h.to.length : Int) == 8) = false := beq_eq_false_iff_ne.2 (by omega)
      have fin' := fin false (by simp [shortB, c2'])
      clear fin c2'
      go_enter Tryd.func17, Tryd.ntmps17
      go_wp2_with fail
      go_ret
      exact fin' _ hB
  · have d0 : (h.v == 0) = false := by simp [c1']
    have fin' := fin false (by simp [shortB, c1'])
    clear fin c1'
    go_enter Tryd.func17, Tryd.ntmps17
    go_wp2_with fail
    go_ret
    exact fin' _ hB

set_option maxRecDepth 20000 in
set_option maxHeartbeats 4000000 in
theorem right_any (w : World) (h : Hv) (a2 : Option Addr) (c2 : Nat) (a3 : Option Addr) (c3 : Nat) (a4 : Option Addr) (c4 : Nat) (hl2 : h.to.length ≤ 1000) (hl3 : h.fr.length ≤ 1000) (hl4 : h.tk.length ≤ 1000) :
    Calls Tryd.prog 11 #[.agg #[.int .i64 h.k, .int .i64 h.v, .slice a2 h.to.length c2, .slice a3 h.fr.length c3, .slice a4 h.tk.length c4, .int .i64 h.p, .int .i64 h.n, .int .i64 h.w]] w fun e w' => e = .returned (.bool (rightB h)) ∧ Below w.heap.size w w' := by
  have hB := below_alloc w (.cells #[.int .i64 h.k, .int .i64 h.v, .slice a2 h.to.length c2, .slice a3 h.fr.length c3, .slice a4 h.tk.length c4, .int .i64 h.p, .int .i64 h.n, .int .i64 h.w] 29)
  have hbx : (w.alloc (.cells #[.int .i64 h.k, .int .i64 h.v, .slice a2 h.to.length c2, .slice a3 h.fr.length c3, .slice a4 h.tk.length c4, .int .i64 h.p, .int .i64 h.n, .int .i64 h.w] 29)).heap[w.heap.size]? = some (.cells #[.int .i64 h.k, .int .i64 h.v, .slice a2 h.to.length c2, .slice a3 h.fr.length c3, .slice a4 h.tk.length c4, .int .i64 h.p, .int .i64 h.n, .int .i64 h.w] 29 (0, 0)) := heap_alloc_new _ _
  have x4 : (w.alloc (.cells #[.int .i64 h.k, .int .i64 h.v, .slice a2 h.to.length c2, .slice a3 h.fr.length c3, .slice a4 h.tk.length c4, .int .i64 h.p, .int .i64 h.n, .int .i64 h.w] 29)).cell? ⟨w.heap.size, 4, none⟩ = some (.slice a4 h.tk.length c4) := (cell_of_row _ w.heap.size 4 _ 29 (0, 0) hbx).trans rfl
  clear hbx
  have hn := rlong_any (w.alloc (.cells #[.int .i64 h.k, .int .i64 h.v, .slice a2 h.to.length c2, .slice a3 h.fr.length c3, .slice a4 h.tk.length c4, .int .i64 h.p, .int .i64 h.n, .int .i64 h.w] 29)) h a2 c2 a3 c3 a4 c4 hl2 hl3 hl4
  have hs := rshort_any (w.alloc (.cells #[.int .i64 h.k, .int .i64 h.v, .slice a2 h.to.length c2, .slice a3 h.fr.length c3, .slice a4 h.tk.length c4, .int .i64 h.p, .int .i64 h.n, .int .i64 h.w] 29)) h a2 c2 a3 c3 a4 c4 hl2 hl3 hl4
  have fin : ∀ b, b = rightB h → ∀ w', Below w.heap.size w w' → (Ending.returned (.bool b) = .returned (.bool (rightB h)) ∧ Below w.heap.size w w') := fun b e w' hb => ⟨ret_bool e, hb⟩
  by_cases hk : h.k = 0
  · have k0 : (h.k == 0) = true := by simp [hk]
    by_cases hX : longB h = true
    · rw [hX] at hn
      by_cases hT : h.tk.length ≤ 64
      · have fin' := fin true (by simp [rightB, hX, hT, hk])
        have t1 : decide ((h.tk.length : Int) ≤ 64) = true := decide_eq_true (by omega)
        skip
        clear fin hX hT hs hk
        go_enter Tryd.func11, Tryd.ntmps11
        go_wp2_with (go_at_call 16; refine hn.mono ?_; rintro e w1 ⟨rfl, hb1⟩; have x4' := keepS hb1 x4)
        go_ret
        exact fin' _ (hB.trans (hb1.mono hB.size))
      · have fin' := fin false (by simp [rightB, hX, hT, hk])
        have t1 : decide ((h.tk.length : Int) ≤ 64) = false := decide_eq_false (by omega)
        skip
        clear fin hX hT hs hk
        go_enter Tryd.func11, Tryd.ntmps11
        go_wp2_with (go_at_call 16; refine hn.mono ?_; rintro e w1 ⟨rfl, hb1⟩; have x4' := keepS hb1 x4)
        go_ret
        exact fin' _ (hB.trans (hb1.mono hB.size))
    · have hX' : longB h = false := by simpa using hX
      rw [hX'] at hn
      have fin' := fin false (by simp [rightB, hX', hk])
      skip
      clear fin hX hX' hs hk
      go_enter Tryd.func11, Tryd.ntmps11
      go_wp2_with (go_at_call 16; refine hn.mono ?_; rintro e w1 ⟨rfl, hb1⟩)
      go_ret
      exact fin' _ (hB.trans (hb1.mono hB.size))
  · have k0 : (h.k == 0) = false := beq_eq_false_iff_ne.2 hk
    have HK0 := Lib.hid hk
    clear hk
    by_cases hk : h.k = 1
    · have k1 : (h.k == 1) = true := by simp [hk]
      by_cases hX : longB h = true
      · rw [hX] at hn
        by_cases hT : h.tk.length = 0
        · have fin' := fin true (by simp [rightB, hX, hT, hk])
          have t1 : ((h.tk.length : Int) == 0) = true := beq_iff_eq.2 (by omega)
          skip
          clear fin hX hT hs hk
          go_enter Tryd.func11, Tryd.ntmps11
          go_wp2_with (go_at_call 16; refine hn.mono ?_; rintro e w1 ⟨rfl, hb1⟩; have x4' := keepS hb1 x4)
          go_ret
          exact fin' _ (hB.trans (hb1.mono hB.size))
        · have fin' := fin false (by simp [rightB, hX, hT, hk])
          have t1 : ((h.tk.length : Int) == 0) = false := beq_eq_false_iff_ne.2 (by omega)
          skip
          clear fin hX hT hs hk
          go_enter Tryd.func11, Tryd.ntmps11
          go_wp2_with (go_at_call 16; refine hn.mono ?_; rintro e w1 ⟨rfl, hb1⟩; have x4' := keepS hb1 x4)
          go_ret
          exact fin' _ (hB.trans (hb1.mono hB.size))
      · have hX' : longB h = false := by simpa using hX
        rw [hX'] at hn
        have fin' := fin false (by simp [rightB, hX', hk])
        skip
        clear fin hX hX' hs hk
        go_enter Tryd.func11, Tryd.ntmps11
        go_wp2_with (go_at_call 16; refine hn.mono ?_; rintro e w1 ⟨rfl, hb1⟩)
        go_ret
        exact fin' _ (hB.trans (hb1.mono hB.size))
    · have k1 : (h.k == 1) = false := beq_eq_false_iff_ne.2 hk
      have HK1 := Lib.hid hk
      clear hk
      by_cases hk : h.k = 2
      · have k2 : (h.k == 2) = true := by simp [hk]
        by_cases hX : longB h = true
        · rw [hX] at hn
          by_cases hT : h.tk.length = 0
          · have fin' := fin true (by simp [rightB, hX, hT, hk])
            have t1 : ((h.tk.length : Int) == 0) = true := beq_iff_eq.2 (by omega)
            skip
            clear fin hX hT hs hk
            go_enter Tryd.func11, Tryd.ntmps11
            go_wp2_with (go_at_call 16; refine hn.mono ?_; rintro e w1 ⟨rfl, hb1⟩; have x4' := keepS hb1 x4)
            go_ret
            exact fin' _ (hB.trans (hb1.mono hB.size))
          · have fin' := fin false (by simp [rightB, hX, hT, hk])
            have t1 : ((h.tk.length : Int) == 0) = false := beq_eq_false_iff_ne.2 (by omega)
            skip
            clear fin hX hT hs hk
            go_enter Tryd.func11, Tryd.ntmps11
            go_wp2_with (go_at_call 16; refine hn.mono ?_; rintro e w1 ⟨rfl, hb1⟩; have x4' := keepS hb1 x4)
            go_ret
            exact fin' _ (hB.trans (hb1.mono hB.size))
        · have hX' : longB h = false := by simpa using hX
          rw [hX'] at hn
          have fin' := fin false (by simp [rightB, hX', hk])
          skip
          clear fin hX hX' hs hk
          go_enter Tryd.func11, Tryd.ntmps11
          go_wp2_with (go_at_call 16; refine hn.mono ?_; rintro e w1 ⟨rfl, hb1⟩)
          go_ret
          exact fin' _ (hB.trans (hb1.mono hB.size))
      · have k2 : (h.k == 2) = false := beq_eq_false_iff_ne.2 hk
        have HK2 := Lib.hid hk
        clear hk
        by_cases hk : h.k = 3
        · have k3 : (h.k == 3) = true := by simp [hk]
          have fin' := fin (shortB h) (by simp [rightB, hk])
          clear fin hk hn
          generalize shortB h = X at *
          go_enter Tryd.func11, Tryd.ntmps11
          go_wp2_with (go_at_call 17; refine hs.mono ?_; rintro e w1 ⟨rfl, hb1⟩)
          go_ret
          exact fin' _ (hB.trans (hb1.mono hB.size))
        · have k3 : (h.k == 3) = false := beq_eq_false_iff_ne.2 hk
          have fin' := fin false (by simp [rightB, HK0.out, HK1.out, HK2.out, hk])
          clear fin hk hn hs
          go_enter Tryd.func11, Tryd.ntmps11
          go_wp2_with fail
          go_ret
          exact fin' _ hB

#print axioms right_any
#print axioms rnum_any
#print axioms rlong_any
#print axioms rshort_any
end Go.Proofs.YtgnjmmaahpngpaaDoor
