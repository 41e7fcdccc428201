/- The document's Right tells the same. -/
import Derived.Test.YtnnllnbegmdfaaaDoorHRight
namespace Go.Proofs.YtnnllnbegmdfaaaDoor
open Go Go.RowKit

theorem num_facts {h : Hv} (hX : numB h = true) : ∃ k : Nat, (h.w = (k : Int) ∧ k ≤ 4) ∧ decide (h.w < 1) = false ∧ decide (4 < h.w) = false ∧ decide (h.n < 0) = false ∧ decide ((256 : Int) ^ k ≤ h.n) = false := by
  unfold numB fitsB at hX
  simp only [Bool.and_eq_true, decide_eq_true_eq] at hX
  obtain ⟨⟨h1, h2⟩, h3, h4⟩ := hX
  refine ⟨h.w.toNat, ⟨by omega, by omega⟩, decide_eq_false (by omega), decide_eq_false (by omega), decide_eq_false (by omega), decide_eq_false (by omega)⟩

set_option maxRecDepth 20000 in
set_option maxHeartbeats 8000000 in
theorem refshort (w : World) (h : Hv) (a2 : Option Addr) (c2 : Nat) (a3 : Option Addr) (c3 : Nat) (a4 : Option Addr) (c4 : Nat) (_hl2 : h.to.length ≤ 1000) (_hl3 : h.fr.length ≤ 1000) (_hl4 : h.tk.length ≤ 1000) (hX : numB h = true) (hk3 : h.k = 3) :
    Calls Tryd.prog 13 #[.agg #[.int .i64 h.k, .int .i64 h.v, .slice a2 h.to.length c2, .slice a3 h.fr.length c3, .slice a4 h.tk.length c4, .int .i64 h.p, .int .i64 h.n, .int .i64 h.w]] w fun e w' => e = .returned (.bool (rightB h)) ∧ Below w.heap.size w w' := by
  have hB := below_alloc w (.cells #[.int .i64 h.k, .int .i64 h.v, .slice a2 h.to.length c2, .slice a3 h.fr.length c3, .slice a4 h.tk.length c4, .int .i64 h.p, .int .i64 h.n, .int .i64 h.w] 24)
  have fin : ∀ b, b = rightB h → ∀ w', Below w.heap.size w w' → (Ending.returned (.bool b) = .returned (.bool (rightB h)) ∧ Below w.heap.size w w') := fun b e w' hb => ⟨ret_bool e, hb⟩
  have HX := Lib.hid hX
  obtain ⟨k, hk, g1, g4, g0, g5⟩ := num_facts hX
  have hpw : ∀ w : World, Calls Tryd.prog 26 #[.int .i64 h.w] w fun e w' => e = .returned (.int .i64 (256 ^ k)) ∧ w = w' := fun w => by rw [hk.1]; exact power_any w k hk.2
  clear hk hX
  generalize (256 : Int) ^ k = B at *
  have k3 : (h.k == 3) = true := by simp [hk3]
  have HK := Lib.hid hk3
  clear hk3
  by_cases q0 : h.v = 0
  · have r0 : (h.v == 0) = true := by simp [q0]
    have HQ0 := Lib.hid q0
    clear q0
    by_cases q1 : h.to.length = 8
    · have r1 : ((h.to.length : Int) == 8) = true := beq_iff_eq.2 (by omega)
      have HQ1 := Lib.hid q1
      clear q1
      by_cases q2 : h.fr.length = 0
      · have r2 : ((h.fr.length : Int) == 0) = true := beq_iff_eq.2 (by omega)
        have HQ2 := Lib.hid q2
        clear q2
        by_cases q3 : h.tk.length = 0
        · have r3 : ((h.tk.length : Int) == 0) = true := beq_iff_eq.2 (by omega)
          have HQ3 := Lib.hid q3
          clear q3
          by_cases q4 : 0 ≤ h.p
          · by_cases q5 : h.p ≤ 1
            · have r5 : decide (h.p ≤ 1) = true := decide_eq_true q5
              have r4 : decide (0 ≤ h.p) = true := decide_eq_true q4
              have q6 : (decide (h.p = 0) || decide (h.p = 1)) = true := by simp; omega
              have fin' := fin true (by simp [rightB, shortB, HK.out, HX.out, HQ0.out, HQ1.out, HQ2.out, HQ3.out]; omega)
              clear fin q6
              go_enter Tryd.func13, Tryd.ntmps13
              go_wp2_with fail
              go_quiet ((go_at_call 26; exact Calls.quiet_of_same ((hpw _).mono fun _ _ ⟨x, y⟩ => And.intro x y.symm)))
              go_wp2_with fail
              go_ret
              exact fin' _ (below_drewN hB nq)
            · have r45 : decide (h.p ≤ 1) = false := decide_eq_false q5
              have fin' := fin false (by simp [rightB, shortB, HK.out]; omega)
              clear fin
              go_enter Tryd.func13, Tryd.ntmps13
              go_wp2_with fail
              go_quiet ((go_at_call 26; exact Calls.quiet_of_same ((hpw _).mono fun _ _ ⟨x, y⟩ => And.intro x y.symm)))
              go_wp2_with fail
              go_ret
              exact fin' _ (below_drewN hB nq)
          · have r45 : decide (0 ≤ h.p) = false := decide_eq_false q4
            have fin' := fin false (by simp [rightB, shortB, HK.out]; omega)
            clear fin
            go_enter Tryd.func13, Tryd.ntmps13
            go_wp2_with fail
            go_quiet ((go_at_call 26; exact Calls.quiet_of_same ((hpw _).mono fun _ _ ⟨x, y⟩ => And.intro x y.symm)))
            go_wp2_with fail
            go_ret
            exact fin' _ (below_drewN hB nq)
        · have r3 : ((h.tk.length : Int) == 0) = false := beq_eq_false_iff_ne.2 (by omega)
          have fin' := fin false (by simp [rightB, shortB, HK.out, q3])
          clear fin q3
          go_enter Tryd.func13, Tryd.ntmps13
          go_wp2_with fail
          go_quiet ((go_at_call 26; exact Calls.quiet_of_same ((hpw _).mono fun _ _ ⟨x, y⟩ => And.intro x y.symm)))
          go_wp2_with fail
          go_ret
          exact fin' _ (below_drewN hB nq)
      · have r2 : ((h.fr.length : Int) == 0) = false := beq_eq_false_iff_ne.2 (by omega)
        have fin' := fin false (by simp [rightB, shortB, HK.out, q2])
        clear fin q2
        go_enter Tryd.func13, Tryd.ntmps13
        go_wp2_with fail
        go_quiet ((go_at_call 26; exact Calls.quiet_of_same ((hpw _).mono fun _ _ ⟨x, y⟩ => And.intro x y.symm)))
        go_wp2_with fail
        go_ret
        exact fin' _ (below_drewN hB nq)
    · have r1 : ((h.to.length : Int) == 8) = false := beq_eq_false_iff_ne.2 (by omega)
      have fin' := fin false (by simp [rightB, shortB, HK.out, q1])
      clear fin q1
      go_enter Tryd.func13, Tryd.ntmps13
      go_wp2_with fail
      go_quiet ((go_at_call 26; exact Calls.quiet_of_same ((hpw _).mono fun _ _ ⟨x, y⟩ => And.intro x y.symm)))
      go_wp2_with fail
      go_ret
      exact fin' _ (below_drewN hB nq)
  · have r0 : (h.v == 0) = false := beq_eq_false_iff_ne.2 q0
    have fin' := fin false (by simp [rightB, shortB, HK.out, q0])
    clear fin q0
    go_enter Tryd.func13, Tryd.ntmps13
    go_wp2_with fail
    go_quiet ((go_at_call 26; exact Calls.quiet_of_same ((hpw _).mono fun _ _ ⟨x, y⟩ => And.intro x y.symm)))
    go_wp2_with fail
    go_ret
    exact fin' _ (below_drewN hB nq)

theorem long_of (h : Hv) (hk : h.k = 0 ∨ h.k = 1 ∨ h.k = 2) : rightB h = (decide (1 ≤ h.v) && decide (h.v ≤ 4294967295) && decide (h.to.length ≤ 20) && decide (h.fr.length ≤ 20) && decide (h.p = 0) && numB h && (decide (h.tk.length = 0) || (decide (h.k = 0) && decide (h.tk.length ≤ 64)))) := by
  have e1 : decide (0 < h.v) = decide (1 ≤ h.v) := by rw [decide_eq_decide]; omega
  have e2 : decide (h.v < 4294967296) = decide (h.v ≤ 4294967295) := by rw [decide_eq_decide]; omega
  unfold rightB longB
  rw [e1, e2]
  rcases hk with hk | hk | hk
  · have e3 : (decide (h.tk.length = 0) || (decide (h.k = 0) && decide (h.tk.length ≤ 64))) = decide (h.tk.length ≤ 64) := by
      rw [hk]
      by_cases hx : h.tk.length = 0
      · rw [hx]; rfl
      · rw [decide_eq_false hx]; simp
    rw [e3, if_pos hk]
  · have e3 : (decide (h.tk.length = 0) || (decide (h.k = 0) && decide (h.tk.length ≤ 64))) = decide (h.tk.length = 0) := by
      rw [hk, Bool.eq_iff_iff]; simp
    rw [e3, if_neg (by omega), if_pos (.inl hk)]
  · have e3 : (decide (h.tk.length = 0) || (decide (h.k = 0) && decide (h.tk.length ≤ 64))) = decide (h.tk.length = 0) := by
      rw [hk, Bool.eq_iff_iff]; simp
    rw [e3, if_neg (by omega), if_pos (.inr hk)]

set_option maxRecDepth 20000 in
set_option maxHeartbeats 8000000 in
theorem reflong0 (w : World) (h : Hv) (a2 : Option Addr) (c2 : Nat) (a3 : Option Addr) (c3 : Nat) (a4 : Option Addr) (c4 : Nat) (hl2 : h.to.length ≤ 1000) (hl3 : h.fr.length ≤ 1000) (hl4 : h.tk.length ≤ 1000) (hX : numB h = true) (hkk : h.k = 0) :
    Calls Tryd.prog 13 #[.agg #[.int .i64 h.k, .int .i64 h.v, .slice a2 h.to.length c2, .slice a3 h.fr.length c3, .slice a4 h.tk.length c4, .int .i64 h.p, .int .i64 h.n, .int .i64 h.w]] w fun e w' => e = .returned (.bool (rightB h)) ∧ Below w.heap.size w w' := by
  have hB := below_alloc w (.cells #[.int .i64 h.k, .int .i64 h.v, .slice a2 h.to.length c2, .slice a3 h.fr.length c3, .slice a4 h.tk.length c4, .int .i64 h.p, .int .i64 h.n, .int .i64 h.w] 24)
  have fin : ∀ b, b = rightB h → ∀ w', Below w.heap.size w w' → (Ending.returned (.bool b) = .returned (.bool (rightB h)) ∧ Below w.heap.size w w') := fun b e w' hb => ⟨ret_bool e, hb⟩
  have HX := Lib.hid hX
  obtain ⟨k, hk, g1, g4, g0, g5⟩ := num_facts hX
  have hpw : ∀ w : World, Calls Tryd.prog 26 #[.int .i64 h.w] w fun e w' => e = .returned (.int .i64 (256 ^ k)) ∧ w = w' := fun w => by rw [hk.1]; exact power_any w k hk.2
  clear hk hX
  generalize (256 : Int) ^ k = B at *
  have k3 : (h.k == 3) = false := by simp [hkk]
  have k0 : (h.k == 0) = true := by simp [hkk]
  have k1 : (h.k == 1) = false := by simp [hkk]
  have k2 : (h.k == 2) = false := by simp [hkk]
  have HL := Lib.hid (long_of h (by omega))
  have HK := Lib.hid hkk
  clear hkk
  by_cases q0 : 1 ≤ h.v
  · have r0 : decide (1 ≤ h.v) = true := decide_eq_true q0
    have HQ0 := Lib.hid q0
    clear q0
    by_cases q1 : h.v ≤ 4294967295
    · have r1 : decide (h.v ≤ 4294967295) = true := decide_eq_true q1
      have HQ1 := Lib.hid q1
      clear q1
      by_cases q2 : h.to.length ≤ 20
      · have r2 : decide ((h.to.length : Int) ≤ 20) = true := decide_eq_true (by omega)
        have HQ2 := Lib.hid q2
        clear q2
        by_cases q3 : h.fr.length ≤ 20
        · have r3 : decide ((h.fr.length : Int) ≤ 20) = true := decide_eq_true (by omega)
          have HQ3 := Lib.hid q3
          clear q3
          by_cases q4 : h.p = 0
          · have r4 : (h.p == 0) = true := by simp [q4]
            have HQ4 := Lib.hid q4
            clear q4
            by_cases q5 : h.tk.length = 0
            · have r5 : ((h.tk.length : Int) == 0) = true := beq_iff_eq.2 (by omega)
              have fin' := fin true (by rw [HL.out]; simp [HX.out, HQ0.out, HQ1.out, HQ2.out, HQ3.out, HQ4.out, q5])
              clear fin q5
              go_enter Tryd.func13, Tryd.ntmps13
              go_wp2_with fail
              go_quiet ((go_at_call 26; exact Calls.quiet_of_same ((hpw _).mono fun _ _ ⟨x, y⟩ => And.intro x y.symm)))
              go_wp2_with fail
              go_ret
              exact fin' _ (below_drewN hB nq)
            · have r5 : ((h.tk.length : Int) == 0) = false := beq_eq_false_iff_ne.2 (by omega)
              by_cases q6 : h.tk.length ≤ 64
              · have r6 : decide ((h.tk.length : Int) ≤ 64) = true := decide_eq_true (by omega)
                have fin' := fin true (by rw [HL.out]; simp [HX.out, HQ0.out, HQ1.out, HQ2.out, HQ3.out, HQ4.out, HK.out, q6])
                clear fin q5 q6
                go_enter Tryd.func13, Tryd.ntmps13
                go_wp2_with fail
                go_quiet ((go_at_call 26; exact Calls.quiet_of_same ((hpw _).mono fun _ _ ⟨x, y⟩ => And.intro x y.symm)))
                go_wp2_with fail
                go_ret
                exact fin' _ (below_drewN hB nq)
              · have r6 : decide ((h.tk.length : Int) ≤ 64) = false := decide_eq_false (by omega)
                have fin' := fin false (by rw [HL.out]; simp [q5, q6])
                clear fin q5 q6
                go_enter Tryd.func13, Tryd.ntmps13
                go_wp2_with fail
                go_quiet ((go_at_call 26; exact Calls.quiet_of_same ((hpw _).mono fun _ _ ⟨x, y⟩ => And.intro x y.symm)))
                go_wp2_with fail
                go_ret
                exact fin' _ (below_drewN hB nq)
          · have r4 : (h.p == 0) = false := beq_eq_false_iff_ne.2 q4
            have fin' := fin false (by rw [HL.out]; simp [q4])
            clear fin q4
            go_enter Tryd.func13, Tryd.ntmps13
            go_wp2_with fail
            go_quiet ((go_at_call 26; exact Calls.quiet_of_same ((hpw _).mono fun _ _ ⟨x, y⟩ => And.intro x y.symm)))
            go_wp2_with fail
            go_ret
            exact fin' _ (below_drewN hB nq)
        · have r3 : decide ((h.fr.length : Int) ≤ 20) = false := decide_eq_false (by omega)
          have fin' := fin false (by rw [HL.out]; simp [q3])
          clear fin q3
          go_enter Tryd.func13, Tryd.ntmps13
          go_wp2_with fail
          go_quiet ((go_at_call 26; exact Calls.quiet_of_same ((hpw _).mono fun _ _ ⟨x, y⟩ => And.intro x y.symm)))
          go_wp2_with fail
          go_ret
          exact fin' _ (below_drewN hB nq)
      · have r2 : decide ((h.to.length : Int) ≤ 20) = false := decide_eq_false (by omega)
        have fin' := fin false (by rw [HL.out]; simp [q2])
        clear fin q2
        go_enter Tryd.func13, Tryd.ntmps13
        go_wp2_with fail
        go_quiet ((go_at_call 26; exact Calls.quiet_of_same ((hpw _).mono fun _ _ ⟨x, y⟩ => And.intro x y.symm)))
        go_wp2_with fail
        go_ret
        exact fin' _ (below_drewN hB nq)
    · have r1 : decide (h.v ≤ 4294967295) = false := decide_eq_false q1
      have fin' := fin false (by rw [HL.out]; simp [q1])
      clear fin q1
      go_enter Tryd.func13, Tryd.ntmps13
      go_wp2_with fail
      go_quiet ((go_at_call 26; exact Calls.quiet_of_same ((hpw _).mono fun _ _ ⟨x, y⟩ => And.intro x y.symm)))
      go_wp2_with fail
      go_ret
      exact fin' _ (below_drewN hB nq)
  · have r0 : decide (1 ≤ h.v) = false := decide_eq_false q0
    have fin' := fin false (by rw [HL.out]; simp [q0])
    clear fin q0
    go_enter Tryd.func13, Tryd.ntmps13
    go_wp2_with fail
    go_quiet ((go_at_call 26; exact Calls.quiet_of_same ((hpw _).mono fun _ _ ⟨x, y⟩ => And.intro x y.symm)))
    go_wp2_with fail
    go_ret
    exact fin' _ (below_drewN hB nq)

set_option maxRecDepth 20000 in
set_option maxHeartbeats 8000000 in
theorem reflong1 (w : World) (h : Hv) (a2 : Option Addr) (c2 : Nat) (a3 : Option Addr) (c3 : Nat) (a4 : Option Addr) (c4 : Nat) (hl2 : h.to.length ≤ 1000) (hl3 : h.fr.length ≤ 1000) (_hl4 : h.tk.length ≤ 1000) (hX : numB h = true) (hkk : h.k = 1) :
    Calls Tryd.prog 13 #[.agg #[.int .i64 h.k, .int .i64 h.v, .slice a2 h.to.length c2, .slice a3 h.fr.length c3, .slice a4 h.tk.length c4, .int .i64 h.p, .int .i64 h.n, .int .i64 h.w]] w fun e w' => e = .returned (.bool (rightB h)) ∧ Below w.heap.size w w' := by
  have hB := below_alloc w (.cells #[.int .i64 h.k, .int .i64 h.v, .slice a2 h.to.length c2, .slice a3 h.fr.length c3, .slice a4 h.tk.length c4, .int .i64 h.p, .int .i64 h.n, .int .i64 h.w] 24)
  have fin : ∀ b, b = rightB h → ∀ w', Below w.heap.size w w' → (Ending.returned (.bool b) = .returned (.bool (rightB h)) ∧ Below w.heap.size w w') := fun b e w' hb => ⟨ret_bool e, hb⟩
  have HX := Lib.hid hX
  obtain ⟨k, hk, g1, g4, g0, g5⟩ := num_facts hX
  have hpw : ∀ w : World, Calls Tryd.prog 26 #[.int .i64 h.w] w fun e w' => e = .returned (.int .i64 (256 ^ k)) ∧ w = w' := fun w => by rw [hk.1]; exact power_any w k hk.2
  clear hk hX
  generalize (256 : Int) ^ k = B at *
  have k3 : (h.k == 3) = false := by simp [hkk]
  have k0 : (h.k == 0) = false := by simp [hkk]
  have k1 : (h.k == 1) = true := by simp [hkk]
  have k2 : (h.k == 2) = false := by simp [hkk]
  have HL := Lib.hid (long_of h (by omega))
  have HK := Lib.hid hkk
  clear hkk
  by_cases q0 : 1 ≤ h.v
  · have r0 : decide (1 ≤ h.v) = true := decide_eq_true q0
    have HQ0 := Lib.hid q0
    clear q0
    by_cases q1 : h.v ≤ 4294967295
    · have r1 : decide (h.v ≤ 4294967295) = true := decide_eq_true q1
      have HQ1 := Lib.hid q1
      clear q1
      by_cases q2 : h.to.length ≤ 20
      · have r2 : decide ((h.to.length : Int) ≤ 20) = true := decide_eq_true (by omega)
        have HQ2 := Lib.hid q2
        clear q2
        by_cases q3 : h.fr.length ≤ 20
        · have r3 : decide ((h.fr.length : Int) ≤ 20) = true := decide_eq_true (by omega)
          have HQ3 := Lib.hid q3
          clear q3
          by_cases q4 : h.p = 0
          · have r4 : (h.p == 0) = true := by simp [q4]
            have HQ4 := Lib.hid q4
            clear q4
            by_cases q5 : h.tk.length = 0
            · have r5 : ((h.tk.length : Int) == 0) = true := beq_iff_eq.2 (by omega)
              have fin' := fin true (by rw [HL.out]; simp [HX.out, HQ0.out, HQ1.out, HQ2.out, HQ3.out, HQ4.out, q5])
              clear fin q5
              go_enter Tryd.func13, Tryd.ntmps13
              go_wp2_with fail
              go_quiet ((go_at_call 26; exact Calls.quiet_of_same ((hpw _).mono fun _ _ ⟨x, y⟩ => And.intro x y.symm)))
              go_wp2_with fail
              go_ret
              exact fin' _ (below_drewN hB nq)
            · have r5 : ((h.tk.length : Int) == 0) = false := beq_eq_false_iff_ne.2 (by omega)
              have fin' := fin false (by rw [HL.out]; simp [q5, HK.out])
              clear fin q5
              go_enter Tryd.func13, Tryd.ntmps13
              go_wp2_with fail
              go_quiet ((go_at_call 26; exact Calls.quiet_of_same ((hpw _).mono fun _ _ ⟨x, y⟩ => And.intro x y.symm)))
              go_wp2_with fail
              go_ret
              exact fin' _ (below_drewN hB nq)
          · have r4 : (h.p == 0) = false := beq_eq_false_iff_ne.2 q4
            have fin' := fin false (by rw [HL.out]; simp [q4])
            clear fin q4
            go_enter Tryd.func13, Tryd.ntmps13
            go_wp2_with fail
            go_quiet ((go_at_call 26; exact Calls.quiet_of_same ((hpw _).mono fun _ _ ⟨x, y⟩ => And.intro x y.symm)))
            go_wp2_with fail
            go_ret
            exact fin' _ (below_drewN hB nq)
        · have r3 : decide ((h.fr.length : Int) ≤ 20) = false := decide_eq_false (by omega)
          have fin' := fin false (by rw [HL.out]; simp [q3])
          clear fin q3
          go_enter Tryd.func13, Tryd.ntmps13
          go_wp2_with fail
          go_quiet ((go_at_call 26; exact Calls.quiet_of_same ((hpw _).mono fun _ _ ⟨x, y⟩ => And.intro x y.symm)))
          go_wp2_with fail
          go_ret
          exact fin' _ (below_drewN hB nq)
      · have r2 : decide ((h.to.length : Int) ≤ 20) = false := decide_eq_false (by omega)
        have fin' := fin false (by rw [HL.out]; simp [q2])
        clear fin q2
        go_enter Tryd.func13, Tryd.ntmps13
        go_wp2_with fail
        go_quiet ((go_at_call 26; exact Calls.quiet_of_same ((hpw _).mono fun _ _ ⟨x, y⟩ => And.intro x y.symm)))
        go_wp2_with fail
        go_ret
        exact fin' _ (below_drewN hB nq)
    · have r1 : decide (h.v ≤ 4294967295) = false := decide_eq_false q1
      have fin' := fin false (by rw [HL.out]; simp [q1])
      clear fin q1
      go_enter Tryd.func13, Tryd.ntmps13
      go_wp2_with fail
      go_quiet ((go_at_call 26; exact Calls.quiet_of_same ((hpw _).mono fun _ _ ⟨x, y⟩ => And.intro x y.symm)))
      go_wp2_with fail
      go_ret
      exact fin' _ (below_drewN hB nq)
  · have r0 : decide (1 ≤ h.v) = false := decide_eq_false q0
    have fin' := fin false (by rw [HL.out]; simp [q0])
    clear fin q0
    go_enter Tryd.func13, Tryd.ntmps13
    go_wp2_with fail
    go_quiet ((go_at_call 26; exact Calls.quiet_of_same ((hpw _).mono fun _ _ ⟨x, y⟩ => And.intro x y.symm)))
    go_wp2_with fail
    go_ret
    exact fin' _ (below_drewN hB nq)

set_option maxRecDepth 20000 in
set_option maxHeartbeats 8000000 in
theorem reflong2 (w : World) (h : Hv) (a2 : Option Addr) (c2 : Nat) (a3 : Option Addr) (c3 : Nat) (a4 : Option Addr) (c4 : Nat) (hl2 : h.to.length ≤ 1000) (hl3 : h.fr.length ≤ 1000) (_hl4 : h.tk.length ≤ 1000) (hX : numB h = true) (hkk : h.k = 2) :
    Calls Tryd.prog 13 #[.agg #[.int .i64 h.k, .int .i64 h.v, .slice a2 h.to.length c2, .slice a3 h.fr.length c3, .slice a4 h.tk.length c4, .int .i64 h.p, .int .i64 h.n, .int .i64 h.w]] w fun e w' => e = .returned (.bool (rightB h)) ∧ Below w.heap.size w w' := by
  have hB := below_alloc w (.cells #[.int .i64 h.k, .int .i64 h.v, .slice a2 h.to.length c2, .slice a3 h.fr.length c3, .slice a4 h.tk.length c4, .int .i64 h.p, .int .i64 h.n, .int .i64 h.w] 24)
  have fin : ∀ b, b = rightB h → ∀ w', Below w.heap.size w w' → (Ending.returned (.bool b) = .returned (.bool (rightB h)) ∧ Below w.heap.size w w') := fun b e w' hb => ⟨ret_bool e, hb⟩
  have HX := Lib.hid hX
  obtain ⟨k, hk, g1, g4, g0, g5⟩ := num_facts hX
  have hpw : ∀ w : World, Calls Tryd.prog 26 #[.int .i64 h.w] w fun e w' => e = .returned (.int .i64 (256 ^ k)) ∧ w = w' := fun w => by rw [hk.1]; exact power_any w k hk.2
  clear hk hX
  generalize (256 : Int) ^ k = B at *
  have k3 : (h.k == 3) = false := by simp [hkk]
  have k0 : (h.k == 0) = false := by simp [hkk]
  have k1 : (h.k == 1) = false := by simp [hkk]
  have k2 : (h.k == 2) = true := by simp [hkk]
  have HL := Lib.hid (long_of h (by omega))
  have HK := Lib.hid hkk
  clear hkk
  by_cases q0 : 1 ≤ h.v
  · have r0 : decide (1 ≤ h.v) = true := decide_eq_true q0
    have HQ0 := Lib.hid q0
    clear q0
    by_cases q1 : h.v ≤ 4294967295
    · have r1 : decide (h.v ≤ 4294967295) = true := decide_eq_true q1
      have HQ1 := Lib.hid q1
      clear q1
      by_cases q2 : h.to.length ≤ 20
      · have r2 : decide ((h.to.length : Int) ≤ 20) = true := decide_eq_true (by omega)
        have HQ2 := Lib.hid q2
        clear q2
        by_cases q3 : h.fr.length ≤ 20
        · have r3 : decide ((h.fr.length : Int) ≤ 20) = true := decide_eq_true (by omega)
          have HQ3 := Lib.hid q3
          clear q3
          by_cases q4 : h.p = 0
          · have r4 : (h.p == 0) = true := by simp [q4]
            have HQ4 := Lib.hid q4
            clear q4
            by_cases q5 : h.tk.length = 0
            · have r5 : ((h.tk.length : Int) == 0) = true := beq_iff_eq.2 (by omega)
              have fin' := fin true (by rw [HL.out]; simp [HX.out, HQ0.out, HQ1.out, HQ2.out, HQ3.out, HQ4.out, q5])
              clear fin q5
              go_enter Tryd.func13, Tryd.ntmps13
              go_wp2_with fail
              go_quiet ((go_at_call 26; exact Calls.quiet_of_same ((hpw _).mono fun _ _ ⟨x, y⟩ => And.intro x y.symm)))
              go_wp2_with fail
              go_ret
              exact fin' _ (below_drewN hB nq)
            · have r5 : ((h.tk.length : Int) == 0) = false := beq_eq_false_iff_ne.2 (by omega)
              have fin' := fin false (by rw [HL.out]; simp [q5, HK.out])
              clear fin q5
              go_enter Tryd.func13, Tryd.ntmps13
              go_wp2_with fail
              go_quiet ((go_at_call 26; exact Calls.quiet_of_same ((hpw _).mono fun _ _ ⟨x, y⟩ => And.intro x y.symm)))
              go_wp2_with fail
              go_ret
              exact fin' _ (below_drewN hB nq)
          · have r4 : (h.p == 0) = false := beq_eq_false_iff_ne.2 q4
            have fin' := fin false (by rw [HL.out]; simp [q4])
            clear fin q4
            go_enter Tryd.func13, Tryd.ntmps13
            go_wp2_with fail
            go_quiet ((go_at_call 26; exact Calls.quiet_of_same ((hpw _).mono fun _ _ ⟨x, y⟩ => And.intro x y.symm)))
            go_wp2_with fail
            go_ret
            exact fin' _ (below_drewN hB nq)
        · have r3 : decide ((h.fr.length : Int) ≤ 20) = false := decide_eq_false (by omega)
          have fin' := fin false (by rw [HL.out]; simp [q3])
          clear fin q3
          go_enter Tryd.func13, Tryd.ntmps13
          go_wp2_with fail
          go_quiet ((go_at_call 26; exact Calls.quiet_of_same ((hpw _).mono fun _ _ ⟨x, y⟩ => And.intro x y.symm)))
          go_wp2_with fail
          go_ret
          exact fin' _ (below_drewN hB nq)
      · have r2 : decide ((h.to.length : Int) ≤ 20) = false := decide_eq_false (by omega)
        have fin' := fin false (by rw [HL.out]; simp [q2])
        clear fin q2
        go_enter Tryd.func13, Tryd.ntmps13
        go_wp2_with fail
        go_quiet ((go_at_call 26; exact Calls.quiet_of_same ((hpw _).mono fun _ _ ⟨x, y⟩ => And.intro x y.symm)))
        go_wp2_with fail
        go_ret
        exact fin' _ (below_drewN hB nq)
    · have r1 : decide (h.v ≤ 4294967295) = false := decide_eq_false q1
      have fin' := fin false (by rw [HL.out]; simp [q1])
      clear fin q1
      go_enter Tryd.func13, Tryd.ntmps13
      go_wp2_with fail
      go_quiet ((go_at_call 26; exact Calls.quiet_of_same ((hpw _).mono fun _ _ ⟨x, y⟩ => And.intro x y.symm)))
      go_wp2_with fail
      go_ret
      exact fin' _ (below_drewN hB nq)
  · have r0 : decide (1 ≤ h.v) = false := decide_eq_false q0
    have fin' := fin false (by rw [HL.out]; simp [q0])
    clear fin q0
    go_enter Tryd.func13, Tryd.ntmps13
    go_wp2_with fail
    go_quiet ((go_at_call 26; exact Calls.quiet_of_same ((hpw _).mono fun _ _ ⟨x, y⟩ => And.intro x y.symm)))
    go_wp2_with fail
    go_ret
    exact fin' _ (below_drewN hB nq)

set_option maxRecDepth 20000 in
set_option maxHeartbeats 8000000 in
theorem refelse (w : World) (h : Hv) (a2 : Option Addr) (c2 : Nat) (a3 : Option Addr) (c3 : Nat) (a4 : Option Addr) (c4 : Nat) (_hl2 : h.to.length ≤ 1000) (_hl3 : h.fr.length ≤ 1000) (_hl4 : h.tk.length ≤ 1000) (hX : numB h = true) (hkk : h.k ≠ 0 ∧ h.k ≠ 1 ∧ h.k ≠ 2 ∧ h.k ≠ 3) :
    Calls Tryd.prog 13 #[.agg #[.int .i64 h.k, .int .i64 h.v, .slice a2 h.to.length c2, .slice a3 h.fr.length c3, .slice a4 h.tk.length c4, .int .i64 h.p, .int .i64 h.n, .int .i64 h.w]] w fun e w' => e = .returned (.bool (rightB h)) ∧ Below w.heap.size w w' := by
  have hB := below_alloc w (.cells #[.int .i64 h.k, .int .i64 h.v, .slice a2 h.to.length c2, .slice a3 h.fr.length c3, .slice a4 h.tk.length c4, .int .i64 h.p, .int .i64 h.n, .int .i64 h.w] 24)
  have fin : ∀ b, b = rightB h → ∀ w', Below w.heap.size w w' → (Ending.returned (.bool b) = .returned (.bool (rightB h)) ∧ Below w.heap.size w w') := fun b e w' hb => ⟨ret_bool e, hb⟩
  have HX := Lib.hid hX
  obtain ⟨k, hk, g1, g4, g0, g5⟩ := num_facts hX
  have hpw : ∀ w : World, Calls Tryd.prog 26 #[.int .i64 h.w] w fun e w' => e = .returned (.int .i64 (256 ^ k)) ∧ w = w' := fun w => by rw [hk.1]; exact power_any w k hk.2
  clear hk hX
  generalize (256 : Int) ^ k = B at *
  have k0 : (h.k == 0) = false := beq_eq_false_iff_ne.2 hkk.1
  have k1 : (h.k == 1) = false := beq_eq_false_iff_ne.2 hkk.2.1
  have k2 : (h.k == 2) = false := beq_eq_false_iff_ne.2 hkk.2.2.1
  have k3 : (h.k == 3) = false := beq_eq_false_iff_ne.2 hkk.2.2.2
  have fin' := fin false (by simp [rightB, hkk])
  clear fin hkk
  go_enter Tryd.func13, Tryd.ntmps13
  go_wp2_with fail
  go_quiet ((go_at_call 26; exact Calls.quiet_of_same ((hpw _).mono fun _ _ ⟨x, y⟩ => And.intro x y.symm)))
  go_wp2_with fail
  go_ret
  exact fin' _ (below_drewN hB nq)

theorem refright_any (w : World) (h : Hv) (a2 : Option Addr) (c2 : Nat) (a3 : Option Addr) (c3 : Nat) (a4 : Option Addr) (c4 : Nat) (hl2 : h.to.length ≤ 1000) (hl3 : h.fr.length ≤ 1000) (hl4 : h.tk.length ≤ 1000) :
    Calls Tryd.prog 13 #[.agg #[.int .i64 h.k, .int .i64 h.v, .slice a2 h.to.length c2, .slice a3 h.fr.length c3, .slice a4 h.tk.length c4, .int .i64 h.p, .int .i64 h.n, .int .i64 h.w]] w fun e w' => e = .returned (.bool (rightB h)) ∧ Below w.heap.size w w' := by
  by_cases hX : numB h = true
  · by_cases k3 : h.k = 3
    · exact refshort w h a2 c2 a3 c3 a4 c4 hl2 hl3 hl4 hX k3
    · by_cases k0 : h.k = 0
      · exact reflong0 w h a2 c2 a3 c3 a4 c4 hl2 hl3 hl4 hX k0
      · by_cases k1 : h.k = 1
        · exact reflong1 w h a2 c2 a3 c3 a4 c4 hl2 hl3 hl4 hX k1
        · by_cases k2 : h.k = 2
          · exact reflong2 w h a2 c2 a3 c3 a4 c4 hl2 hl3 hl4 hX k2
          · exact refelse w h a2 c2 a3 c3 a4 c4 hl2 hl3 hl4 hX ⟨k0, k1, k2, k3⟩
  · exact refnum_no w h a2 c2 a3 c3 a4 c4 hl2 hl3 hl4 (by simpa using hX)
#print axioms refright_any
end Go.Proofs.YtnnllnbegmdfaaaDoor
