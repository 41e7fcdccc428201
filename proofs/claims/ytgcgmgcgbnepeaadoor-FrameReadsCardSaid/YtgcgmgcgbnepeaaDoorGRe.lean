/- frame: the document's Right: ack. -/
import Derived.Test.YtgcgmgcgbnepeaaDoorGR0
import Derived.Test.YtgcgmgcgbnepeaaDoorGW1
namespace Go.Proofs.YtgcgmgcgbnepeaaDoor
open Go Go.RowKit

set_option maxRecDepth 20000 in
set_option maxHeartbeats 8000000 in
theorem rr_2 {w : World} {c a t : Int} {sp : List Sp} {m : Nat} (hm : (m : Int) ≤ 9223372036854775807) {sa da : Option Addr} {sn dn : Nat} (hs : Rs w (.slice sa sp.length sn) sp) :
    Calls Tryd.prog 12 #[.agg #[.int .i64 2, .int .i64 c, .slice sa sp.length sn, .int .i64 a, .slice da m dn, .int .i64 t]] w fun e w' => e = .returned (.bool (rbN 2 c sp.length a m t (decide (ackP sp)) (nmB c) (tmB t))) ∧ Below w.heap.size w w' := by
  have HS := Lib.hid hs
  have hl63 := hs.le63
  clear hs
  by_cases qt : t = 0
  case pos =>
    subst qt
    by_cases qa : a = 0
    case neg =>
      have HQ := Lib.hid (decide_eq_false qa)
      go_enter Tryd.func12, Tryd.ntmps12
      go_wp2_with (go_at_call 25; refine (refsize_any _ _).mono ?_; rintro e w9 ⟨rfl, rfl⟩)
      go_ret
      exact ⟨ret_bl (by simp [rbN, HQ.out]), below_alloc _ _⟩
    subst qa
    by_cases qm : m = 0
    case neg =>
      have qm2 : 0 < m := by omega
      have HQ := Lib.hid (decide_eq_false qm)
      clear qm
      go_enter Tryd.func12, Tryd.ntmps12
      go_wp2_with (go_at_call 25; refine (refsize_any _ _).mono ?_; rintro e w9 ⟨rfl, rfl⟩)
      go_ret
      exact ⟨ret_bl (by simp [rbN, HQ.out]), below_alloc _ _⟩
    subst qm
    by_cases qc : c = 0
    case neg =>
      have HQ := Lib.hid (decide_eq_false qc)
      go_enter Tryd.func12, Tryd.ntmps12
      go_wp2_with (go_at_call 25; refine (refsize_any _ _).mono ?_; rintro e w9 ⟨rfl, rfl⟩)
      go_ret
      exact ⟨ret_bl (by simp [rbN, HQ.out]), below_alloc _ _⟩
    subst qc
    obtain ⟨zd, hzd⟩ : ∃ zd : List Int, zd = [] := ⟨_, rfl⟩
    have HNM := Lib.hid (fun h => @ack_nm sp h)
    go_enter Tryd.func12, Tryd.ntmps12
    go_wp2_with (go_at_call 25; refine (refsize_any _ _).mono ?_; rintro e w9 ⟨rfl, rfl⟩)
    go_loopw [5] (fun i wr => ∃ k : Nat, i = .int .i64 k ∧ k ≤ sp.length ∧ Hid (∀ j, j < k → okAt sp j ∧ nmB (sp.getD j (0, 0)).2 = true) ∧ Hid (0 < k → 0 ≤ (sp.getD (k - 1) (0, 0)).1 ∧ (sp.getD (k - 1) (0, 0)).1 < 4611686018427387904) ∧ RBx w ⟨2, 0, sp, 0, zd, 0⟩ (.slice sa sp.length sn) (.slice da 0 dn) wr) (fun i _ => sp.length - (intOf i).toNat)
    case atStart => exact ⟨0, rfl, by omega, Lib.hid (fun j hj => by omega), Lib.hid (fun h => by omega), ⟨below_alloc _ _, heap_alloc_new _ _⟩⟩
    case round =>
      rename_i wr
      obtain ⟨k, rfl, hk, hok, hlast, hR⟩ := hrel
      have hk' : (k : Int) ≤ (sp.length : Int) := by omega
      obtain ⟨x0, x1, x2, x3, x4, x5, xf⟩ := fcells_of hR.box
      clear x0 x1 x3 x4 x5 xf
      have HB := Lib.hid hR
      by_cases hlt : k < sp.length
      · have hlt' : (k : Int) < (sp.length : Int) := by omega
        obtain ⟨b, off, cap, e0, hb, hat⟩ := HS.out.at (by omega)
        simp only [Value.slice.injEq] at e0
        obtain ⟨rfl, _, rfl⟩ := e0
        have HA := Lib.hid hat
        obtain ⟨z1, z2⟩ := hat.below hR.bel k hlt
        have HNO : Hid (¬ okAt sp k → decide (ackP sp) = false) := Lib.hid fun h => ack_no fun hp => h (hp.2.2.2 k hlt)
        have HN2 : Hid (¬ nmB (sp.getD k (0, 0)).2 = true → decide (ackP sp) = false) := Lib.hid fun h => ack_no fun hp => h (by
          have h1 := HNM.out hp k hlt
          have h2 := hp.2.2.2 k hlt
          unfold okAt at h2
          rw [nmB_iff]
          exact ⟨by omega, h1⟩)
        have HYS : Hid (okAt sp k → nmB (sp.getD k (0, 0)).2 = true → ∀ j, j < k + 1 → okAt sp j ∧ nmB (sp.getD j (0, 0)).2 = true) := Lib.hid fun h h2 j hj => by
          by_cases e : j = k
          · rw [e]; exact ⟨h, h2⟩
          · exact hok.out j (by omega)
        have HOK : Hid (okAt sp k ↔ 0 ≤ (sp.getD k (0, 0)).1 ∧ (sp.getD k (0, 0)).1 ≤ (sp.getD k (0, 0)).2 ∧ (0 < k → (sp.getD k (0, 0)).2 ≤ (sp.getD (k - 1) (0, 0)).1 - 2)) := Lib.hid Iff.rfl
        clear hok hat hR
        cases k with
        | zero =>
          simp only [Nat.zero_mul, Nat.add_zero] at z1 z2
          generalize hY1 : (sp.getD 0 (0, 0)).1 = y1 at *
          generalize hY2 : (sp.getD 0 (0, 0)).2 = y2 at *
          have HY1 := Lib.hid hY1
          clear hY1 hY2
          have hSZ := sz_pos y2
          have HBX := Lib.hid (HB.out.below (below_alloc wr (.cells #[.int .i64 y1, .int .i64 y2] 55)))
          by_cases c1 : y1 < 0
          · have HR := Lib.hid (HNO.out fun h => by have := HOK.out.1 h; omega)
            clear hSZ
            go_wp2_with fail
            go_ret
            exact ⟨ret_bl (by rw [HR.out]; simp [rbN]), HBX.out.bel⟩
          by_cases c2 : y2 < y1
          · have HR := Lib.hid (HNO.out fun h => by have := HOK.out.1 h; omega)
            clear hSZ
            go_wp2_with fail
            go_ret
            exact ⟨ret_bl (by rw [HR.out]; simp [rbN]), HBX.out.bel⟩
          by_cases c3 : nmB y2 = true
          · rw [c3] at hSZ
            have c4 : ¬ sz y2 = 0 := by have := of_decide_eq_true hSZ; omega
            have HQ := Lib.hid (HYS.out (HOK.out.2 ⟨by omega, by omega, fun h => by omega⟩) c3)
            have HZ : Hid (0 ≤ y1 ∧ y1 < 4611686018427387904) := Lib.hid (by have := (nmB_iff.1 c3); unfold numR at this; omega)
            clear hSZ c3
            go_wp2_with (go_at_call 25; refine (refsize_any _ _).mono ?_; rintro e w9 ⟨rfl, rfl⟩)
            go_quiet (fail)
            go_wp2_with fail
            go_roundw
            case rel => exact ⟨1, by go_num, by omega, Lib.hid HQ.out, Lib.hid (fun _ => by rw [show 1 - 1 = 0 from rfl, HY1.out]; exact HZ.out), HBX.out.below (drewN_below _ _)⟩
            case measure => simp [intOf]; omega
          · have HR := Lib.hid (HN2.out c3)
            have c5 : nmB y2 = false := by cases h : nmB y2 <;> simp_all
            rw [c5] at hSZ
            have c4 : sz y2 = 0 := by have := of_decide_eq_false hSZ; rcases sz_cases y2 with ⟨h, _⟩ | ⟨_, _, q, h, hq, _⟩ <;> omega
            clear hSZ c5 c3
            go_wp2_with (go_at_call 25; refine (refsize_any _ _).mono ?_; rintro e w9 ⟨rfl, rfl⟩)
            go_ret
            exact ⟨ret_bl (by rw [HR.out]; simp [rbN]), HBX.out.bel⟩
        | succ j =>
          obtain ⟨p1, _⟩ := HA.out.below HB.out.bel j (by omega)
          have hly := hlast.out (by omega)
          simp only [Nat.add_sub_cancel] at hly HOK
          generalize hY1 : (sp.getD (j + 1) (0, 0)).1 = y1 at *
          generalize hY2 : (sp.getD (j + 1) (0, 0)).2 = y2 at *
          generalize (sp.getD j (0, 0)).1 = y3 at *
          have HY1 := Lib.hid hY1
          clear hY1 hY2
          obtain ⟨l1, l2⟩ := hly
          have hSZ := sz_pos y2
          have HBX := Lib.hid (HB.out.below (below_alloc wr (.cells #[.int .i64 y1, .int .i64 y2] 55)))
          have z5' : decide ((0 : Int) < (j : Int) + 1) = true := decide_eq_true (by omega)
          have e1 : IntKind.i64.wrap (j : Int) = (j : Int) := IntWalk.i64_in _ (by omega)
          have e2 : IntKind.i64.wrap (y3 - 2) = y3 - 2 := IntWalk.i64_in _ (by omega)
          have hjl : (j : Int) < (sp.length : Int) := by omega
          have E1 := Lib.hid e1
          have E2 := Lib.hid e2
          have HPX : Hid ((wr.alloc (.cells #[.int .i64 y1, .int .i64 y2] 55)).cell? ⟨b, off + j * 2, none⟩ = some (.int .i64 y3)) := Lib.hid (by rw [(below_alloc wr _).cell (cell_lt p1)]; exact p1)
          by_cases c1 : y1 < 0
          · have HR := Lib.hid (HNO.out fun h => by have := HOK.out.1 h; omega)
            clear hSZ e1 e2
            go_wp2_with fail
            go_ret
            exact ⟨ret_bl (by rw [HR.out]; simp [rbN]), HBX.out.bel⟩
          by_cases c2 : y2 < y1
          · have HR := Lib.hid (HNO.out fun h => by have := HOK.out.1 h; omega)
            clear hSZ e1 e2
            go_wp2_with fail
            go_ret
            exact ⟨ret_bl (by rw [HR.out]; simp [rbN]), HBX.out.bel⟩
          by_cases c3 : nmB y2 = true
          case neg =>
            have HR := Lib.hid (HN2.out c3)
            have c5 : nmB y2 = false := by cases h : nmB y2 <;> simp_all
            rw [c5] at hSZ
            have c4 : sz y2 = 0 := by have := of_decide_eq_false hSZ; rcases sz_cases y2 with ⟨h, _⟩ | ⟨_, _, q, h, hq, _⟩ <;> omega
            clear hSZ c5 c3 e1 e2
            go_wp2_with (go_at_call 25; refine (refsize_any _ _).mono ?_; rintro e w9 ⟨rfl, rfl⟩)
            go_ret
            exact ⟨ret_bl (by rw [HR.out]; simp [rbN]), HBX.out.bel⟩
          rw [c3] at hSZ
          have c4 : ¬ sz y2 = 0 := by have := of_decide_eq_true hSZ; omega
          have HC3 := Lib.hid c3
          clear hSZ c3
          by_cases c5 : y3 < 2
          · have HR := Lib.hid (HNO.out fun h => by have := (HOK.out.1 h); have := this.2.2 (by omega); omega)
            have z6' : decide (y3 < 2) = true := decide_eq_true c5
            clear e1 e2
            go_wp2_with (go_at_call 25; refine (refsize_any _ _).mono ?_; rintro e w9 ⟨rfl, rfl⟩)
            have e1 := E1.out
            have e2 := E2.out
            have p1' := HPX.out
            obtain ⟨g0, g1, g2, g3, g4, g5, gf⟩ := fcells_of HBX.out.box
            clear p1
            go_quiet (fail)
            clear e1 e2 p1' g0 g1 g2 g3 g4 g5 gf
            go_wp2_with fail
            go_ret
            exact ⟨ret_bl (by rw [HR.out]; simp [rbN]), (HBX.out.below (drewN_below _ _)).bel⟩
          have z6' : decide (y3 < 2) = false := decide_eq_false c5
          by_cases c6 : y3 - 2 < y2
          · have HR := Lib.hid (HNO.out fun h => by have := (HOK.out.1 h); have := this.2.2 (by omega); omega)
            have z7' : decide (y3 - 2 < y2) = true := decide_eq_true c6
            clear e1 e2
            go_wp2_with (go_at_call 25; refine (refsize_any _ _).mono ?_; rintro e w9 ⟨rfl, rfl⟩)
            have e1 := E1.out
            have e2 := E2.out
            have p1' := HPX.out
            obtain ⟨g0, g1, g2, g3, g4, g5, gf⟩ := fcells_of HBX.out.box
            clear p1
            go_quiet (fail)
            clear e1 e2 p1' g0 g1 g2 g3 g4 g5 gf
            go_wp2_with fail
            go_ret
            exact ⟨ret_bl (by rw [HR.out]; simp [rbN]), (HBX.out.below (drewN_below _ _)).bel⟩
          have z7' : decide (y3 - 2 < y2) = false := decide_eq_false c6
          have HQ := Lib.hid (HYS.out (HOK.out.2 ⟨by omega, by omega, fun h => by omega⟩) HC3.out)
          have HZ : Hid (0 ≤ y1 ∧ y1 < 4611686018427387904) := Lib.hid (by omega)
          clear e1 e2
          go_wp2_with (go_at_call 25; refine (refsize_any _ _).mono ?_; rintro e w9 ⟨rfl, rfl⟩)
          have e1 := E1.out
          have e2 := E2.out
          have p1' := HPX.out
          obtain ⟨g0, g1, g2, g3, g4, g5, gf⟩ := fcells_of HBX.out.box
          clear p1
          go_quiet (fail)
          clear e1 e2 p1' g0 g1 g2 g3 g4 g5 gf
          go_wp2_with fail
          go_roundw
          case rel => exact ⟨j + 1 + 1, by go_num, by omega, Lib.hid HQ.out, Lib.hid (fun _ => by rw [show j + 1 + 1 - 1 = j + 1 from rfl, HY1.out]; exact HZ.out), HBX.out.below (drewN_below _ _)⟩
          case measure => simp [intOf]; omega
      · obtain rfl : k = sp.length := by omega
        by_cases w1 : 1 ≤ sp.length
        · have w1' : (1 : Int) ≤ (sp.length : Int) := by omega
          by_cases w2 : sp.length ≤ 32
          · have w2' : (sp.length : Int) ≤ 32 := by omega
            have HR := Lib.hid (ack_yes ⟨w1, w2⟩ (hok.out 0 (by omega)).2 (fun j hj => (hok.out j hj).1))
            go_wp2_with fail
            go_ret
            exact ⟨ret_bl (by rw [HR.out]; simp [rbN]; try omega), HB.out.bel⟩
          · have w2' : ¬ (sp.length : Int) ≤ 32 := by omega
            have HR := Lib.hid (ack_no (l := sp) fun hp => w2 hp.2.1)
            go_wp2_with fail
            go_ret
            exact ⟨ret_bl (by rw [HR.out]; simp [rbN]; try omega), HB.out.bel⟩
        · have w1' : ¬ (1 : Int) ≤ (sp.length : Int) := by omega
          have HR := Lib.hid (ack_no (l := sp) fun hp => w1 hp.1)
          go_wp2_with fail
          go_ret
          exact ⟨ret_bl (by rw [HR.out]; simp [rbN]), HB.out.bel⟩
  rcases (show t < 1 ∨ (1 ≤ t ∧ t ≤ 65536) ∨ 65536 < t by omega) with t1 | ⟨t1, t2⟩ | t1
  · have HT : Hid (decide (t = 0) = false) := Lib.hid (decide_eq_false (by omega))
    by_cases qa : a = 0
    case neg =>
      have HQ := Lib.hid (decide_eq_false qa)
      go_enter Tryd.func12, Tryd.ntmps12
      go_wp2_with (go_at_call 25; refine (refsize_any _ _).mono ?_; rintro e w9 ⟨rfl, rfl⟩)
      go_ret
      exact ⟨ret_bl (by simp [rbN, HQ.out]), below_alloc _ _⟩
    subst qa
    by_cases qm : m = 0
    case neg =>
      have qm2 : 0 < m := by omega
      have HQ := Lib.hid (decide_eq_false qm)
      clear qm
      go_enter Tryd.func12, Tryd.ntmps12
      go_wp2_with (go_at_call 25; refine (refsize_any _ _).mono ?_; rintro e w9 ⟨rfl, rfl⟩)
      go_ret
      exact ⟨ret_bl (by simp [rbN, HQ.out]), below_alloc _ _⟩
    subst qm
    go_enter Tryd.func12, Tryd.ntmps12
    go_wp2_with (go_at_call 25; refine (refsize_any _ _).mono ?_; rintro e w9 ⟨rfl, rfl⟩)
    go_ret
    exact ⟨ret_bl (by simp [rbN, HT.out]), below_alloc _ _⟩
  · have HT : Hid (decide (t = 0) = false) := Lib.hid (decide_eq_false (by omega))
    by_cases qa : a = 0
    case neg =>
      have HQ := Lib.hid (decide_eq_false qa)
      go_enter Tryd.func12, Tryd.ntmps12
      go_wp2_with (go_at_call 25; refine (refsize_any _ _).mono ?_; rintro e w9 ⟨rfl, rfl⟩)
      go_ret
      exact ⟨ret_bl (by simp [rbN, HQ.out]), below_alloc _ _⟩
    subst qa
    by_cases qm : m = 0
    case neg =>
      have qm2 : 0 < m := by omega
      have HQ := Lib.hid (decide_eq_false qm)
      clear qm
      go_enter Tryd.func12, Tryd.ntmps12
      go_wp2_with (go_at_call 25; refine (refsize_any _ _).mono ?_; rintro e w9 ⟨rfl, rfl⟩)
      go_ret
      exact ⟨ret_bl (by simp [rbN, HQ.out]), below_alloc _ _⟩
    subst qm
    go_enter Tryd.func12, Tryd.ntmps12
    go_wp2_with (go_at_call 25; refine (refsize_any _ _).mono ?_; rintro e w9 ⟨rfl, rfl⟩)
    go_ret
    exact ⟨ret_bl (by simp [rbN, HT.out]), below_alloc _ _⟩
  · have HT : Hid (decide (t = 0) = false) := Lib.hid (decide_eq_false (by omega))
    by_cases qa : a = 0
    case neg =>
      have HQ := Lib.hid (decide_eq_false qa)
      go_enter Tryd.func12, Tryd.ntmps12
      go_wp2_with (go_at_call 25; refine (refsize_any _ _).mono ?_; rintro e w9 ⟨rfl, rfl⟩)
      go_ret
      exact ⟨ret_bl (by simp [rbN, HQ.out]), below_alloc _ _⟩
    subst qa
    by_cases qm : m = 0
    case neg =>
      have qm2 : 0 < m := by omega
      have HQ := Lib.hid (decide_eq_false qm)
      clear qm
      go_enter Tryd.func12, Tryd.ntmps12
      go_wp2_with (go_at_call 25; refine (refsize_any _ _).mono ?_; rintro e w9 ⟨rfl, rfl⟩)
      go_ret
      exact ⟨ret_bl (by simp [rbN, HQ.out]), below_alloc _ _⟩
    subst qm
    go_enter Tryd.func12, Tryd.ntmps12
    go_wp2_with (go_at_call 25; refine (refsize_any _ _).mono ?_; rintro e w9 ⟨rfl, rfl⟩)
    go_ret
    exact ⟨ret_bl (by simp [rbN, HT.out]), below_alloc _ _⟩
end Go.Proofs.YtgcgmgcgbnepeaaDoor
