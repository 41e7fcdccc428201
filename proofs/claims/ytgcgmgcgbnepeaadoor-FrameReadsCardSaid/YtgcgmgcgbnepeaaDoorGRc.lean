/- frame: the document's Right, by kind. -/
import Derived.Test.YtgcgmgcgbnepeaaDoorGR0
namespace Go.Proofs.YtgcgmgcgbnepeaaDoor
open Go Go.RowKit

set_option maxRecDepth 20000 in
set_option maxHeartbeats 8000000 in
theorem rr_8 (w : World) (c a t : Int) (n m : Nat) (hn : (n : Int) ≤ 9223372036854775807) (hm : (m : Int) ≤ 9223372036854775807) (sa da : Option Addr) (sn dn : Nat) (pa : Bool) :
    Calls Tryd.prog 12 #[.agg #[.int .i64 8, .int .i64 c, .slice sa n sn, .int .i64 a, .slice da m dn, .int .i64 t]] w fun e w' => e = .returned (.bool (rbN 8 c n a m t pa (nmB c) (tmB t))) ∧ Below w.heap.size w w' := by
  have HNB := Lib.hid (sz_pos c)
  rcases (show t < 1 ∨ (1 ≤ t ∧ t ≤ 65536) ∨ 65536 < t by omega) with t1 | ⟨t1, t2⟩ | t1
  · have HTB : Hid (tmB t = false) := Lib.hid (by unfold tmB; exact decide_eq_false (by omega))
    by_cases qn : n = 0
    case neg =>
      have qn2 : 0 < n := by omega
      have HQ := Lib.hid (decide_eq_false qn)
      clear qn
      go_enter Tryd.func12, Tryd.ntmps12
      go_wp2_with (go_at_call 25; refine (refsize_any _ _).mono ?_; rintro e w9 ⟨rfl, rfl⟩)
      go_ret
      exact ⟨ret_bl (by simp [rbN, HQ.out]), below_alloc _ _⟩
    subst qn
    by_cases qa : a = 0
    case neg =>
      have HQ := Lib.hid (decide_eq_false qa)
      go_enter Tryd.func12, Tryd.ntmps12
      go_wp2_with (go_at_call 25; refine (refsize_any _ _).mono ?_; rintro e w9 ⟨rfl, rfl⟩)
      go_ret
      exact ⟨ret_bl (by simp [rbN, HQ.out]), below_alloc _ _⟩
    subst qa
    by_cases qm : m = 0
    case neg =>
      have qm2 : 0 < m := by omega
      have HQ := Lib.hid (decide_eq_false qm)
      clear qm
      go_enter Tryd.func12, Tryd.ntmps12
      go_wp2_with (go_at_call 25; refine (refsize_any _ _).mono ?_; rintro e w9 ⟨rfl, rfl⟩)
      go_ret
      exact ⟨ret_bl (by simp [rbN, HQ.out]), below_alloc _ _⟩
    subst qm
    go_enter Tryd.func12, Tryd.ntmps12
    go_wp2_with (go_at_call 25; refine (refsize_any _ _).mono ?_; rintro e w9 ⟨rfl, rfl⟩)
    go_ret
    exact ⟨ret_bl (by simp [rbN, HTB.out]), below_alloc _ _⟩
  · have HTB : Hid (tmB t = true) := Lib.hid (by unfold tmB; exact decide_eq_true ⟨t1, t2⟩)
    by_cases qn : n = 0
    case neg =>
      have qn2 : 0 < n := by omega
      have HQ := Lib.hid (decide_eq_false qn)
      clear qn
      go_enter Tryd.func12, Tryd.ntmps12
      go_wp2_with (go_at_call 25; refine (refsize_any _ _).mono ?_; rintro e w9 ⟨rfl, rfl⟩)
      go_ret
      exact ⟨ret_bl (by simp [rbN, HQ.out]), below_alloc _ _⟩
    subst qn
    by_cases qa : a = 0
    case neg =>
      have HQ := Lib.hid (decide_eq_false qa)
      go_enter Tryd.func12, Tryd.ntmps12
      go_wp2_with (go_at_call 25; refine (refsize_any _ _).mono ?_; rintro e w9 ⟨rfl, rfl⟩)
      go_ret
      exact ⟨ret_bl (by simp [rbN, HQ.out]), below_alloc _ _⟩
    subst qa
    by_cases qm : m = 0
    case neg =>
      have qm2 : 0 < m := by omega
      have HQ := Lib.hid (decide_eq_false qm)
      clear qm
      go_enter Tryd.func12, Tryd.ntmps12
      go_wp2_with (go_at_call 25; refine (refsize_any _ _).mono ?_; rintro e w9 ⟨rfl, rfl⟩)
      go_ret
      exact ⟨ret_bl (by simp [rbN, HQ.out]), below_alloc _ _⟩
    subst qm
    go_enter Tryd.func12, Tryd.ntmps12
    go_wp2_with (go_at_call 25; refine (refsize_any _ _).mono ?_; rintro e w9 ⟨rfl, rfl⟩)
    go_ret
    exact ⟨ret_bl (by simp [rbN, HTB.out, HNB.out]), below_alloc _ _⟩
  · have HTB : Hid (tmB t = false) := Lib.hid (by unfold tmB; exact decide_eq_false (by omega))
    by_cases qn : n = 0
    case neg =>
      have qn2 : 0 < n := by omega
      have HQ := Lib.hid (decide_eq_false qn)
      clear qn
      go_enter Tryd.func12, Tryd.ntmps12
      go_wp2_with (go_at_call 25; refine (refsize_any _ _).mono ?_; rintro e w9 ⟨rfl, rfl⟩)
      go_ret
      exact ⟨ret_bl (by simp [rbN, HQ.out]), below_alloc _ _⟩
    subst qn
    by_cases qa : a = 0
    case neg =>
      have HQ := Lib.hid (decide_eq_false qa)
      go_enter Tryd.func12, Tryd.ntmps12
      go_wp2_with (go_at_call 25; refine (refsize_any _ _).mono ?_; rintro e w9 ⟨rfl, rfl⟩)
      go_ret
      exact ⟨ret_bl (by simp [rbN, HQ.out]), below_alloc _ _⟩
    subst qa
    by_cases qm : m = 0
    case neg =>
      have qm2 : 0 < m := by omega
      have HQ := Lib.hid (decide_eq_false qm)
      clear qm
      go_enter Tryd.func12, Tryd.ntmps12
      go_wp2_with (go_at_call 25; refine (refsize_any _ _).mono ?_; rintro e w9 ⟨rfl, rfl⟩)
      go_ret
      exact ⟨ret_bl (by simp [rbN, HQ.out]), below_alloc _ _⟩
    subst qm
    go_enter Tryd.func12, Tryd.ntmps12
    go_wp2_with (go_at_call 25; refine (refsize_any _ _).mono ?_; rintro e w9 ⟨rfl, rfl⟩)
    go_ret
    exact ⟨ret_bl (by simp [rbN, HTB.out]), below_alloc _ _⟩
set_option maxRecDepth 20000 in
set_option maxHeartbeats 8000000 in
theorem rr_28 (w : World) (c a t : Int) (n m : Nat) (hn : (n : Int) ≤ 9223372036854775807) (hm : (m : Int) ≤ 9223372036854775807) (sa da : Option Addr) (sn dn : Nat) (pa : Bool) :
    Calls Tryd.prog 12 #[.agg #[.int .i64 28, .int .i64 c, .slice sa n sn, .int .i64 a, .slice da m dn, .int .i64 t]] w fun e w' => e = .returned (.bool (rbN 28 c n a m t pa (nmB c) (tmB t))) ∧ Below w.heap.size w w' := by
  have HNB := Lib.hid (sz_pos c)
  rcases (show t < 1 ∨ (1 ≤ t ∧ t ≤ 65536) ∨ 65536 < t by omega) with t1 | ⟨t1, t2⟩ | t1
  · have HTB : Hid (tmB t = false) := Lib.hid (by unfold tmB; exact decide_eq_false (by omega))
    by_cases qt : t = 0
    case pos =>
      subst qt
      by_cases qn : n = 0
      case neg =>
        have qn2 : 0 < n := by omega
        have HQ := Lib.hid (decide_eq_false qn)
        clear qn
        go_enter Tryd.func12, Tryd.ntmps12
        go_wp2_with (go_at_call 25; refine (refsize_any _ _).mono ?_; rintro e w9 ⟨rfl, rfl⟩)
        go_ret
        exact ⟨ret_bl (by simp [rbN, HQ.out]), below_alloc _ _⟩
      subst qn
      by_cases qa : a = 0
      case neg =>
        have HQ := Lib.hid (decide_eq_false qa)
        go_enter Tryd.func12, Tryd.ntmps12
        go_wp2_with (go_at_call 25; refine (refsize_any _ _).mono ?_; rintro e w9 ⟨rfl, rfl⟩)
        go_ret
        exact ⟨ret_bl (by simp [rbN, HQ.out]), below_alloc _ _⟩
      subst qa
      by_cases qm : m = 0
      case neg =>
        have qm2 : 0 < m := by omega
        have HQ := Lib.hid (decide_eq_false qm)
        clear qm
        go_enter Tryd.func12, Tryd.ntmps12
        go_wp2_with (go_at_call 25; refine (refsize_any _ _).mono ?_; rintro e w9 ⟨rfl, rfl⟩)
        go_ret
        exact ⟨ret_bl (by simp [rbN, HQ.out]), below_alloc _ _⟩
      subst qm
      go_enter Tryd.func12, Tryd.ntmps12
      go_wp2_with (go_at_call 25; refine (refsize_any _ _).mono ?_; rintro e w9 ⟨rfl, rfl⟩)
      go_ret
      exact ⟨ret_bl (by simp [rbN, HNB.out]), below_alloc _ _⟩
    have qt2 : ¬ t = 0 := by omega
    have HT : Hid (decide (t = 0) = false) := Lib.hid (decide_eq_false (by omega))
    clear qt
    by_cases qn : n = 0
    case neg =>
      have qn2 : 0 < n := by omega
      have HQ := Lib.hid (decide_eq_false qn)
      clear qn
      go_enter Tryd.func12, Tryd.ntmps12
      go_wp2_with (go_at_call 25; refine (refsize_any _ _).mono ?_; rintro e w9 ⟨rfl, rfl⟩)
      go_ret
      exact ⟨ret_bl (by simp [rbN, HQ.out]), below_alloc _ _⟩
    subst qn
    by_cases qa : a = 0
    case neg =>
      have HQ := Lib.hid (decide_eq_false qa)
      go_enter Tryd.func12, Tryd.ntmps12
      go_wp2_with (go_at_call 25; refine (refsize_any _ _).mono ?_; rintro e w9 ⟨rfl, rfl⟩)
      go_ret
      exact ⟨ret_bl (by simp [rbN, HQ.out]), below_alloc _ _⟩
    subst qa
    by_cases qm : m = 0
    case neg =>
      have qm2 : 0 < m := by omega
      have HQ := Lib.hid (decide_eq_false qm)
      clear qm
      go_enter Tryd.func12, Tryd.ntmps12
      go_wp2_with (go_at_call 25; refine (refsize_any _ _).mono ?_; rintro e w9 ⟨rfl, rfl⟩)
      go_ret
      exact ⟨ret_bl (by simp [rbN, HQ.out]), below_alloc _ _⟩
    subst qm
    go_enter Tryd.func12, Tryd.ntmps12
    go_wp2_with (go_at_call 25; refine (refsize_any _ _).mono ?_; rintro e w9 ⟨rfl, rfl⟩)
    go_ret
    exact ⟨ret_bl (by simp [rbN, HT.out]), below_alloc _ _⟩
  · have HTB : Hid (tmB t = true) := Lib.hid (by unfold tmB; exact decide_eq_true ⟨t1, t2⟩)
    have qt2 : ¬ t = 0 := by omega
    have HT : Hid (decide (t = 0) = false) := Lib.hid (decide_eq_false (by omega))
    by_cases qn : n = 0
    case neg =>
      have qn2 : 0 < n := by omega
      have HQ := Lib.hid (decide_eq_false qn)
      clear qn
      go_enter Tryd.func12, Tryd.ntmps12
      go_wp2_with (go_at_call 25; refine (refsize_any _ _).mono ?_; rintro e w9 ⟨rfl, rfl⟩)
      go_ret
      exact ⟨ret_bl (by simp [rbN, HQ.out]), below_alloc _ _⟩
    subst qn
    by_cases qa : a = 0
    case neg =>
      have HQ := Lib.hid (decide_eq_false qa)
      go_enter Tryd.func12, Tryd.ntmps12
      go_wp2_with (go_at_call 25; refine (refsize_any _ _).mono ?_; rintro e w9 ⟨rfl, rfl⟩)
      go_ret
      exact ⟨ret_bl (by simp [rbN, HQ.out]), below_alloc _ _⟩
    subst qa
    by_cases qm : m = 0
    case neg =>
      have qm2 : 0 < m := by omega
      have HQ := Lib.hid (decide_eq_false qm)
      clear qm
      go_enter Tryd.func12, Tryd.ntmps12
      go_wp2_with (go_at_call 25; refine (refsize_any _ _).mono ?_; rintro e w9 ⟨rfl, rfl⟩)
      go_ret
      exact ⟨ret_bl (by simp [rbN, HQ.out]), below_alloc _ _⟩
    subst qm
    go_enter Tryd.func12, Tryd.ntmps12
    go_wp2_with (go_at_call 25; refine (refsize_any _ _).mono ?_; rintro e w9 ⟨rfl, rfl⟩)
    go_ret
    exact ⟨ret_bl (by simp [rbN, HT.out]), below_alloc _ _⟩
  · have HTB : Hid (tmB t = false) := Lib.hid (by unfold tmB; exact decide_eq_false (by omega))
    have qt2 : ¬ t = 0 := by omega
    have HT : Hid (decide (t = 0) = false) := Lib.hid (decide_eq_false (by omega))
    by_cases qn : n = 0
    case neg =>
      have qn2 : 0 < n := by omega
      have HQ := Lib.hid (decide_eq_false qn)
      clear qn
      go_enter Tryd.func12, Tryd.ntmps12
      go_wp2_with (go_at_call 25; refine (refsize_any _ _).mono ?_; rintro e w9 ⟨rfl, rfl⟩)
      go_ret
      exact ⟨ret_bl (by simp [rbN, HQ.out]), below_alloc _ _⟩
    subst qn
    by_cases qa : a = 0
    case neg =>
      have HQ := Lib.hid (decide_eq_false qa)
      go_enter Tryd.func12, Tryd.ntmps12
      go_wp2_with (go_at_call 25; refine (refsize_any _ _).mono ?_; rintro e w9 ⟨rfl, rfl⟩)
      go_ret
      exact ⟨ret_bl (by simp [rbN, HQ.out]), below_alloc _ _⟩
    subst qa
    by_cases qm : m = 0
    case neg =>
      have qm2 : 0 < m := by omega
      have HQ := Lib.hid (decide_eq_false qm)
      clear qm
      go_enter Tryd.func12, Tryd.ntmps12
      go_wp2_with (go_at_call 25; refine (refsize_any _ _).mono ?_; rintro e w9 ⟨rfl, rfl⟩)
      go_ret
      exact ⟨ret_bl (by simp [rbN, HQ.out]), below_alloc _ _⟩
    subst qm
    go_enter Tryd.func12, Tryd.ntmps12
    go_wp2_with (go_at_call 25; refine (refsize_any _ _).mono ?_; rintro e w9 ⟨rfl, rfl⟩)
    go_ret
    exact ⟨ret_bl (by simp [rbN, HT.out]), below_alloc _ _⟩
end Go.Proofs.YtgcgmgcgbnepeaaDoor
