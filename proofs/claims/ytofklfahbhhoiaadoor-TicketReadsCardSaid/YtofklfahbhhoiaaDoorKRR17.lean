/- The document's Read of a ticket: the three numbers that bytes consist of. -/
import Derived.Test.YtofklfahbhhoiaaDoorKKR
import Derived.Test.YtofklfahbhhoiaaDoorRefRead
namespace Go.Proofs.YtofklfahbhhoiaaDoor
open Go Go.RowKit

/-- What it tells. -/
def RkP (w w' : World) (e : Ending) (zs : List Int) : Prop :=
  match tickR zs with
  | none => e = .returned (.tuple #[.agg #[.int .i64 0, .int .i64 0, .int .i64 0], .bool false]) ∧ Below w.heap.size w w'
  | some (a, b, c) => e = .returned (.tuple #[.agg #[.int .i64 a, .int .i64 b, .int .i64 c], .bool true]) ∧ Below w.heap.size w w'
theorem RkP.no {w w' : World} {e : Ending} {zs : List Int} (h : tickR zs = none) (he : e = .returned (.tuple #[.agg #[.int .i64 0, .int .i64 0, .int .i64 0], .bool false])) (hb : Below w.heap.size w w') : RkP w w' e zs := by
  unfold RkP; rw [h]; exact ⟨he, hb⟩
theorem RkP.yes {w w' : World} {e : Ending} {zs : List Int} {a b c : Int} (h : tickR zs = some (a, b, c)) (he : e = .returned (.tuple #[.agg #[.int .i64 a, .int .i64 b, .int .i64 c], .bool true])) (hb : Below w.heap.size w w') : RkP w w' e zs := by
  unfold RkP; rw [h]; exact ⟨he, hb⟩
set_option maxRecDepth 20000 in
set_option maxHeartbeats 2000000 in
theorem rkread_any {w : World} {ao : Option Addr} {cap : Nat} {zs : List Int} (h : Rd w (.slice ao zs.length cap) zs) (hp : Plain (.slice ao zs.length cap)) (hl : zs.length ≤ 2048) :
    Calls Tryd.prog 31 #[.slice ao zs.length cap] w fun e w' => RkP w w' e zs := by
  obtain ⟨W, hW⟩ : ∃ W, w.alloc (.cells #[.int .i64 0, .int .i64 0, .int .i64 0] 58) = W := ⟨_, rfl⟩
  have hbW : Below w.heap.size w W := by rw [← hW]; exact below_alloc w _
  have hM : W.heap[w.heap.size]? = some (.cells #[.int .i64 0, .int .i64 0, .int .i64 0] 58 (0, 0)) := by rw [← hW]; exact heap_alloc_new w _
  obtain ⟨m0, m1, m2, mf⟩ := cells3 hM
  have hr := h.below hbW
  have HW := Lib.hid (And.intro hM hbW)
  have hby := hr.byt
  -- the numbers' places
  obtain ⟨n, en, ln⟩ := rd_bound hby
  obtain ⟨m, em, lm⟩ := rd_bound (zs := rest3 zs 1) (hby.drop _)
  have e1 : rest3 zs 1 = zs.drop n := by
    show zs.drop (rd zs).2.1.toNat = _
    rw [en]; simp
  have lm' : n + m ≤ zs.length := by rw [e1] at lm; simp at lm; omega
  have e2 : rest3 zs 2 = zs.drop (n + m) := by
    show (rest3 zs 1).drop (rd (rest3 zs 1)).2.1.toNat = _
    rw [em, e1, List.drop_drop]; simp
  obtain ⟨k, ek, lk⟩ := rd_bound (zs := rest3 zs 2) (by rw [e2]; exact hby.drop _)
  have lk' : n + m + k ≤ zs.length := by rw [e2] at lk; simp at lk; omega
  have e3 : rest3 zs 3 = zs.drop (n + m + k) := by
    show (rest3 zs 2).drop (rd (rest3 zs 2)).2.1.toNat = _
    rw [ek, e2, List.drop_drop]; simp
  obtain ⟨a1, f1, r1, -⟩ := part_l hr hp n ln
  obtain ⟨a2, f2, r2, -⟩ := part_l hr hp (n + m) lm'
  rw [← e1] at r1
  rw [← e2] at r2
  have l1 : (rest3 zs 1).length = zs.length - n := by rw [e1]; simp
  have l2 : (rest3 zs 2).length = zs.length - (n + m) := by rw [e2]; simp
  rw [← l1] at f1 r1
  rw [← l2] at f2 r2
  rw [show ((n + m : Nat) : Int) = (n : Int) + (m : Int) by omega] at f2
  have c1 := refread_any hr
  have c2 := refread_any r1
  have c3 := refread_any r2
  rw [en] at c1
  rw [em] at c2
  rw [ek] at c3
  have HR : Hid (rest3 zs 3 = [] ↔ (n : Int) + (m : Int) + (k : Int) = (zs.length : Int)) := Lib.hid (by
    rw [e3, List.drop_eq_nil_iff]
    omega)
  have HN : Hid ((rd zs).1 = num3 zs 0 ∧ (rd (rest3 zs 1)).1 = num3 zs 1 ∧ (rd (rest3 zs 2)).1 = num3 zs 2) := Lib.hid ⟨rfl, rfl, rfl⟩
  have HOK : Hid (((rd zs).2.2 = 0 ↔ ok3 zs 0) ∧ ((rd (rest3 zs 1)).2.2 = 0 ↔ ok3 zs 1) ∧ ((rd (rest3 zs 2)).2.2 = 0 ↔ ok3 zs 2)) := Lib.hid ⟨Iff.rfl, Iff.rfl, Iff.rfl⟩
  have b1 : n + m + k ≤ 2048 := by omega
  clear hbW hM hr h hby en em ek e1 e2 e3 ln lm lm' lk lk' l1 l2 r1 r2 hp
  generalize (rd zs).1 = N0 at *
  generalize (rd zs).2.2 = E0 at *
  generalize (rd (rest3 zs 1)).1 = N1 at *
  generalize (rd (rest3 zs 1)).2.2 = E1 at *
  generalize (rd (rest3 zs 2)).1 = N2 at *
  generalize (rd (rest3 zs 2)).2.2 = E2 at *
  generalize (rest3 zs 1).length = L1 at *
  generalize (rest3 zs 2).length = L2 at *
  by_cases q0 : E0 = 0
  · subst q0
    by_cases q1 : E1 = 0
    · subst q1
      by_cases q2 : E2 = 0
      · subst q2
        have HY := Lib.hid (tickR_yes (zs := zs) (fun q hq => by
          rcases (by omega : q = 0 ∨ q = 1 ∨ q = 2) with rfl | rfl | rfl
          · exact HOK.out.1.1 rfl
          · exact HOK.out.2.1.1 rfl
          · exact HOK.out.2.2.1 rfl))
        by_cases q3 : (n : Int) + (m : Int) + (k : Int) = (zs.length : Int)
        · have HT : Hid (tickR zs = some (N0, N1, N2)) := Lib.hid (by rw [HY.out, if_pos (HR.out.2 q3), HN.out.1, HN.out.2.1, HN.out.2.2])
          have q3' : ((n : Int) + (m : Int) + (k : Int) != (zs.length : Int)) = false := by simp [q3]
          clear q3
          go_enter Tryd.func31, Tryd.ntmps31
          go_wp2_with fail
          refine c1.mono ?_
          rintro e w1 ⟨rfl, rfl⟩
          clear c1
          go_wp2_with fail
          refine c2.mono ?_
          rintro e w1 ⟨rfl, rfl⟩
          clear c2
          go_wp2_with fail
          refine c3.mono ?_
          rintro e w1 ⟨rfl, rfl⟩
          clear c3
          go_wp2_with fail
          refine bodyPost_ret (res_ref17_Read _ _ w.heap.size _ _ _ _ rfl rfl (chain3_row HW.out.1 _ _ _)) rfl ?_
          exact RkP.yes HT.out rfl ((chain3_but _ _ _ _ _).below HW.out.2 (Nat.le_refl _))
        · have HT : Hid (tickR zs = none) := Lib.hid (by rw [HY.out, if_neg (fun e => q3 (HR.out.1 e))])
          have q3' : ((n : Int) + (m : Int) + (k : Int) != (zs.length : Int)) = true := by simp [q3]
          clear q3
          go_enter Tryd.func31, Tryd.ntmps31
          go_wp2_with fail
          refine c1.mono ?_
          rintro e w1 ⟨rfl, rfl⟩
          clear c1
          go_wp2_with fail
          refine c2.mono ?_
          rintro e w1 ⟨rfl, rfl⟩
          clear c2
          go_wp2_with fail
          refine c3.mono ?_
          rintro e w1 ⟨rfl, rfl⟩
          clear c3
          go_wp2_with fail
          refine bodyPost_ret (res_ref17_Read _ _ w.heap.size _ _ _ _ rfl rfl (chain3_row HW.out.1 _ _ _)) rfl ?_
          exact RkP.no HT.out rfl ((chain3_but _ _ _ _ _).below HW.out.2 (Nat.le_refl _))
      · have HT : Hid (tickR zs = none) := Lib.hid (tickR_no (k := 2) (by omega) (fun e => q2 (HOK.out.2.2.2 e)) (fun q hq => by
          rcases (by omega : q = 0 ∨ q = 1) with rfl | rfl
          · exact HOK.out.1.1 rfl
          · exact HOK.out.2.1.1 rfl))
        have q2' : (E2 != 0) = true := by simp [q2]
        clear q2
        go_enter Tryd.func31, Tryd.ntmps31
        go_wp2_with fail
        refine c1.mono ?_
        rintro e w1 ⟨rfl, rfl⟩
        clear c1
        go_wp2_with fail
        refine c2.mono ?_
        rintro e w1 ⟨rfl, rfl⟩
        clear c2
        go_wp2_with fail
        refine c3.mono ?_
        rintro e w1 ⟨rfl, rfl⟩
        clear c3
        go_wp2_with fail
        refine bodyPost_ret (res_ref17_Read _ _ w.heap.size _ _ _ _ rfl rfl (chain3_row HW.out.1 _ _ _)) rfl ?_
        exact RkP.no HT.out rfl ((chain3_but _ _ _ _ _).below HW.out.2 (Nat.le_refl _))
    · have HT : Hid (tickR zs = none) := Lib.hid (tickR_no (k := 1) (by omega) (fun e => q1 (HOK.out.2.1.2 e)) (fun q hq => by
        obtain rfl : q = 0 := by omega
        exact HOK.out.1.1 rfl))
      have q1' : (E1 != 0) = true := by simp [q1]
      clear q1
      go_enter Tryd.func31, Tryd.ntmps31
      go_wp2_with fail
      refine c1.mono ?_
      rintro e w1 ⟨rfl, rfl⟩
      clear c1
      go_wp2_with fail
      refine c2.mono ?_
      rintro e w1 ⟨rfl, rfl⟩
      clear c2
      go_wp2_with fail
      refine bodyPost_ret (res_ref17_Read _ _ w.heap.size _ _ _ _ rfl rfl (chain3_row HW.out.1 _ _ _)) rfl ?_
      exact RkP.no HT.out rfl ((chain3_but _ _ _ _ _).below HW.out.2 (Nat.le_refl _))
  · have HT : Hid (tickR zs = none) := Lib.hid (tickR_no (k := 0) (by omega) (fun e => q0 (HOK.out.1.2 e)) (fun q hq => by omega))
    have q0' : (E0 != 0) = true := by simp [q0]
    clear q0
    go_enter Tryd.func31, Tryd.ntmps31
    go_wp2_with fail
    refine c1.mono ?_
    rintro e w1 ⟨rfl, rfl⟩
    clear c1
    go_wp2_with fail
    refine bodyPost_ret (res_ref17_Read _ _ w.heap.size _ _ _ _ rfl rfl (chain3_row HW.out.1 _ _ _)) rfl ?_
    exact RkP.no HT.out rfl ((chain3_but _ _ _ _ _).below HW.out.2 (Nat.le_refl _))
#print axioms rkread_any
end Go.Proofs.YtofklfahbhhoiaaDoor
