/- frame: isNumber, isTerm, isBare, rightSpans. -/
import Derived.Test.YtgcgmgcgbnepeaaDoorGR
import Derived.Test.YtgcgmgcgbnepeaaDoorQNum
import Derived.Deep.QuietTactic
import Derived.BigQuiet
namespace Go.Proofs.YtgcgmgcgbnepeaaDoor
open Go Go.RowKit

theorem drewN_below (w : World) (k : Nat) : Below w.heap.size w (w.drewN k) := ⟨rfl, rfl, rfl, Nat.le_refl _, fun _ _ => rfl⟩
theorem ret_bl {a b : Bool} (h : a = b) : Ending.returned (.bool a) = .returned (.bool b) := by rw [h]
/-- Spans lie in a block. -/
def At (w : World) (b off : Nat) (S : List Sp) : Prop := ∀ j, j < S.length → w.cell? ⟨b, off + j * 2, none⟩ = some (.int .i64 (S.getD j (0, 0)).1) ∧ w.cell? ⟨b, off + j * 2 + 1, none⟩ = some (.int .i64 (S.getD j (0, 0)).2)
theorem At.below {w w' : World} {b off : Nat} {S : List Sp} (h : At w b off S) (hb : Below w.heap.size w w') : At w' b off S := fun j hj => by
  have := h j hj
  exact ⟨by rw [hb.cell (cell_lt this.1)]; exact this.1, by rw [hb.cell (cell_lt this.2)]; exact this.2⟩
theorem gisnum_any (n : Int) (w : World) : Calls Tryd.prog 23 #[.int .i64 n] w fun e w' => e = .returned (.bool (nmB n)) ∧ w = w' := by
  have hs := size_any n w
  have HS := Lib.hid (sz_pos n)
  go_enter Tryd.func23, Tryd.ntmps23
  go_wp2_with (go_at_call 37; refine hs.mono ?_; rintro e w' ⟨rfl, rfl⟩)
  go_ret
  exact ⟨ret_bl HS.out, rfl⟩
theorem gister_any (t : Int) (w : World) : Calls Tryd.prog 22 #[.int .i64 t] w fun e w' => e = .returned (.bool (tmB t)) ∧ Below w.heap.size w w' := by
  have hs := inumber_any t w
  have HS : Hid (decide ((0 : Int) < ((numB t).length : Int)) = tmB t) := Lib.hid (by
    unfold tmB
    by_cases h : 1 ≤ t ∧ t ≤ 65536
    · rw [numB_yes h, decide_eq_true h]; rfl
    · rw [numB_no h, decide_eq_false h]; rfl)
  generalize numB t = L at *
  go_enter Tryd.func22, Tryd.ntmps22
  go_wp2_with (go_at_call 36; refine hs.mono ?_; rintro e w1 ⟨v, rfl, hr, hb⟩; obtain ⟨ao, cap, rfl⟩ := hr.shape)
  go_ret
  exact ⟨by rw [← HS.out]; (try simp), hb⟩
/-- A frame, as a value. -/
def fAgg (f : Fv) (sv dv : Value) : Value := .agg #[.int .i64 f.k, .int .i64 f.c, sv, .int .i64 f.a, dv, .int .i64 f.t]
def fCells (f : Fv) (sv dv : Value) : Array Value := #[.int .i64 f.k, .int .i64 f.c, sv, .int .i64 f.a, dv, .int .i64 f.t]
set_option maxHeartbeats 1000000 in
theorem bare_any (w : World) (f : Fv) (sa da : Option Addr) (sc dc : Nat) : Calls Tryd.prog 24 #[fAgg f (.slice sa f.sp.length sc) (.slice da f.d.length dc)] w fun e w' => e = .returned (.bool (bareB f)) ∧ Below w.heap.size w w' := by
  obtain ⟨k, c, sp, a, d, t⟩ := f
  unfold fAgg bareB
  simp only
  generalize sp.length = n
  generalize d.length = m
  by_cases h0 : c = 0
  · have e0 : (c == 0) = true := by simp [h0]
    subst h0
    by_cases h1 : n = 0
    · have e1 : (((n : Nat) : Int) == 0) = true := by simp [h1]
      subst h1
      by_cases h2 : a = 0
      · have e2 : (a == 0) = true := by simp [h2]
        subst h2
        by_cases h3 : m = 0
        · have e3 : (((m : Nat) : Int) == 0) = true := by simp [h3]
          subst h3
          by_cases h4 : t = 0
          · have e4 : (t == 0) = true := by simp [h4]
            subst h4
            go_enter Tryd.func24, Tryd.ntmps24
            go_wp2_with fail
            go_ret
            exact ⟨rfl, below_alloc _ _⟩
          · have e4 : (t == 0) = false := beq_eq_false_iff_ne.2 (by omega)
            have d4 : decide (t = 0) = false := decide_eq_false h4
            have D := Lib.hid d4
            clear h4 d4
            go_enter Tryd.func24, Tryd.ntmps24
            go_wp2_with fail
            go_ret
            exact ⟨by rw [D.out]; simp, below_alloc _ _⟩
        · have e3 : (((m : Nat) : Int) == 0) = false := beq_eq_false_iff_ne.2 (by omega)
          have d3 : decide (m = 0) = false := decide_eq_false h3
          have D := Lib.hid d3
          clear h3 d3
          go_enter Tryd.func24, Tryd.ntmps24
          go_wp2_with fail
          go_ret
          exact ⟨by rw [D.out]; simp, below_alloc _ _⟩
      · have e2 : (a == 0) = false := beq_eq_false_iff_ne.2 (by omega)
        have d2 : decide (a = 0) = false := decide_eq_false h2
        have D := Lib.hid d2
        clear h2 d2
        go_enter Tryd.func24, Tryd.ntmps24
        go_wp2_with fail
        go_ret
        exact ⟨by rw [D.out]; simp, below_alloc _ _⟩
    · have e1 : (((n : Nat) : Int) == 0) = false := beq_eq_false_iff_ne.2 (by omega)
      have d1 : decide (n = 0) = false := decide_eq_false h1
      have D := Lib.hid d1
      clear h1 d1
      go_enter Tryd.func24, Tryd.ntmps24
      go_wp2_with fail
      go_ret
      exact ⟨by rw [D.out]; simp, below_alloc _ _⟩
  · have e0 : (c == 0) = false := beq_eq_false_iff_ne.2 (by omega)
    have d0 : decide (c = 0) = false := decide_eq_false h0
    have D := Lib.hid d0
    clear h0 d0
    go_enter Tryd.func24, Tryd.ntmps24
    go_wp2_with fail
    go_ret
    exact ⟨by rw [D.out]; simp, below_alloc _ _⟩

theorem Rs.at {w : World} {v : Value} {S : List Sp} (h : Rs w v S) (hz : 0 < S.length) : ∃ b off cap, v = .slice (some ⟨b, off, none⟩) S.length cap ∧ b < w.heap.size ∧ At w b off S := by
  rcases h.cases with ⟨rfl, _⟩ | ⟨b, off, cap, e, _, _, _, hb, hc⟩
  · simp at hz
  · exact ⟨b, off, cap, e, hb, hc⟩
set_option maxHeartbeats 2000000 in
theorem rspans_loop {w : World} {b off cap : Nat} {S : List Sp} (h0 : 0 < S.length) (hl : S.length ≤ 32) (hat : At w b off S) (hb : b < w.heap.size) (hnm : nmB (S.getD 0 (0, 0)).2 = true) : Calls Tryd.prog 21 #[.slice (some ⟨b, off, none⟩) S.length cap] w fun e w' => e = .returned (.bool (decide (ackP S))) ∧ Below w.heap.size w w' := by
  have h0' : (1 : Int) ≤ (S.length : Int) := by omega
  have hl' : (S.length : Int) ≤ 32 := by omega
  have hx := (hat 0 h0).2
  have HA := Lib.hid hat
  have HNM := Lib.hid (nmB_iff.1 hnm)
  have HL := Lib.hid (And.intro (show 1 ≤ S.length by omega) hl)
  simp only [Nat.zero_mul, Nat.add_zero] at hx
  have hn := gisnum_any (S.getD 0 (0, 0)).2 w
  rw [hnm] at hn
  have HNB := Lib.hid hnm
  generalize hX : (S.getD 0 (0, 0)).2 = x at *
  have HX := Lib.hid hX
  clear hat hnm hX
  go_enter Tryd.func21, Tryd.ntmps21
  go_wp2_with (go_at_call 23; refine hn.mono ?_; rintro e w' ⟨rfl, rfl⟩)
  clear hn hx
  go_loopw [23] (fun i wr => ∃ k : Nat, i = .int .i64 k ∧ k ≤ S.length ∧ Hid (∀ j, j < k → okAt S j) ∧ Hid (0 < k → 0 ≤ (S.getD (k - 1) (0, 0)).1 ∧ (S.getD (k - 1) (0, 0)).1 < 4611686018427387904) ∧ Below w.heap.size w wr) (fun i _ => S.length - (intOf i).toNat)
  case atStart => exact ⟨0, rfl, by omega, Lib.hid (fun j hj => by omega), Lib.hid (fun h => by omega), Below.refl _ _⟩
  case round =>
    obtain ⟨k, rfl, hk, hok, hlast, hbel⟩ := hrel
    have hk' : (k : Int) ≤ (S.length : Int) := by omega
    by_cases hlt : k < S.length
    · have hlt' : (k : Int) < (S.length : Int) := by omega
      have hsz := hbel.size
      have HB := Lib.hid hbel
      obtain ⟨x1, x2⟩ := (HA.out.below hbel) k hlt
      have hbr : b < _ := Nat.lt_of_lt_of_le hb hsz
      have HNO : Hid (¬ okAt S k → decide (ackP S) = false) := Lib.hid fun h => ack_no fun hp => h (hp.2.2.2 k hlt)
      have HYS : Hid (okAt S k → ∀ j, j < k + 1 → okAt S j) := Lib.hid fun h j hj => by
        by_cases e : j = k
        · rw [e]; exact h
        · exact hok.out j (by omega)
      have HOK : Hid (okAt S k ↔ 0 ≤ (S.getD k (0, 0)).1 ∧ (S.getD k (0, 0)).1 ≤ (S.getD k (0, 0)).2 ∧ (0 < k → (S.getD k (0, 0)).2 ≤ (S.getD (k - 1) (0, 0)).1 - 2)) := Lib.hid Iff.rfl
      clear hbel hok
      cases k with
      | zero =>
        simp only [Nat.zero_mul, Nat.add_zero] at x1 x2
        have hb2 : (S.getD 0 (0, 0)).2 < 4611686018427387904 := by rw [HX.out]; exact HNM.out.2
        generalize hY1 : (S.getD 0 (0, 0)).1 = y1 at *
        generalize (S.getD 0 (0, 0)).2 = y2 at *
        have HY1 := Lib.hid hY1
        clear hY1
        by_cases c1 : y1 < 0
        · have z1' : decide (y1 < 0) = true := decide_eq_true c1
          have HR := Lib.hid (HNO.out fun h => by have := HOK.out.1 h; omega)
          clear c1 hb2
          go_wp2_with fail
          go_quiet (fail)
          go_wp2_with fail
          go_ret
          exact ⟨ret_bl HR.out.symm, ((HB.out.alloc hsz _).trans ((drewN_below _ _).mono (by simp; omega)))⟩
        by_cases c2 : y2 < y1
        · have z1' : decide (y1 < 0) = false := decide_eq_false c1
          have z2' : decide (y2 < y1) = true := decide_eq_true c2
          have HR := Lib.hid (HNO.out fun h => by have := HOK.out.1 h; omega)
          clear c1 c2 hb2
          go_wp2_with fail
          go_quiet (fail)
          go_wp2_with fail
          go_ret
          exact ⟨ret_bl HR.out.symm, ((HB.out.alloc hsz _).trans ((drewN_below _ _).mono (by simp; omega)))⟩
        have z1' : decide (y1 < 0) = false := decide_eq_false c1
        have z2' : decide (y2 < y1) = false := decide_eq_false c2
        have HQ := Lib.hid (HYS.out (HOK.out.2 ⟨by omega, by omega, fun h => by omega⟩))
        have HZ : Hid (0 ≤ y1 ∧ y1 < 4611686018427387904) := Lib.hid ⟨by omega, by omega⟩
        clear c1 c2 hb2
        go_wp2_with fail
        go_quiet (fail)
        go_wp2_with fail
        go_roundw
        case rel => exact ⟨1, by go_num, by omega, Lib.hid HQ.out, Lib.hid (fun _ => by rw [show 1 - 1 = 0 from rfl, HY1.out]; exact HZ.out), ((HB.out.alloc hsz _).trans ((drewN_below _ _).mono (by simp; omega)))⟩
        case measure => simp [intOf]; omega
      | succ j =>
        obtain ⟨p1, _⟩ := (HA.out.below HB.out) j (by omega)
        have hly := hlast.out (by omega)
        simp only [Nat.add_sub_cancel] at hly HOK
        generalize hY1 : (S.getD (j + 1) (0, 0)).1 = y1 at *
        generalize (S.getD (j + 1) (0, 0)).2 = y2 at *
        generalize (S.getD j (0, 0)).1 = y3 at *
        have HY1 := Lib.hid hY1
        clear hY1
        obtain ⟨l1, l2⟩ := hly
        have z5' : decide ((0 : Int) < (j : Int) + 1) = true := decide_eq_true (by omega)
        have e1 : IntKind.i64.wrap (j : Int) = (j : Int) := IntWalk.i64_in _ (by omega)
        have e2 : IntKind.i64.wrap (y3 - 2) = y3 - 2 := IntWalk.i64_in _ (by omega)
        have z4 : -9223372036854775808 ≤ y3 - 2 := by omega
        have hjl : (j : Int) < (S.length : Int) := by omega
        have E1 := Lib.hid e1
        have E2 := Lib.hid e2
        by_cases c1 : y1 < 0
        · have z1' : decide (y1 < 0) = true := decide_eq_true c1
          have HR := Lib.hid (HNO.out fun h => by have := HOK.out.1 h; omega)
          clear c1 e1 e2
          go_wp2_with fail
          go_quiet (fail)
          go_wp2_with fail
          go_ret
          exact ⟨ret_bl HR.out.symm, ((HB.out.alloc hsz _).trans ((drewN_below _ _).mono (by simp; omega)))⟩
        by_cases c2 : y2 < y1
        · have z1' : decide (y1 < 0) = false := decide_eq_false c1
          have z2' : decide (y2 < y1) = true := decide_eq_true c2
          have HR := Lib.hid (HNO.out fun h => by have := HOK.out.1 h; omega)
          clear c1 c2 e1 e2
          go_wp2_with fail
          go_quiet (fail)
          go_wp2_with fail
          go_ret
          exact ⟨ret_bl HR.out.symm, ((HB.out.alloc hsz _).trans ((drewN_below _ _).mono (by simp; omega)))⟩
        have z1' : decide (y1 < 0) = false := decide_eq_false c1
        have z2' : decide (y2 < y1) = false := decide_eq_false c2
        by_cases c3 : y3 - 2 < y2
        · have z3' : decide (y3 - 2 < y2) = true := decide_eq_true c3
          have HR := Lib.hid (HNO.out fun h => by have := (HOK.out.1 h).2.2 (by omega); omega)
          clear c1 c2 c3 e1 e2
          go_wp2_with fail
          have e1 := E1.out
          have e2 := E2.out
          go_quiet (fail)
          clear e1 e2
          go_wp2_with fail
          go_ret
          exact ⟨ret_bl HR.out.symm, ((HB.out.alloc hsz _).trans ((drewN_below _ _).mono (by simp; omega)))⟩
        have z3' : decide (y3 - 2 < y2) = false := decide_eq_false c3
        have HQ := Lib.hid (HYS.out (HOK.out.2 ⟨by omega, by omega, fun h => by omega⟩))
        have HZ : Hid (0 ≤ y1 ∧ y1 < 4611686018427387904) := Lib.hid ⟨by omega, by omega⟩
        clear c1 c2 c3 e1 e2
        go_wp2_with fail
        have e1 := E1.out
        have e2 := E2.out
        go_quiet (fail)
        clear e1 e2
        go_wp2_with fail
        go_roundw
        case rel => exact ⟨j + 1 + 1, by go_num, by omega, Lib.hid HQ.out, Lib.hid (fun _ => by rw [show j + 1 + 1 - 1 = j + 1 from rfl, HY1.out]; exact HZ.out), ((HB.out.alloc hsz _).trans ((drewN_below _ _).mono (by simp; omega)))⟩
        case measure => simp [intOf]; omega
    · obtain rfl : k = S.length := by omega
      have HR := Lib.hid (ack_yes HL.out (by rw [HX.out]; exact HNB.out) hok.out)
      go_wp2_with fail
      go_ret
      exact ⟨ret_bl HR.out.symm, hbel⟩
set_option maxHeartbeats 1000000 in
theorem rspans_any {w : World} {v : Value} {S : List Sp} (h : Rs w v S) : Calls Tryd.prog 21 #[v] w fun e w' => e = .returned (.bool (decide (ackP S))) ∧ Below w.heap.size w w' := by
  by_cases hz : 0 < S.length
  · obtain ⟨b, off, cap, rfl, hb, hat⟩ := h.at hz
    by_cases hl : S.length ≤ 32
    · by_cases hnm : nmB (S.getD 0 (0, 0)).2 = true
      · exact rspans_loop hz hl hat hb hnm
      · have HR := Lib.hid (ack_no fun (hp : ackP S) => hnm hp.2.2.1)
        have hx := (hat 0 hz).2
        simp only [Nat.zero_mul, Nat.add_zero] at hx
        have hn := gisnum_any (S.getD 0 (0, 0)).2 w
        rw [Bool.not_eq_true _ |>.mp hnm] at hn
        generalize (S.getD 0 (0, 0)).2 = x at *
        have hz' : (1 : Int) ≤ (S.length : Int) := by omega
        have hl' : (S.length : Int) ≤ 32 := by omega
        clear hat hnm
        go_enter Tryd.func21, Tryd.ntmps21
        go_wp2_with (go_at_call 23; refine hn.mono ?_; rintro e w' ⟨rfl, rfl⟩)
        go_ret
        exact ⟨ret_bl HR.out.symm, Below.refl _ _⟩
    · have HR := Lib.hid (ack_no fun (hp : ackP S) => hl hp.2.1)
      have hz' : (1 : Int) ≤ (S.length : Int) := by omega
      have hl' : (32 : Int) < (S.length : Int) := by omega
      clear hat
      go_enter Tryd.func21, Tryd.ntmps21
      go_wp2_with fail
      go_ret
      exact ⟨ret_bl HR.out.symm, Below.refl _ _⟩
  · have HR := Lib.hid (ack_no fun (hp : ackP S) => hz hp.1)
    obtain ⟨ao, cap, rfl⟩ := rs_shape h
    have hz' : (S.length : Int) < 1 := by omega
    clear h
    go_enter Tryd.func21, Tryd.ntmps21
    go_wp2_with fail
    go_ret
    exact ⟨ret_bl HR.out.symm, Below.refl _ _⟩
#print axioms rspans_any
#print axioms bare_any
end Go.Proofs.YtgcgmgcgbnepeaaDoor
