/- choose: the document's answers; what the chapter's examples say. -/
import Derived.Test.YtallpkchhkdanaaChoose
namespace Go.Proofs.Ytallpkchhkdanaa
open Go Go.RowKit

set_option maxRecDepth 20000 in
set_option maxHeartbeats 1000000 in
theorem in_some {w : World} {b off cap : Nat} {vs : List Int} {n : Int} (hcell : ∀ j, j < vs.length → w.cell? ⟨b, off + j, none⟩ = some (.int .i64 (vs.getD j 0))) (hl : vs.length ≤ 100000) :
    Calls Try.prog 23 #[.slice (some ⟨b, off, none⟩) vs.length cap, .int .i64 n] w fun e w' => e = .returned (.bool (inB vs n)) ∧ w = w' := by
  have HC := Lib.hid hcell
  clear hcell
  have hl' : (vs.length : Int) ≤ 100000 := by omega
  go_enter Try.func23, Try.ntmps23
  go_wp2_with fail
  go_loop [5] (fun i => ∃ k : Nat, k ≤ vs.length ∧ i = .int .i64 k ∧ NoneB (fun x => decide (n = x)) vs k) (fun i => vs.length - (intOf i).toNat)
  case atStart => exact ⟨0, by omega, rfl, NoneB.zero _ _⟩
  case round =>
    obtain ⟨k, hk, rfl, ha⟩ := hrel
    have hk' : (k : Int) ≤ (vs.length : Int) := by omega
    by_cases hlt : k < vs.length
    · have hlt' : (k : Int) < (vs.length : Int) := by omega
      have hx := HC.out k hlt
      have HT := Lib.hid (fun hx => ha.succ hlt hx)
      have HM := Lib.hid (getD_mem hlt)
      clear ha
      generalize vs.getD k 0 = x at hx HT HM
      by_cases hv : n = x
      · subst hv
        have HV : Hid (inB vs n = true) := Lib.hid (by unfold inB; exact decide_eq_true HM.out)
        go_wp2_with fail
        go_ret
        exact ⟨ret_b HV.out.symm, rfl⟩
      · have HV : Hid (decide (n = x) = false) := Lib.hid (decide_eq_false hv)
        have hv' : (x == n) = false := beq_eq_false_iff_ne.2 (Ne.symm hv)
        clear hv
        go_wp2_with fail
        go_round
        case rel => exact ⟨k + 1, by omega, by go_num, HT.out HV.out⟩
        case measure => simp [intOf]; omega
    · obtain rfl : k = vs.length := by omega
      have HA := Lib.hid (eq_none ha)
      clear ha
      go_wp2_with fail
      go_ret
      exact ⟨ret_b HA.out.symm, rfl⟩
theorem in_nil {w : World} {ao : Option Addr} {cap : Nat} {n : Int} : Calls Try.prog 23 #[.slice ao 0 cap, .int .i64 n] w fun e w' => e = .returned (.bool (inB [] n)) ∧ w = w' := by
  go_enter Try.func23, Try.ntmps23
  go_wp2_with fail
  go_loop [5] (fun i => i = .int .i64 0) (fun _ => 0)
  case atStart => rfl
  case round =>
    subst hrel
    go_wp2_with fail
    go_ret
    exact ⟨ret_b (by simp [inB]), rfl⟩
theorem in_any {w : World} {v : Value} {vs : List Int} {n : Int} (h : Rd .i64 w v vs) (hl : vs.length ≤ 100000) : Calls Try.prog 23 #[v, .int .i64 n] w fun e w' => e = .returned (.bool (inB vs n)) ∧ w = w' := by
  rcases h.cases with ⟨rfl, ao, cap, rfl, _⟩ | ⟨b, off, cap, rfl, _, _, _, _, h5⟩
  · exact in_nil
  · exact in_some h5 hl
set_option maxRecDepth 20000 in
set_option maxHeartbeats 1000000 in
theorem rfirst_some {w : World} {b off cap : Nat} {vs ms : List Int} {m : Value} (hcell : ∀ j, j < vs.length → w.cell? ⟨b, off + j, none⟩ = some (.int .i64 (vs.getD j 0))) (hl : vs.length ≤ 100000)
    (hm : Rd .i64 w m ms) (hml : ms.length ≤ 100000) :
    Calls Try.prog 15 #[.slice (some ⟨b, off, none⟩) vs.length cap, m] w fun e w' => e = .returned (.tuple #[.int .i64 (fstI vs ms), .bool (fstB vs ms)]) ∧ w = w' := by
  have HC := Lib.hid hcell
  have HA := Lib.hid (fun n => in_any (n := n) hm hml)
  obtain ⟨ao, cap', rfl, _⟩ := hm
  clear hcell
  have hl' : (vs.length : Int) ≤ 100000 := by omega
  go_enter Try.func15, Try.ntmps15
  go_wp2_with fail
  go_loop [6] (fun i => ∃ k : Nat, k ≤ vs.length ∧ i = .int .i64 k ∧ NoneB (inB ms) vs k) (fun i => vs.length - (intOf i).toNat)
  case atStart => exact ⟨0, by omega, rfl, NoneB.zero _ _⟩
  case round =>
    obtain ⟨k, hk, rfl, ha⟩ := hrel
    have hk' : (k : Int) ≤ (vs.length : Int) := by omega
    by_cases hlt : k < vs.length
    · have hlt' : (k : Int) < (vs.length : Int) := by omega
      have hx := HC.out k hlt
      have HT := Lib.hid (fun hx => ha.succ hlt hx)
      have HF := Lib.hid (fun hx => ha.find hlt hx)
      clear ha
      obtain ⟨x, hxe⟩ : ∃ x, vs.getD k 0 = x := ⟨_, rfl⟩
      rw [hxe] at hx HT HF
      clear hxe
      have hn := HA.out x
      cases hv : inB ms x with
      | true =>
        have HV := Lib.hid (HF.out hv)
        rw [hv] at hn
        clear hv HF HT
        go_wp2_with (go_at_call 23; refine hn.mono ?_; rintro e w' ⟨rfl, rfl⟩)
        go_ret2
        exact ⟨by unfold fstI fstB; rw [HV.out]; rfl, rfl⟩
      | false =>
        have HV := Lib.hid (HT.out hv)
        rw [hv] at hn
        clear hv HF HT
        go_wp2_with (go_at_call 23; refine hn.mono ?_; rintro e w' ⟨rfl, rfl⟩)
        go_round
        case rel => exact ⟨k + 1, by omega, by go_num, HV.out⟩
        case measure => simp [intOf]; omega
    · obtain rfl : k = vs.length := by omega
      have HN := Lib.hid ha.all
      clear ha
      go_wp2_with fail
      go_ret2
      exact ⟨by unfold fstI fstB; rw [HN.out]; rfl, rfl⟩
theorem rfirst_nil {w : World} {ao bo : Option Addr} {cap cap' n : Nat} {ms : List Int} : Calls Try.prog 15 #[.slice ao 0 cap, .slice bo n cap'] w fun e w' => e = .returned (.tuple #[.int .i64 (fstI [] ms), .bool (fstB [] ms)]) ∧ w = w' := by
  go_enter Try.func15, Try.ntmps15
  go_wp2_with fail
  go_loop [6] (fun i => i = .int .i64 0) (fun _ => 0)
  case atStart => rfl
  case round =>
    subst hrel
    go_wp2_with fail
    go_ret2
    exact ⟨rfl, rfl⟩
theorem rfirst_any {w : World} {v m : Value} {vs ms : List Int} (h : Rd .i64 w v vs) (hl : vs.length ≤ 100000) (hm : Rd .i64 w m ms) (hml : ms.length ≤ 100000) :
    Calls Try.prog 15 #[v, m] w fun e w' => e = .returned (.tuple #[.int .i64 (fstI vs ms), .bool (fstB vs ms)]) ∧ w = w' := by
  rcases h.cases with ⟨rfl, ao, cap, rfl, _⟩ | ⟨b, off, cap, rfl, _, _, _, _, h5⟩
  · obtain ⟨bo, cap', rfl, _⟩ := hm
    exact rfirst_nil
  · exact rfirst_some h5 hl hm hml
set_option maxHeartbeats 1000000 in
theorem rreact_any {w : World} {v m : Value} {vs ms : List Int} (h : Rd .i64 w v vs) (hl : vs.length ≤ 100000) (hm : Rd .i64 w m ms) (hml : ms.length ≤ 100000) (n : Int) :
    Calls Try.prog 17 #[m, v, .int .i64 n] w fun e w' => e = .returned (.tuple #[.int .i64 (reactN ms vs n), .int .i64 (reactE ms vs n)]) ∧ w = w' := by
  have hf := rfirst_any h hl hm hml
  have hq := in_any (n := n) hm hml
  have hv := h
  obtain ⟨ao, cap, rfl, _⟩ := hv
  have hv := hm
  obtain ⟨ao', cap', rfl, _⟩ := hv
  have HN := Lib.hid (@fst_none vs ms)
  unfold reactN reactE
  clear h hm
  generalize fstI vs ms = x at *
  generalize fstB vs ms = y at *
  generalize inB ms n = q at *
  cases q
  · cases y
    · obtain rfl := HN.out rfl
      go_enter Try.func17, Try.ntmps17
      go_wp2_with (first
        | (go_at_call 23; refine hq.mono ?_; rintro e w' ⟨rfl, rfl⟩)
        | (go_at_call 15; refine hf.mono ?_; rintro e w' ⟨rfl, rfl⟩))
      go_ret2
      exact ⟨rfl, rfl⟩
    · go_enter Try.func17, Try.ntmps17
      go_wp2_with (first
        | (go_at_call 23; refine hq.mono ?_; rintro e w' ⟨rfl, rfl⟩)
        | (go_at_call 15; refine hf.mono ?_; rintro e w' ⟨rfl, rfl⟩))
      go_ret2
      exact ⟨rfl, rfl⟩
  · go_enter Try.func17, Try.ntmps17
    go_wp2_with (go_at_call 23; refine hq.mono ?_; rintro e w' ⟨rfl, rfl⟩)
    go_ret2
    exact ⟨rfl, rfl⟩

/-- A literal list of numbers. -/
theorem lit2 (w : World) (a b : Int) : Rd .i64 (w.alloc (.cells #[.int .i64 a, .int .i64 b] 3)) (.slice (some ⟨w.heap.size, 0, none⟩) 2 2) [a, b] := Rd.lit .i64 3 w [a, b] (by simp)
theorem lit3 (w : World) (a b c : Int) : Rd .i64 (w.alloc (.cells #[.int .i64 a, .int .i64 b, .int .i64 c] 3)) (.slice (some ⟨w.heap.size, 0, none⟩) 3 3) [a, b, c] := Rd.lit .i64 3 w [a, b, c] (by simp)
set_option maxHeartbeats 1000000 in
theorem cawake_any (w : World) : Calls Try.prog 20 #[] w fun e w' => e = .returned (.bool true) ∧ Below w.heap.size w w' := by
  have h1 := react_any ((lit3 (w.alloc (.cells #[.int .i64 2, .int .i64 1] 3)) 3 1 2)) (by simp) ((lit2 w 2 1).alloc _) (by simp) 3
  rw [show reactN [2, 1] [3, 1, 2] 3 = 1 by decide, show reactE [2, 1] [3, 1, 2] 3 = 0 by decide, World.size_alloc] at h1
  have b1 := (below_alloc w (.cells #[.int .i64 2, .int .i64 1] 3)).trans ((below_alloc _ (.cells #[.int .i64 3, .int .i64 1, .int .i64 2] 3)).mono (below_alloc w (.cells #[.int .i64 2, .int .i64 1] 3)).size)
  have B1 := Lib.hid b1
  clear b1
  have h2 : ∀ w : World, Calls Try.prog 19 #[.slice (some ⟨w.heap.size, 0, none⟩) 3 3, .slice (some ⟨w.heap.size + 1, 0, none⟩) 2 2] ((w.alloc (.cells #[.int .i64 3, .int .i64 2, .int .i64 1] 3)).alloc (.cells #[.int .i64 1, .int .i64 2] 3)) fun e w' => e = .returned (.int .i64 2) ∧ Below w.heap.size w w' := by
    intro w
    have h2 := pick_any ((lit3 w 3 2 1).alloc (.cells #[.int .i64 1, .int .i64 2] 3)) (by simp) (lit2 (w.alloc (.cells #[.int .i64 3, .int .i64 2, .int .i64 1] 3)) 1 2) (by simp)
    rw [show fstI [3, 2, 1] [1, 2] = 2 by decide, World.size_alloc] at h2
    refine h2.mono fun e w' ⟨he, hb⟩ => ⟨he, ?_⟩
    have b1 := (below_alloc w (.cells #[.int .i64 3, .int .i64 2, .int .i64 1] 3)).trans ((below_alloc _ (.cells #[.int .i64 1, .int .i64 2] 3)).mono (below_alloc w (.cells #[.int .i64 3, .int .i64 2, .int .i64 1] 3)).size)
    exact b1.trans (hb.mono b1.size)
  go_enter Try.func20, Try.ntmps20
  go_wp2_with (first
    | (go_at_call 16; refine h1.mono ?_; rintro e w1 ⟨rfl, hb1⟩)
    | (go_at_call 19; refine (h2 w1).mono ?_; rintro e w2 ⟨rfl, hb2⟩))
  go_ret
  have b1 := B1.out.trans (hb1.mono B1.out.size)
  exact ⟨rfl, b1.trans (hb2.mono b1.size)⟩
end Go.Proofs.Ytallpkchhkdanaa
