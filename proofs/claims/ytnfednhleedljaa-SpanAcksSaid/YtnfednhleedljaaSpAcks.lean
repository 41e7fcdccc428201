/- What a set tells is right as an ack's spans, or empty, and new memory. -/
import Derived.Test.YtnfednhleedljaaSpOrder
namespace Go.Proofs.Ytnfednhleedljaa
open Go Go.RowKit

theorem size_pos (n : Int) (h0 : 0 ≤ n) (h1 : n ≤ 4611686018427387903) (w : World) : Calls Try.prog 17 #[.int .i64 n] w fun e w' => ∃ z : Int, e = .returned (.int .i64 z) ∧ 0 < z ∧ w = w' := by
  have h2 : ¬ 4611686018427387904 ≤ n := by omega
  have h3 : ¬ n < 0 := by omega
  by_cases c1 : n < 64
  · go_enter Try.func17, Try.ntmps17
    go_wp2_with fail
    go_ret
    exact ⟨_, rfl, by decide, rfl⟩
  by_cases c2 : n < 16384
  · go_enter Try.func17, Try.ntmps17
    go_wp2_with fail
    go_ret
    exact ⟨_, rfl, by decide, rfl⟩
  by_cases c3 : n < 1073741824
  · go_enter Try.func17, Try.ntmps17
    go_wp2_with fail
    go_ret
    exact ⟨_, rfl, by decide, rfl⟩
  · go_enter Try.func17, Try.ntmps17
    go_wp2_with fail
    go_ret
    exact ⟨_, rfl, by decide, rfl⟩
theorem fnum_yes (n : Int) (h0 : 0 ≤ n) (h1 : n ≤ 4611686018427387903) (w : World) : Calls Try.prog 24 #[.int .i64 n] w fun e w' => e = .returned (.bool true) ∧ w = w' := by
  have hs := size_pos n h0 h1 w
  go_enter Try.func24, Try.ntmps24
  go_wp2_with (go_at_call 17; refine hs.mono ?_; rintro e w' ⟨z, rfl, hz, rfl⟩)
  go_ret
  exact ⟨rfl, rfl⟩
theorem WF.at {S : List Sp} (h : WF S) {k : Nat} (hk : k < S.length) : 0 ≤ (S.getD k (0, 0)).1 ∧ (S.getD k (0, 0)).1 ≤ (S.getD k (0, 0)).2 ∧ (S.getD k (0, 0)).2 ≤ 4611686018427387903 := by
  have : S.getD k (0, 0) = S[k] := by simp [hk]
  rw [this]; exact h.2 _ (List.getElem_mem hk)
theorem WF.next {S : List Sp} (h : WF S) {k : Nat} (hk : k + 1 < S.length) : (S.getD (k + 1) (0, 0)).2 + 1 < (S.getD k (0, 0)).1 := by
  have e1 : S.getD (k + 1) (0, 0) = S[k + 1] := by simp [hk]
  have e2 : S.getD k (0, 0) = S[k] := by simp [List.getD, show k < S.length by omega]
  rw [e1, e2]
  exact (List.pairwise_iff_getElem.1 h.1) k (k + 1) (by omega) hk (by omega)
set_option maxHeartbeats 2000000 in
theorem rspans_yes {w : World} {b off cap : Nat} {S : List Sp} (hw : WF S) (h0 : 0 < S.length) (hl : S.length ≤ 32) (hat : At w b off S) (hb : b < w.heap.size) : Calls Try.prog 22 #[.slice (some ⟨b, off, none⟩) S.length cap] w fun e w' => e = .returned (.bool true) ∧ Below w.heap.size w w' := by
  have h0' : (1 : Int) ≤ (S.length : Int) := by omega
  have hl' : (S.length : Int) ≤ 32 := by omega
  have hx := (hat 0 h0).2
  have hz := hw.at h0
  have HA := Lib.hid hat
  have HW := Lib.hid hw
  simp only [Nat.zero_mul, Nat.add_zero] at hx
  have hn := fnum_yes (S.getD 0 (0, 0)).2 (by omega) (by omega) w
  generalize (S.getD 0 (0, 0)).2 = x at *
  clear hat hw hz
  go_enter Try.func22, Try.ntmps22
  go_wp2_with (go_at_call 24; refine hn.mono ?_; rintro e w' ⟨rfl, rfl⟩)
  clear hn hx
  go_loopw [23] (fun i wr => ∃ k : Nat, i = .int .i64 k ∧ k ≤ S.length ∧ Below w.heap.size w wr) (fun i _ => S.length - (intOf i).toNat)
  case atStart => exact ⟨0, rfl, by omega, Below.refl _ _⟩
  case round =>
    obtain ⟨k, rfl, hk, hbel⟩ := hrel
    have hk' : (k : Int) ≤ (S.length : Int) := by omega
    by_cases hlt : k < S.length
    · have hlt' : (k : Int) < (S.length : Int) := by omega
      have hsz := hbel.size
      have HB := Lib.hid hbel
      obtain ⟨x1, x2⟩ := (HA.out.below hbel) k hlt
      have hz := HW.out.at hlt
      have hbr : b < _ := Nat.lt_of_lt_of_le hb hsz
      cases k with
      | zero =>
        simp only [Nat.zero_mul, Nat.add_zero] at x1 x2
        generalize (S.getD 0 (0, 0)).1 = y1 at *
        generalize (S.getD 0 (0, 0)).2 = y2 at *
        obtain ⟨z1, z2, z3⟩ := hz
        have z1' : decide (y1 < 0) = false := decide_eq_false (by omega)
        have z2' : decide (y2 < y1) = false := decide_eq_false (by omega)
        clear hbel z1 z2
        go_wp2_with fail
        go_quiet (fail)
        go_wp2_with fail
        go_roundw
        case rel => exact ⟨1, by go_num, by omega, ((HB.out.alloc hsz _).trans ((drewN_below _ _).mono (by simp; omega)))⟩
        case measure => simp [intOf]; omega
      | succ j =>
        obtain ⟨p1, _⟩ := (HA.out.below hbel) j (by omega)
        have hzj := HW.out.at (k := j) (by omega)
        have hnx := HW.out.next hlt
        generalize (S.getD (j + 1) (0, 0)).1 = y1 at *
        generalize (S.getD (j + 1) (0, 0)).2 = y2 at *
        generalize (S.getD j (0, 0)).1 = y3 at *
        obtain ⟨z1, z2, z3⟩ := hz
        have z1' : decide (y1 < 0) = false := decide_eq_false (by omega)
        have z2' : decide (y2 < y1) = false := decide_eq_false (by omega)
        have z3' : decide (y3 - 2 < y2) = false := decide_eq_false (by omega)
        have z5' : decide ((0 : Int) < (j : Int) + 1) = true := decide_eq_true (by omega)
        have e1 : IntKind.i64.wrap (j : Int) = (j : Int) := IntWalk.i64_in _ (by omega)
        have e2 : IntKind.i64.wrap (y3 - 2) = y3 - 2 := IntWalk.i64_in _ (by omega)
        have z4 : -9223372036854775808 ≤ y3 - 2 := by omega
        have hjl : (j : Int) < (S.length : Int) := by omega
        have E1 := Lib.hid e1
        have E2 := Lib.hid e2
        clear hbel hzj hnx z1 z2 e1 e2
        go_wp2_with fail
        have e1 := E1.out
        have e2 := E2.out
        go_quiet (fail)
        clear e1 e2
        go_wp2_with fail
        go_roundw
        case rel => exact ⟨j + 1 + 1, by go_num, by omega, ((HB.out.alloc hsz _).trans ((drewN_below _ _).mono (by simp; omega)))⟩
        case measure => simp [intOf]; omega
    · obtain rfl : k = S.length := by omega
      go_wp2_with fail
      go_ret
      exact ⟨rfl, hbel⟩
theorem bare_yes (w : World) : Calls Try.prog 25 #[.agg #[.int .i64 2, .int .i64 0, .slice none 0 0, .int .i64 0, .slice none 0 0, .int .i64 0]] w fun e w' => e = .returned (.bool true) ∧ Below w.heap.size w w' := by
  go_enter Try.func25, Try.ntmps25
  go_wp2_with fail
  go_ret
  exact ⟨rfl, below_alloc _ _⟩
set_option maxHeartbeats 2000000 in
theorem right_yes {w : World} {b off cap : Nat} {S : List Sp} (hw : WF S) (h0 : 0 < S.length) (hl : S.length ≤ 32) (hat : At w b off S) (hb : b < w.heap.size) : Calls Try.prog 16 #[.agg #[.int .i64 2, .int .i64 0, .slice (some ⟨b, off, none⟩) S.length cap, .int .i64 0, .slice none 0 0, .int .i64 0]] w fun e w' => e = .returned (.bool true) ∧ Below w.heap.size w w' := by
  have hs := fun o => rspans_yes (cap := cap) hw h0 hl (hat.below (below_alloc w o)) (by simp; omega)
  clear hat hw h0
  go_enter Try.func16, Try.ntmps16
  go_wp2_with (go_at_call 22; refine (hs _).mono ?_; rintro e w1 ⟨rfl, hb1⟩; obtain ⟨hc, hf⟩ : (∀ b o, b < w.heap.size + 1 → w1.cell? ⟨b, o, none⟩ = _) ∧ (∀ b o, b < w.heap.size + 1 → w1.frozen? ⟨b, o, none⟩ = _) := ⟨fun b o h => hb1.cell (p := ⟨b, o, none⟩) (by simpa using h), fun b o h => hb1.frozen (p := ⟨b, o, none⟩) (by simpa using h)⟩)
  have hb2 : Below w.heap.size w (w1.setCell ⟨w.heap.size, 2, none⟩ (.slice none 0 0)) := ((below_alloc w _).trans (hb1.mono (by simp))).setCell (Nat.le_refl _) _
  generalize w1.setCell ⟨w.heap.size, 2, none⟩ (.slice none 0 0) = w2 at *
  refine (bare_yes w2).mono ?_
  rintro e w3 ⟨rfl, hb3⟩
  clear hs hb1 hc hf
  go_wp2_with fail
  go_ret
  exact ⟨rfl, hb2.trans (hb3.mono hb2.size)⟩
theorem own_open {w : World} {base : Nat} {v : Value} {n : Nat} {S : List Sp} (h : w.ownsRow base 44 2 v n (sc S)) (h0 : 0 < S.length) : ∃ g cap, v = .slice (some ⟨g, 0, none⟩) S.length cap ∧ base ≤ g ∧ g < w.heap.size ∧ w.frozen? ⟨g, 0, none⟩ = false ∧ At w g 0 S := by
  have hn := (Rs.of_own h).2
  have hr := (Rs.of_own h).1
  rcases h.2 with ⟨rfl, h1⟩ | ⟨g, cap, cur, rfl, hg, hh, h1, h2, h3, h4⟩
  · omega
  · rcases hr.cases with ⟨rfl, _⟩ | ⟨b, off, c, e, _, _, _, _, h5⟩
    · simp at h0
    · cases e
      exact ⟨g, _, rfl, hg, blk_lt hh, by simp [World.frozen?, hh], h5⟩
set_option maxHeartbeats 4000000 in
theorem acks_some {w0 : World} {ao : Option Addr} {cap : Nat} {l : List Int} (hl : l.length ≤ 200) (cl : Came w0 ao l) :
    Calls Try.prog 4 #[.slice ao l.length cap] w0 fun e w' => e = .returned (.bool true) ∧ Below w0.heap.size w0 w' := by
  have h0 := set_new w0
  have hb0 := below_alloc w0 (.cells #[.slice none 0 0, .int .i64 0] 26)
  have hl' : (l.length : Int) ≤ 200 := by omega
  go_enter Try.func4, Try.ntmps4
  go_wp2_with fail
  go_loopw [4] (fun i wr => ∃ (k : Nat) (s : Set0), i = .int .i64 k ∧ k ≤ l.length ∧ Sn wr w0.heap.size s ∧ Below w0.heap.size w0 wr) (fun i _ => l.length - (intOf i).toNat)
  case atStart => exact ⟨0, _, rfl, by omega, h0, hb0⟩
  case round =>
    clear h0 hb0
    obtain ⟨k, s, rfl, hk, hS, hB⟩ := hrel
    have hk' : (k : Int) ≤ (l.length : Int) := by omega
    by_cases hlt : k < l.length
    · have hlt' : (k : Int) < (l.length : Int) := by omega
      rcases cl with e | ⟨b, off, rfl, hcell⟩
      · rw [e] at hlt; simp at hlt
      have hx := cells_keep (hcell k hlt) hB
      generalize l.getD k 0 = x at *
      have ha := add_any hS x
      have HB := Lib.hid hB
      clear hcell hS hB
      go_wp2_with fail
      refine ha.mono ?_
      rintro e w1 ⟨rfl, hS1, hA2⟩
      have HB1 := Lib.hid (hA2.below HB.out (Nat.le_refl _) HB.out.size)
      clear ha hA2 HB
      have hs1 := spans_any hS1
      generalize addS s x = t at *
      go_wp2_with fail
      refine hs1.mono ?_
      rintro e w2 ⟨v2, rfl, ho2, hb2⟩
      have hok := hS1.ok
      have HS1 := Lib.hid hS1
      clear hs1
      have hz1 := HB1.out.size
      by_cases he : t.1 = []
      · obtain ⟨bo, c2, rfl⟩ := (Rs.of_own ho2).1.out
        rw [he]
        have HS2 := Lib.hid (hS1.below hb2)
        have HB2 := Lib.hid (HB1.out.trans (hb2.mono hz1))
        clear he ho2 hb2 hS1 hok
        simp only [List.length_nil]
        go_wp2_with fail
        go_roundw
        case rel => exact ⟨k + 1, t, by go_num, by omega, HS2.out, HB2.out⟩
        case measure => simp [intOf]; omega
      · have h0 : 0 < t.1.length := List.length_pos_iff.2 he
        obtain ⟨g, c2, rfl, hg, hgl, hfz, hat⟩ := own_open ho2 h0
        have hr := right_yes (cap := c2) hok.1 h0 hok.2.1 hat hgl
        have h0' : (0 : Int) < (t.1.length : Int) := by omega
        have hln := hok.2.1
        have hx0 := (hat 0 h0).1
        simp only [Nat.zero_mul, Nat.add_zero] at hx0
        have HB2 := Lib.hid hb2
        have hwf := hok.1.at h0
        have HK := Lib.hid hok
        clear ho2 hb2 hS1 he hat hok
        go_wp2_with (go_at_call 16; refine hr.mono ?_; rintro e w3 ⟨rfl, hb3⟩; have hf3 : w3.frozen? ⟨g, 0, none⟩ = false := (hb3.frozen (p := ⟨g, 0, none⟩) hgl).trans hfz; have hc3 : w3.cell? ⟨g, 0, none⟩ = _ := (hb3.cell (p := ⟨g, 0, none⟩) hgl).trans hx0; have hb4 : Below w1.heap.size w1 (w3.setCell ⟨g, 0, none⟩ (.int .i64 (-7))) := (HB2.out.trans (hb3.mono HB2.out.size)).setCell hg _; have hS4 := HS1.out.below hb4; have hs4 := spans_any hS4; clear hr hb3 hS4)
        refine hs4.mono ?_
        rintro e w5 ⟨v5, rfl, ho5, hb5⟩
        obtain ⟨g5, c5, rfl, hg5, hgl5, hfz5, hat5⟩ := own_open ho5 h0
        have hx5 := (hat5 0 h0).1
        simp only [Nat.zero_mul, Nat.add_zero] at hx5
        have hne : ((t.1.getD 0 (0, 0)).1 == -7) = false := beq_eq_false_iff_ne.2 (by omega)
        have HS5 := Lib.hid ((HS1.out.below hb4).below hb5)
        have HB5 := Lib.hid ((HB1.out.trans (hb4.mono hz1)).trans (hb5.mono (Nat.le_trans hz1 hb4.size)))
        have hln0 : ((t.1.length : Int) == 0) = false := beq_eq_false_iff_ne.2 (by omega)
        clear hs4 ho5 hb5 hb4 hat5 hwf hx0 hc3
        generalize (t.1.getD 0 (0, 0)).1 = y at *
        go_wp2_with fail
        go_roundw
        case rel => exact ⟨k + 1, t, by go_num, by omega, HS5.out, HB5.out⟩
        case measure => simp [intOf]; omega
    · obtain rfl : k = l.length := by omega
      have hz := hB.size
      clear hS cl
      go_wp2_with (first
        | (go_at_call 7; refine (add_nil _ _).mono ?_; rintro e w' ⟨rfl, rfl⟩)
        | (go_at_call 13; refine (has_nil _ _).mono ?_; rintro e w' ⟨rfl, rfl⟩)
        | (go_at_call 10; refine (spans_nil _).mono ?_; rintro e w' ⟨rfl, rfl⟩)
        | (go_at_call 12; refine (floor_nil _).mono ?_; rintro e w' ⟨rfl, rfl⟩)
        | (go_at_call 15; refine (awake_any _).mono ?_; rintro e w6 ⟨rfl, hb6⟩))
      go_ret
      exact ⟨rfl, hB.trans (hb6.mono hz)⟩
theorem acks_long {w0 : World} {ao : Option Addr} {n cap : Nat} (h : 200 < n) : Calls Try.prog 4 #[.slice ao n cap] w0 fun e w' => e = .returned (.bool true) ∧ Below w0.heap.size w0 w' := by
  have h' : (200 : Int) < (n : Int) := by omega
  clear h
  go_enter Try.func4, Try.ntmps4
  go_wp2_with fail
  go_ret
  exact ⟨rfl, Below.refl _ _⟩
theorem acks_walk {w0 : World} {v : Value} {l : List Int} (hr : Rd .i64 w0 v l) : Calls Try.prog 4 #[v] w0 fun e w' => e = .returned (.bool true) ∧ Below w0.heap.size w0 w' := by
  obtain ⟨ao, cap, rfl, cl⟩ := came_of hr
  by_cases h : l.length ≤ 200
  · exact acks_some h cl
  · exact acks_long (by omega)
end Go.Proofs.Ytnfednhleedljaa
