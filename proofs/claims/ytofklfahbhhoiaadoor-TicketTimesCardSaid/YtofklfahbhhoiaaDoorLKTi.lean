/- TicketTimes, for every input. -/
import Derived.Test.YtofklfahbhhoiaaDoorKRdm
namespace Go.Proofs.YtofklfahbhhoiaaDoor.TicketTimes
open Go Go.RowKit

set_option maxRecDepth 20000 in
set_option maxHeartbeats 4000000 in
theorem walk {w : World} {t l now : Int} (ht : 0 ≤ t ∧ t ≤ 65535) (hl : 0 ≤ l ∧ l ≤ 65535) (hn : 0 ≤ now ∧ now ≤ 65535) (hT : Tab w) (hw : 1 < w.heap.size) :
    Calls Tryd.prog 10 #[.int .u16 t, .int .u16 l, .int .u16 now] w fun e w' => e = .returned (.bool true) ∧ Below w.heap.size w w' := by
  have H := Lib.hid (And.intro hT (And.intro hw (And.intro ht (And.intro hl hn))))
  have hok : tickOk 1 t l = true := by
    obtain ⟨t0, t1⟩ := ht
    obtain ⟨l0, l1⟩ := hl
    unfold tickOk
    have e1 : (sz t == 0) = false := by
      rw [beq_eq_false_iff_ne]
      unfold sz
      split
      · omega
      · split <;> (try split) <;> omega
    have e2 : (sz l == 0) = false := by
      rw [beq_eq_false_iff_ne]
      unfold sz
      split
      · omega
      · split <;> (try split) <;> omega
    rw [e1, e2]; rfl
  have HO := Lib.hid hok
  obtain ⟨t0, t1⟩ := ht
  obtain ⟨l0, l1⟩ := hl
  obtain ⟨n0, n1⟩ := hn
  clear hT hw hok
  go_enter Tryd.func10, Tryd.ntmps10
  go_wp2_with fail
  refine (T.St.new w).mono ?_
  rintro e w1 ⟨tb, mb, rfl, s1⟩
  have g1 : T.Gd w w1 tb mb [] 0 [] := ⟨T.Sg.of_st s1, T.good_nil, Nat.le_refl _⟩
  have c1 := g1.secretG (by omega)
  clear s1 g1
  go_wp2_with fail
  refine c1.mono ?_
  rintro e w2 ⟨N2, k, rfl, g2, -, f2, -⟩
  have c3 := issue_yes (v := 1) (t := t) (l := l) g2 HO.out f2.2 f2.2 H.out.1 H.out.2.1 (by omega)
  clear c1 g2 f2
  go_wp2_with fail
  refine c3.mono ?_
  rintro e w4 ⟨N4, c, rfl, g4, -, f4⟩
  have hc : (c != 0) = true := by rw [bne_iff_ne]; exact f4.ne
  have c4 := redeem_any g4 (r := some (1, t, l, k)) (fun w1 g => klook_tick g f4 HO.out) (now := now) (by omega) (fun x hx => by cases hx; simp only; omega)
  by_cases q1 : now < t
  · rw [show rdm (some (1, t, l, k)) now = (9, none) by simp [rdm, q1]] at c4
    have q1' : ¬ t ≤ now := by omega
    clear c3 g4 f4
    go_wp2_with fail
    refine c4.mono ?_
    rintro e w5 ⟨rfl, g5, -⟩
    have b5 := g5.st.bel
    have B5 := Lib.hid (fun o => b5.trans ((below_alloc w5 o).mono b5.size))
    clear c4 g5 b5
    go_wp2_with fail
    refine (awake17_any (H.out.1.below (B5.out _)) (Nat.lt_of_lt_of_le H.out.2.1 (B5.out _).size)).mono ?_
    rintro e w6 ⟨rfl, b6⟩
    have B6 := Lib.hid ((B5.out _).trans (b6.mono (B5.out _).size))
    clear b6
    go_wp2_with fail
    go_ret
    exact ⟨rfl, B6.out⟩
  · by_cases q3 : l < now - t
    · rw [show rdm (some (1, t, l, k)) now = (9, none) by simp [rdm, q3]] at c4
      have q3' : decide (now ≤ t + l) = false := decide_eq_false (by omega)
      clear c3 g4 f4
      go_wp2_with fail
      refine c4.mono ?_
      rintro e w5 ⟨rfl, g5, -⟩
      have b5 := g5.st.bel
      have B5 := Lib.hid (fun o => b5.trans ((below_alloc w5 o).mono b5.size))
      clear c4 g5 b5
      go_wp2_with fail
      refine (awake17_any (H.out.1.below (B5.out _)) (Nat.lt_of_lt_of_le H.out.2.1 (B5.out _).size)).mono ?_
      rintro e w6 ⟨rfl, b6⟩
      have B6 := Lib.hid ((B5.out _).trans (b6.mono (B5.out _).size))
      clear b6
      go_wp2_with fail
      go_ret
      exact ⟨rfl, B6.out⟩
    · rw [show rdm (some (1, t, l, k)) now = (0, some (1, t, l, k)) by unfold rdm; simp only; rw [if_neg (by omega)]] at c4
      have q3' : decide (now ≤ t + l) = true := decide_eq_true (by omega)
      clear c3 g4 f4
      go_wp2_with fail
      refine c4.mono ?_
      rintro e w5 ⟨rfl, g5, -⟩
      have b5 := g5.st.bel
      have B5 := Lib.hid (fun o => b5.trans ((below_alloc w5 o).mono b5.size))
      clear c4 g5 b5
      go_wp2_with fail
      refine (awake17_any (H.out.1.below (B5.out _)) (Nat.lt_of_lt_of_le H.out.2.1 (B5.out _).size)).mono ?_
      rintro e w6 ⟨rfl, b6⟩
      have B6 := Lib.hid ((B5.out _).trans (b6.mono (B5.out _).size))
      clear b6
      go_wp2_with fail
      go_ret
      exact ⟨rfl, B6.out⟩
#print axioms walk
end Go.Proofs.YtofklfahbhhoiaaDoor.TicketTimes
