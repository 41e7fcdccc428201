/- IdealDerives' walk: keys of different secrets, labels, contexts are different; the same ones are the same. -/
import Derived.Test.YthgegjdmmjjffaaIdOpen
import Derived.Test.YthgegjdmmjjffaaIdBytes
namespace Go.Proofs.Ythgegjdmmjjffaa
open Go Go.RowKit

theorem two_le {N : List Nd} (h : [secretNd, secretNd] <+: N) {s : Int} (hs : s = 1 ∨ s = 2) : 1 ≤ s ∧ s ≤ (N.length : Int) := by
  have := h.length_le
  simp at this
  omega
theorem keys {N : List Nd} (hN : GoodN N) (hp : [secretNd, secretNd] <+: N) (a b : ByteArray)
    {D1 D2 D3 D4 T D5 : Int × List Nd} (e1 : D1 = deriveN N 1 a 0) (e2 : D2 = deriveN D1.2 1 b 0) (e3 : D3 = deriveN D2.2 2 a 0) (e4 : D4 = deriveN D3.2 1 a 2) (e5 : T = textN D4.2 ByteArray.empty) (e6 : D5 = deriveN T.2 1 a T.1) :
    (D1.1 = D2.1 ↔ a = b) ∧ D1.1 ≠ D3.1 ∧ D1.1 ≠ D4.1 ∧ D1.1 ≠ 0 ∧ D5.1 = D1.1 := by
  subst e1
  obtain ⟨l1, c1, g1, g2, g3, p1, q1⟩ := derive0_has hN (two_le hp (.inl rfl)) a
  generalize deriveN N 1 a 0 = D1 at *
  have hp1 := hp.trans p1
  subst e2
  obtain ⟨l2, c2, k1, k2, k3, p2, q2⟩ := derive0_has q1 (two_le hp1 (.inl rfl)) b
  generalize deriveN D1.2 1 b 0 = D2 at *
  have hp2 := hp1.trans p2
  subst e3
  obtain ⟨l3, c3, m1, m2, m3, p3, q3⟩ := derive0_has q2 (two_le hp2 (.inr rfl)) a
  generalize deriveN D2.2 2 a 0 = D3 at *
  have hp3 := hp2.trans p3
  subst e4
  obtain ⟨l4, n1, n2, p4, q4⟩ := derive_has q3 (two_le hp3 (.inl rfl)) a (c := 2) (two_le hp3 (.inr rfl))
  generalize deriveN D3.2 1 a 2 = D4 at *
  have hp4 := hp3.trans p4
  subst e5
  obtain ⟨t1, p5, q5⟩ := text_has q4 ByteArray.empty
  generalize textN D4.2 ByteArray.empty = T at *
  have hp5 := hp4.trans p5
  subst e6
  obtain ⟨l6, r1, r2, p6, q6⟩ := derive_has q5 (two_le hp5 (.inl rfl)) a (c := T.1) ⟨t1.pos, t1.le⟩
  generalize deriveN T.2 1 a T.1 = D5 at *
  -- all in the last table
  have x12 := p2
  have x13 := x12.trans p3
  have x14 := x13.trans p4
  have x15 := x14.trans p5
  have x16 := x15.trans p6
  have X := g3.ext x16
  have Xl := g2.ext x16
  have Xc := g1.ext x16
  have x26 := ((p3.trans p4).trans p5).trans p6
  have Y := k3.ext x26
  have Yl := k2.ext x26
  have Yc := k1.ext x26
  have Z := m3.ext ((p4.trans p5).trans p6)
  have U := n2.ext (p5.trans p6)
  have Tc := t1.ext p6
  refine ⟨⟨fun h => ?_, fun h => ?_⟩, fun h => ?_, fun h => ?_, ?_, ?_⟩
  · rw [h] at X
    have := X.node Y
    simp only [Prod.mk.injEq, List.cons.injEq, true_and, and_true] at this
    rw [this.1] at Xl
    have := Xl.node Yl
    simp only [Prod.mk.injEq, true_and, and_true] at this
    exact this
  · subst h
    have hl := Xl.num Yl
    have hc := Xc.num Yc
    rw [hl, hc] at X
    exact X.num Y
  · rw [h] at X
    have := X.node Z
    simp at this
  · rw [h] at X
    have := X.node U
    simp only [Prod.mk.injEq, List.cons.injEq, true_and, and_true] at this
    -- the context 2 is a secret, that of the other key a text
    have h2 := this.2
    have hk := Xc.kind
    rw [h2] at hk
    have hs : kindN D5.2 2 = 2 := by
      obtain ⟨r, hr⟩ := hp5.trans p6
      rw [← hr]
      rfl
    rw [hs] at hk
    exact absurd hk (by decide)
  · have := g3.pos; omega
  · have hl := Xl.num r1
    have hc := Xc.num Tc
    rw [hl, hc] at X
    exact r2.num X

theorem good0 : GoodN [secretNd, secretNd] := fun m hm p hp => by
  simp only [List.mem_cons, List.not_mem_nil, or_false, or_self] at hm
  subst hm; cases hp

set_option maxRecDepth 20000 in
set_option maxHeartbeats 1600000 in
theorem derives_main (a b : ByteArray) (w : World) (l0 : a.size ≤ 50) (l1 : b.size ≤ 50) :
    Calls Try.prog 17 #[.string a, .string b] w fun e w' => e = .returned (.bool true) ∧ Below w.heap.size w w' := by
  have t0 : decide ((50 : Int) < (a.size : Int)) = false := decide_eq_false (by omega)
  have t1 : decide ((50 : Int) < (b.size : Int)) = false := decide_eq_false (by omega)
  obtain ⟨D1, e1⟩ : ∃ D, D = deriveN [secretNd, secretNd] 1 a 0 := ⟨_, rfl⟩
  obtain ⟨D2, e2⟩ : ∃ D, D = deriveN D1.2 1 b 0 := ⟨_, rfl⟩
  obtain ⟨D3, e3⟩ : ∃ D, D = deriveN D2.2 2 a 0 := ⟨_, rfl⟩
  obtain ⟨D4, e4⟩ : ∃ D, D = deriveN D3.2 1 a 2 := ⟨_, rfl⟩
  obtain ⟨T, e5⟩ : ∃ D, D = textN D4.2 ByteArray.empty := ⟨_, rfl⟩
  obtain ⟨D5, e6⟩ : ∃ D, D = deriveN T.2 1 a T.1 := ⟨_, rfl⟩
  obtain ⟨k1, k2, k3, k4, k5⟩ := keys good0 List.prefix_rfl a b e1 e2 e3 e4 e5 e6
  have n1 : D1.2.length ≤ 5 := by rw [e1]; exact derive_len _ _ _ _
  have n2 : D2.2.length ≤ 8 := by have := derive_len D1.2 1 b 0; rw [← e2] at this; omega
  have n3 : D3.2.length ≤ 11 := by have := derive_len D2.2 2 a 0; rw [← e3] at this; omega
  have n4 : D4.2.length ≤ 14 := by have := derive_len D3.2 1 a 2; rw [← e4] at this; omega
  have n5 : T.2.length ≤ 15 := by have := (putN_len D4.2 (1, ByteArray.empty, [])).2; rw [e5]; unfold textN; omega
  have HN : Hid (D1.2.length ≤ 5 ∧ D2.2.length ≤ 8 ∧ D3.2.length ≤ 11 ∧ D4.2.length ≤ 14 ∧ T.2.length ≤ 15) := Lib.hid ⟨n1, n2, n3, n4, n5⟩
  have HL : Hid (a.size ≤ 50 ∧ b.size ≤ 50) := Lib.hid ⟨l0, l1⟩
  have E1 := Lib.hid e1
  have E2 := Lib.hid e2
  have E3 := Lib.hid e3
  have E4 := Lib.hid e4
  have E5 := Lib.hid e5
  have E6 := Lib.hid e6
  have q2 : (D1.1 != D3.1) = true := bne_iff_ne.2 k2
  have q3 : (D1.1 != D4.1) = true := bne_iff_ne.2 k3
  have q4 : (D1.1 != 0) = true := bne_iff_ne.2 k4
  have q5 : (D5.1 == D1.1) = true := by rw [k5]; simp
  have q1 : ((D1.1 == D2.1) == (a.toList == b.toList)) = true := by
    by_cases h : a = b
    · have h2 := k1.2 h
      rw [h, h2]; simp
    · have h2 : ¬ D1.1 = D2.1 := fun e => h (k1.1 e)
      have h3 := str_ne h
      rw [Bool.not_eq_true'] at h3
      rw [h3, beq_eq_false_iff_ne.2 h2]; rfl
  clear k1 k2 k3 k4 k5 n1 n2 n3 n4 n5 l0 l1 e1 e2 e3 e4 e5 e6
  go_enter Try.func17, Try.ntmps17
  go_wp2_with fail
  refine (St.new w).mono ?_
  rintro e w1 ⟨tb, mb, rfl, s1⟩
  go_wp2_with fail
  refine (s1.secret (by simp) (z := 1) rfl).mono ?_
  rintro e w2 ⟨rfl, s2⟩
  clear s1
  go_wp2_with fail
  refine (s2.secret (by simp) (z := 2) rfl).mono ?_
  rintro e w3 ⟨rfl, s3⟩
  clear s2
  have s3' : St w w3 tb mb [secretNd, secretNd] [] := s3
  clear s3
  have c1 := s3'.derive 1 0 a (by have := HL.out; omega) (by simp)
  rw [← E1.out] at c1
  clear s3'
  go_wp2_with fail
  refine c1.mono ?_
  rintro e w4 ⟨rfl, s4⟩
  have c2 := s4.derive 1 0 b (by have := HL.out; omega) (by have := HN.out; omega)
  rw [← E2.out] at c2
  clear c1 s4
  go_wp2_with fail
  refine c2.mono ?_
  rintro e w5 ⟨rfl, s5⟩
  have c3 := s5.derive 2 0 a (by have := HL.out; omega) (by have := HN.out; omega)
  rw [← E3.out] at c3
  clear c2 s5
  go_wp2_with fail
  refine c3.mono ?_
  rintro e w6 ⟨rfl, s6⟩
  have c4 := s6.derive 1 2 a (by have := HL.out; omega) (by have := HN.out; omega)
  rw [← E4.out] at c4
  clear c3 s6
  go_wp2_with fail
  refine c4.mono ?_
  rintro e w7 ⟨rfl, s7⟩
  have c5 := s7.text (Rd.nil .u8 w7) (Nat.zero_le _) (by have := HN.out; omega)
  rw [empty_bstr, ← E5.out] at c5
  clear c4 s7
  go_wp2_with fail
  refine c5.mono ?_
  rintro e w8 ⟨rfl, s8⟩
  have c6 := s8.derive 1 T.1 a (by have := HL.out; omega) (by have := HN.out; omega)
  rw [← E6.out] at c6
  clear c5 s8
  go_wp2_with fail
  refine c6.mono ?_
  rintro e w9 ⟨rfl, s9⟩
  have HB := Lib.hid s9.bel
  clear c6 s9
  go_wp2_with fail
  refine (iawake_any w9).mono ?_
  rintro e w10 ⟨rfl, b10⟩
  go_wp2_with fail
  go_ret
  exact ⟨rfl, HB.out.trans (b10.mono HB.out.size)⟩
set_option maxRecDepth 20000 in
theorem derives_walk (a b : ByteArray) (w : World) :
    Calls Try.prog 17 #[.string a, .string b] w fun e w' => e = .returned (.bool true) ∧ Below w.heap.size w w' := by
  by_cases h : a.size ≤ 50 ∧ b.size ≤ 50
  · exact derives_main a b w h.1 h.2
  · by_cases h0 : 50 < a.size
    · have t0 : decide ((50 : Int) < (a.size : Int)) = true := decide_eq_true (by omega)
      clear h h0
      go_enter Try.func17, Try.ntmps17
      go_wp2_with fail
      go_ret
      exact ⟨rfl, Below.refl _ _⟩
    · have t0 : decide ((50 : Int) < (a.size : Int)) = false := decide_eq_false (by omega)
      have t1 : decide ((50 : Int) < (b.size : Int)) = true := decide_eq_true (by omega)
      clear h h0
      go_enter Try.func17, Try.ntmps17
      go_wp2_with fail
      go_ret
      exact ⟨rfl, Below.refl _ _⟩
#print axioms keys
#print axioms derives_walk
end Go.Proofs.Ythgegjdmmjjffaa
