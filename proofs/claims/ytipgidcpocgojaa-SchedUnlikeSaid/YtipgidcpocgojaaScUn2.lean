/- SchedUnlike's walk. -/
import Derived.Test.YtipgidcpocgojaaScUn
namespace Go.Proofs.Ytipgidcpocgojaa
open Go Go.RowKit

set_option maxRecDepth 20000 in
set_option maxHeartbeats 4000000 in
theorem sunlike_walk {w : World} {av bv : Value} {qa qb : List (Value × List Int)} (ha : Rl w av qa) (hb : Rl w bv qb) (hla : qa.length ≤ 10) (hlb : qb.length ≤ 10) :
    Calls Try.prog 5 #[av, bv] w fun e w' => e = .returned (.bool true) ∧ Below w.heap.size w w' := by
  obtain ⟨aa, ac, rfl, hac⟩ := ha.shape
  obtain ⟨ba, bc, rfl, hbc⟩ := hb.shape
  have t1 : decide ((10 : Int) < (qa.length : Int)) = false := decide_eq_false (by omega)
  have t2 : decide ((10 : Int) < (qb.length : Int)) = false := decide_eq_false (by omega)
  have HA := Lib.hid (And.intro ha.rd hac)
  have HB := Lib.hid (And.intro hb.rd hbc)
  have HL := Lib.hid (And.intro hla hlb)
  have t3 : ((qa.length : Int) == (qb.length : Int)) = alk qa qb 0 := by
    unfold alk msOf
    by_cases h : qa.length = qb.length
    · rw [h]; simp
    · have : ¬ (qa.length : Int) = (qb.length : Int) := by omega
      rw [beq_eq_false_iff_ne.2 this, decide_eq_false (by simp [h])]
  clear ha hb hac hbc hla hlb
  go_enter Try.func5, Try.ntmps5
  go_wp2_with fail
  refine (St.new w).mono ?_
  rintro e w1 ⟨tb, mb, rfl, s1⟩
  have c1 := s1.beginS (by simp)
  obtain ⟨p1, p2, p3⟩ := text_has good_nil ByteArray.empty
  have p4 := textN_len [] ByteArray.empty
  have p5 := p1.put
  go_wp2_with fail
  refine c1.mono ?_
  rintro e w2 ⟨rfl, s2⟩
  clear c1 s1
  generalize textN [] ByteArray.empty = T at *
  have c2 := s2.beginS (by simp only [List.length_nil] at p4; omega)
  rw [show textN T.2 ByteArray.empty = T from p5] at c2
  go_wp2_with fail
  refine c2.mono ?_
  rintro e w3 ⟨rfl, s3⟩
  have H3 := Lib.hid (show Trs w w3 tb mb T.2 1 T.1 [] from ⟨s3, p3, by simpa using p4, p1⟩)
  clear c2 s2 s3 p1 p2 p3 p4 p5
  go_wp2_with fail
  go_loopw [6, 8, 9] (fun xv al i wr => ∃ (j : Nat) (N : List Nd) (x : Int), xv = .int .i64 x ∧ al = .bool (alk qa qb j) ∧ i = .int .i64 j ∧ j ≤ qa.length ∧ Hid (Trs w wr tb mb N (1 + 3 * j) x (msOf qa j)) ∧ Hid (T.2 <+: N)) (fun _ _ i _ => qa.length - (intOf i).toNat)
  case atStart => exact ⟨0, T.2, T.1, rfl, rfl, rfl, Nat.zero_le _, H3, Lib.hid List.prefix_rfl⟩
  case round =>
    obtain ⟨j, N, x, rfl, rfl, rfl, hj, hT, hP⟩ := hrel
    by_cases hlt : j < qa.length
    · obtain ⟨q, hq⟩ : ∃ q, qa[j]? = some q := ⟨_, List.getElem?_eq_getElem hlt⟩
      obtain ⟨b, off, rfl, hc⟩ := HA.out.2 j q hq
      have hr := HA.out.1 q (List.mem_of_getElem? hq)
      have HQ := Lib.hid hq
      obtain ⟨v, zs⟩ := q
      simp only at hr hc
      obtain ⟨za, zc, rfl, _⟩ := hr
      have HR := Lib.hid (HA.out.1 _ (List.mem_of_getElem? hq))
      have hc1 : wr.cell? ⟨b, off + j, none⟩ = some (.slice za zs.length zc) := by rw [hT.out.st.bel.cell (cell_lt hc)]; exact hc
      have hi : (j : Int) < (qa.length : Int) := by omega
      have hi9 : (j : Int) < 10 := by have := HL.out; omega
      have HC := Lib.hid hc
      clear hc hq
      by_cases hz : 200 < zs.length
      · have hz' : decide ((200 : Int) < (zs.length : Int)) = true := decide_eq_true (by omega)
        have HBel := Lib.hid hT.out.st.bel
        clear hT hz
        go_wp2_with fail
        go_ret
        exact ⟨rfl, HBel.out⟩
      · have hz' : decide ((200 : Int) < (zs.length : Int)) = false := decide_eq_false (by omega)
        have c1 := hT.out.next HR.out (by simp only; omega) (by have := HL.out; omega)
        clear hz
        go_wp2_with fail
        refine c1.mono ?_
        rintro e w4 ⟨N', x', rfl, h4, hp4⟩
        have H4 := Lib.hid h4
        have HP4 := Lib.hid (hP.out.trans hp4)
        have hbel := h4.st.bel
        have d1 : w4.cell? ⟨b, off + j, none⟩ = some (.slice za zs.length zc) := by rw [hbel.cell (cell_lt HC.out)]; exact HC.out
        have cvA := fun n => conv_any ((HR.out.below hbel).below (below_drewN w4 n))
        clear c1 h4 hp4 hc1
        by_cases hal : alk qa qb j = true
        · obtain ⟨q', hq'⟩ : ∃ q', qb[j]? = some q' := by
            have hl : qa.length = qb.length := by unfold alk at hal; exact (of_decide_eq_true hal).1
            exact ⟨_, List.getElem?_eq_getElem (by omega)⟩
          have hlt2 := (List.getElem?_eq_some_iff.1 hq').1
          obtain ⟨b', off', rfl, hcb⟩ := HB.out.2 j q' hq'
          have hrb := HB.out.1 q' (List.mem_of_getElem? hq')
          have HAL := Lib.hid (alk_yes HQ.out hq' hal)
          obtain ⟨v', zs'⟩ := q'
          simp only at hrb hcb
          obtain ⟨za', zc', rfl, _⟩ := hrb
          have HRB := Lib.hid (HB.out.1 _ (List.mem_of_getElem? hq'))
          have d2 : w4.cell? ⟨b', off' + j, none⟩ = some (.slice za' zs'.length zc') := by rw [hbel.cell (cell_lt hcb)]; exact hcb
          have cvB := fun n => conv_any ((HRB.out.below hbel).below (below_drewN w4 n))
          have hi2 : (j : Int) < (qb.length : Int) := by omega
          clear hcb hq' hbel
          rw [hal]
          go_wp2_with fail
          go_quiet (fail)
          go_wp2_with fail
          go_roundw
          case rel =>
            have HT := (H4.out.st.keep (below_drewN w4 nq))
            refine ⟨j + 1, N', x', rfl, by rw [HAL.out], by have := HL.out; go_num, by omega, Lib.hid ⟨HT, H4.out.good, by have := H4.out.len; omega, ?_⟩, HP4⟩
            rw [msOf_succ HQ.out]; exact H4.out.tr
          case measure => have := HL.out; simp [intOf]; omega
        · rw [Bool.not_eq_true] at hal
          have HAL := Lib.hid (alk_no HQ.out hal)
          clear hbel
          rw [hal]
          go_wp2_with fail
          go_quiet (fail)
          go_wp2_with fail
          go_roundw
          case rel =>
            have HT := (H4.out.st.keep (below_drewN w4 nq))
            refine ⟨j + 1, N', x', rfl, by rw [HAL.out], by have := HL.out; go_num, by omega, Lib.hid ⟨HT, H4.out.good, by have := H4.out.len; omega, ?_⟩, HP4⟩
            rw [msOf_succ HQ.out]; exact H4.out.tr
          case measure => have := HL.out; simp [intOf]; omega
    · obtain rfl : j = qa.length := by omega
      have HX := Lib.hid (And.intro hT.out.tr hT.out.good)
      have hy : IsTr N T.1 (msOf qb 0) := IsTr.ext (show IsTr T.2 T.1 [] from H3.out.tr) hP.out
      have H0 := Lib.hid (show Trs w wr tb mb N (1 + 3 * qa.length) T.1 (msOf qb 0) from ⟨hT.out.st, hT.out.good, hT.out.len, hy⟩)
      clear hy hT
      rw [alk_end]
      clear t1 t2
      go_wp2_with fail
      go_loopw [7, 10] (fun yv i wr2 => ∃ (j : Nat) (N2 : List Nd) (y : Int), yv = .int .i64 y ∧ i = .int .i64 j ∧ j ≤ qb.length ∧ Hid (Trs w wr2 tb mb N2 (1 + 3 * qa.length + 3 * j) y (msOf qb j)) ∧ Hid (N <+: N2)) (fun _ i _ => qb.length - (intOf i).toNat)
      case atStart => exact ⟨0, N, T.1, rfl, rfl, Nat.zero_le _, H0, Lib.hid List.prefix_rfl⟩
      case round =>
        obtain ⟨j, N2, y, rfl, rfl, hj2, hT2, hP2⟩ := hrel
        by_cases hlt2 : j < qb.length
        · obtain ⟨q, hq⟩ : ∃ q, qb[j]? = some q := ⟨_, List.getElem?_eq_getElem hlt2⟩
          obtain ⟨b, off, rfl, hc⟩ := HB.out.2 j q hq
          have hr := HB.out.1 q (List.mem_of_getElem? hq)
          have HQ := Lib.hid hq
          obtain ⟨v, zs⟩ := q
          simp only at hr hc
          obtain ⟨za, zc, rfl, _⟩ := hr
          have HR := Lib.hid (HB.out.1 _ (List.mem_of_getElem? hq))
          have hc1 : wr.cell? ⟨b, off + j, none⟩ = some (.slice za zs.length zc) := by rw [hT2.out.st.bel.cell (cell_lt hc)]; exact hc
          have hi : (j : Int) < (qb.length : Int) := by omega
          have hi9 : (j : Int) < 10 := by have := HL.out; omega
          clear hc hq
          by_cases hz : 200 < zs.length
          · have hz' : decide ((200 : Int) < (zs.length : Int)) = true := decide_eq_true (by omega)
            have HBel := Lib.hid hT2.out.st.bel
            clear hT2 hz
            go_wp2_with fail
            go_ret
            exact ⟨rfl, HBel.out⟩
          · have hz' : decide ((200 : Int) < (zs.length : Int)) = false := decide_eq_false (by omega)
            have c1 := hT2.out.next HR.out (by simp only; omega) (by have := HL.out; omega)
            clear hz
            go_wp2_with fail
            refine c1.mono ?_
            rintro e w4 ⟨N', x', rfl, h4, hp4⟩
            have H4 := Lib.hid h4
            have HP4 := Lib.hid (hP2.out.trans hp4)
            clear c1 h4 hp4 hc1
            go_wp2_with fail
            go_roundw
            case rel =>
              refine ⟨j + 1, N', x', rfl, by have := HL.out; go_num, by omega, Lib.hid ⟨H4.out.st, H4.out.good, by have := H4.out.len; omega, ?_⟩, HP4⟩
              rw [msOf_succ HQ.out]; exact H4.out.tr
            case measure => have := HL.out; simp [intOf]; omega
        · obtain rfl : j = qb.length := by omega
          have hm := (hT2.out.st.secret (by have := hT2.out.len; have := HL.out; omega) (z := (N2.length : Int) + 1) rfl)
          have hpS : N2 <+: N2 ++ [secretNd] := List.prefix_append _ _
          obtain ⟨M, hM⟩ : ∃ M, M = N2 ++ [secretNd] := ⟨_, rfl⟩
          rw [← hM] at hm hpS
          have hgd : GoodN M := by rw [hM]; exact good_secret hT2.out.good
          have hml : M.length = N2.length + 1 := by rw [hM]; simp
          have hmn : (1 : Int) ≤ (N2.length : Int) + 1 ∧ (N2.length : Int) + 1 ≤ (M.length : Int) := by omega
          obtain ⟨m, hmm⟩ : ∃ m : Int, m = (N2.length : Int) + 1 := ⟨_, rfl⟩
          rw [← hmm] at hm hmn
          obtain ⟨C, eC⟩ : ∃ C, C = atN M lClientApp m x := ⟨_, rfl⟩
          obtain ⟨S, eS⟩ : ∃ S, S = atN C.2 lServerApp m x := ⟨_, rfl⟩
          obtain ⟨D, eD⟩ : ∃ D, D = atN S.2 lClientApp m y := ⟨_, rfl⟩
          obtain ⟨R, eR⟩ : ∃ R, R = atN D.2 lServerApp m y := ⟨_, rfl⟩
          obtain ⟨F, eF⟩ : ∃ F, F = macN R.2 lFinished C.1 x := ⟨_, rfl⟩
          obtain ⟨G, eG⟩ : ∃ G, G = macN F.2 lFinished D.1 y := ⟨_, rfl⟩
          obtain ⟨k1, k2, k3, k4, k5⟩ := un_end hgd (HX.out.1.ext (hP2.out.trans hpS)) (hT2.out.tr.ext hpS) hmn eC eS eD eR eF eG
          have nM : M.length ≤ 100 := by have := hT2.out.len; have := HL.out; omega
          have nC := atN_len M lClientApp m x
          have nS := atN_len C.2 lServerApp m x
          have nD := atN_len S.2 lClientApp m y
          have nR := atN_len D.2 lServerApp m y
          have nF := macN_len R.2 lFinished C.1 x
          rw [← eC] at nC; rw [← eS] at nS; rw [← eD] at nD; rw [← eR] at nR; rw [← eF] at nF
          have HN := Lib.hid (show M.length ≤ 100 ∧ S.2.length ≤ 200 ∧ R.2.length ≤ 300 ∧ F.2.length ≤ 400 by omega)
          have HE := Lib.hid (And.intro eC (And.intro eS (And.intro eD (And.intro eR (And.intro eF eG)))))
          have q1 : ((x == y) == decide (msOf qa qa.length = msOf qb qb.length)) = true := by rw [k1]; simp
          have q2 : ((C.1 == D.1) == decide (msOf qa qa.length = msOf qb qb.length)) = true := by rw [k2]; simp
          have q3 : ((S.1 == R.1) == decide (msOf qa qa.length = msOf qb qb.length)) = true := by rw [k3]; simp
          have q5 : ((F.1 == G.1) == decide (msOf qa qa.length = msOf qb qb.length)) = true := by rw [k5]; simp
          clear k1 k2 k3 k5 nM nC nS nD nR nF eC eS eD eR eF eG hgd hml hmn hmm hM hpS hT2 hP2 hlt2 hj2 hlt hj
          generalize decide (msOf qa qa.length = msOf qb qb.length) = al at *
          go_wp2_with fail
          refine hm.mono ?_
          rintro e w5 ⟨rfl, s5⟩
          have c5 := s5.mainTrafficS m x (by have := HN.out; omega)
          rw [← HE.out.1, ← HE.out.2.1] at c5
          clear s5 hm
          go_wp2_with fail
          refine c5.mono ?_
          rintro e w6 ⟨rfl, s6⟩
          have c6 := s6.mainTrafficS m y (by have := HN.out; omega)
          rw [← HE.out.2.2.1, ← HE.out.2.2.2.1] at c6
          clear s6 c5
          go_wp2_with fail
          refine c6.mono ?_
          rintro e w7 ⟨rfl, s7⟩
          have c7 := s7.finishedS C.1 x (by have := HN.out; omega)
          rw [← HE.out.2.2.2.2.1] at c7
          clear s7 c6
          go_wp2_with fail
          refine c7.mono ?_
          rintro e w8 ⟨rfl, s8⟩
          have c8 := s8.finishedS D.1 y (by have := HN.out; omega)
          rw [← HE.out.2.2.2.2.2] at c8
          clear s8 c7
          go_wp2_with fail
          refine c8.mono ?_
          rintro e w9 ⟨rfl, s9⟩
          have HBel := Lib.hid s9.bel
          clear s9 c8
          go_wp2_with fail
          refine (awake15 w9).mono ?_
          rintro e w10 ⟨rfl, b10⟩
          go_wp2_with fail
          go_ret
          exact ⟨rfl, HBel.out.trans (b10.mono HBel.out.size)⟩
set_option maxRecDepth 20000 in
theorem sunlike_any {w : World} {av bv : Value} {qa qb : List (Value × List Int)} (ha : Rl w av qa) (hb : Rl w bv qb) :
    Calls Try.prog 5 #[av, bv] w fun e w' => e = .returned (.bool true) ∧ Below w.heap.size w w' := by
  by_cases h1 : qa.length ≤ 10
  · by_cases h2 : qb.length ≤ 10
    · exact sunlike_walk ha hb h1 h2
    · obtain ⟨aa, ac, rfl, _⟩ := ha.shape
      obtain ⟨ba, bc, rfl, _⟩ := hb.shape
      have t1 : decide ((10 : Int) < (qa.length : Int)) = false := decide_eq_false (by omega)
      have t2 : decide ((10 : Int) < (qb.length : Int)) = true := decide_eq_true (by omega)
      clear ha hb h1 h2
      go_enter Try.func5, Try.ntmps5
      go_wp2_with fail
      go_ret
      exact ⟨rfl, Below.refl _ _⟩
  · obtain ⟨aa, ac, rfl, _⟩ := ha.shape
    obtain ⟨ba, bc, rfl, _⟩ := hb.shape
    have t1 : decide ((10 : Int) < (qa.length : Int)) = true := decide_eq_true (by omega)
    clear ha hb h1
    go_enter Try.func5, Try.ntmps5
    go_wp2_with fail
    go_ret
    exact ⟨rfl, Below.refl _ _⟩
#print axioms sunlike_any
end Go.Proofs.Ytipgidcpocgojaa
