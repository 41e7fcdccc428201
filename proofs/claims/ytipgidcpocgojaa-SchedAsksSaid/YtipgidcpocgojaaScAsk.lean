/- SchedAsks' walk. -/
import Derived.Test.YtipgidcpocgojaaScIs
import Derived.Test.YtipgidcpocgojaaScUn
namespace Go.Proofs.Ytipgidcpocgojaa
open Go Go.RowKit

theorem St.size {w0 w : World} {tb mb : Nat} {N : List Nd} {rs : List (Value × List Int)} (h : St w0 w tb mb N rs) : Calls Try.prog 31 #[.pointer (some ⟨tb, 0, none⟩)] w fun e w' => e = .returned (.int .i64 (N.length : Int)) ∧ w = w' := by
  obtain ⟨nv, ht⟩ := h.tab
  exact Tab.size ht.at

set_option maxRecDepth 20000 in
set_option maxHeartbeats 4000000 in
theorem sasks_walk {w : World} {av : Value} {qa : List (Value × List Int)} (gz : Int) (o : Bool) (ha : Rl w av qa) (hla : qa.length ≤ 10) (hg : 0 ≤ gz ∧ gz ≤ 255) :
    Calls Try.prog 8 #[av, .int .u8 gz, .bool o] w fun e w' => e = .returned (.bool true) ∧ Below w.heap.size w w' := by
  obtain ⟨aa, ac, rfl, hac⟩ := ha.shape
  have t1 : decide ((10 : Int) < (qa.length : Int)) = false := decide_eq_false (by omega)
  have HA := Lib.hid (And.intro ha.rd hac)
  have HL := Lib.hid hla
  have HG := Lib.hid hg
  clear ha hac hla hg
  go_enter Try.func8, Try.ntmps8
  go_wp2_with fail
  refine (St.new w).mono ?_
  rintro e w1 ⟨tb, mb, rfl, s1⟩
  have c1 := s1.beginS (by simp)
  obtain ⟨p1, p2, p3⟩ := text_has good_nil ByteArray.empty
  have p4 := textN_len [] ByteArray.empty
  go_wp2_with fail
  refine c1.mono ?_
  rintro e w2 ⟨rfl, s2⟩
  clear c1 s1
  generalize textN [] ByteArray.empty = T at *
  have H3 := Lib.hid (show Trs w w2 tb mb T.2 1 T.1 [] from ⟨s2, p3, by simpa using p4, p1⟩)
  clear s2 p1 p2 p3 p4
  go_wp2_with fail
  go_loopw [8, 9] (fun xv i wr => ∃ (j : Nat) (N : List Nd) (x : Int), xv = .int .i64 x ∧ i = .int .i64 j ∧ j ≤ qa.length ∧ Hid (Trs w wr tb mb N (1 + 3 * j) x (msOf qa j))) (fun _ i _ => qa.length - (intOf i).toNat)
  case atStart => exact ⟨0, T.2, T.1, rfl, rfl, Nat.zero_le _, H3⟩
  case round =>
    obtain ⟨j, N, x, rfl, rfl, hj, hT⟩ := hrel
    by_cases hlt : j < qa.length
    · obtain ⟨q, hq⟩ : ∃ q, qa[j]? = some q := ⟨_, List.getElem?_eq_getElem hlt⟩
      obtain ⟨b, off, rfl, hc⟩ := HA.out.2 j q hq
      have hr := HA.out.1 q (List.mem_of_getElem? hq)
      have HQ := Lib.hid hq
      obtain ⟨v, zs⟩ := q
      simp only at hr hc
      obtain ⟨za, zc, rfl, _⟩ := hr
      have HR := Lib.hid (HA.out.1 _ (List.mem_of_getElem? hq))
      have hc1 : wr.cell? ⟨b, off + j, none⟩ = some (.slice za zs.length zc) := by rw [hT.out.st.bel.cell (cell_lt hc)]; exact hc
      have hi : (j : Int) < (qa.length : Int) := by omega
      have hi9 : (j : Int) < 10 := by have := HL.out; omega
      clear hc hq
      by_cases hz : 200 < zs.length
      · have hz' : decide ((200 : Int) < (zs.length : Int)) = true := decide_eq_true (by omega)
        have HBel := Lib.hid hT.out.st.bel
        clear hT hz
        go_wp2_with fail
        go_ret
        exact ⟨rfl, HBel.out⟩
      · have hz' : decide ((200 : Int) < (zs.length : Int)) = false := decide_eq_false (by omega)
        have c1 := hT.out.next HR.out (by simp only; omega) (by have := HL.out; omega)
        clear hz
        go_wp2_with fail
        refine c1.mono ?_
        rintro e w4 ⟨N', x', rfl, h4, hp4⟩
        have H4 := Lib.hid h4
        clear c1 h4 hp4 hc1
        go_wp2_with fail
        go_roundw
        case rel =>
          refine ⟨j + 1, N', x', rfl, by go_num, by omega, Lib.hid ⟨H4.out.st, H4.out.good, by have := H4.out.len; omega, ?_⟩⟩
          rw [msOf_succ HQ.out]; exact H4.out.tr
        case measure => have := HL.out; simp [intOf]; omega
    · obtain rfl : j = qa.length := by omega
      have n0 : N.length ≤ 31 := by have := hT.out.len; have := HL.out; omega
      obtain ⟨a, hae⟩ : ∃ a : Int, a = (N.length : Int) + 1 := ⟨_, rfl⟩
      obtain ⟨b, hbe⟩ : ∃ b : Int, b = (N.length : Int) + 2 := ⟨_, rfl⟩
      have hm := hT.out.st.secret (by omega) (z := a) hae.symm
      obtain ⟨M, hM⟩ : ∃ M, M = N ++ [secretNd] ++ [secretNd] := ⟨_, rfl⟩
      have hpM : N <+: M := by rw [hM]; exact (List.prefix_append _ _).trans (List.prefix_append _ _)
      have hgd : GoodN M := by rw [hM]; exact good_secret (good_secret hT.out.good)
      have hml : M.length = N.length + 2 := by rw [hM]; simp
      have hx := hT.out.tr.ext hpM
      generalize msOf qa qa.length = ms at *
      obtain ⟨F, eF⟩ : ∃ F, F = macN M lFinished a x := ⟨_, rfl⟩
      obtain ⟨G, eG⟩ : ∃ G, G = macN F.2 lBinder a x := ⟨_, rfl⟩
      obtain ⟨X, eX⟩ : ∃ X, X = nextN G.2 x (bstr []) := ⟨_, rfl⟩
      obtain ⟨f1, f2, f3⟩ := mac_has hgd (s := a) (x := x) (by omega) hx.rng lFinished
      have nF := macN_len M lFinished a x
      rw [← eF] at f1 f2 f3 nF
      have lF := f2.length_le
      obtain ⟨g1, g2, g3⟩ := mac_has f3 (s := a) (x := x) (by omega) (hx.ext f2).rng lBinder
      have nG := macN_len F.2 lBinder a x
      rw [← eG] at g1 g2 g3 nG
      obtain ⟨x1, x2, x3⟩ := next_has g3 (hx.ext (f2.trans g2)) (bstr [])
      have nX := nextN_len G.2 x (bstr [])
      rw [← eX] at x1 x2 x3 nX
      have hne : ¬ x = X.1 := fun e => by
        have := ((hx.ext (f2.trans (g2.trans x2))).iff x1).1 e
        have := congrArg List.length this
        simp at this
      have HF := Lib.hid (And.intro (f1.ext g2) (And.intro (f1.ext (g2.trans x2)) (And.intro g1 (g1.ext x2))))
      have HE := Lib.hid (And.intro eF (And.intro eG (And.intro eX hne)))
      have HN := Lib.hid (show N.length ≤ 31 ∧ M.length = N.length + 2 ∧ F.2.length ≤ 40 ∧ G.2.length ≤ 50 ∧ a = (N.length : Int) + 1 ∧ b = (N.length : Int) + 2 by omega)
      obtain ⟨R, hR⟩ : ∃ R : Int, gz.tmod 20 = R := ⟨_, rfl⟩
      have hR0 : 0 ≤ R ∧ R < 20 := by
        rw [← hR]
        have := HG.out
        rw [Int.tmod_eq_emod_of_nonneg this.1]
        omega
      obtain ⟨gn, hgn⟩ : ∃ gn : Int, gn = (M.length : Int) + 1 + R := ⟨_, rfl⟩
      obtain ⟨L, hLe⟩ : ∃ L : Int, L = (M.length : Int) := ⟨_, rfl⟩
      have hL0 : 0 ≤ L ∧ L ≤ 40 := by omega
      have hgL : L + 1 + R = gn := by omega
      have hgm : gn < 1 ∨ (M.length : Int) < gn := by omega
      have HM := Lib.hid (And.intro hM (And.intro hLe hgm))
      have hgb := HG.out
      clear hgn hM hpM hgd hml hx eF eG eX f1 f2 f3 g1 g2 g3 x1 x2 x3 nF nG nX lF hne n0 hT hae hbe hLe hgm
      go_wp2_with fail
      refine hm.mono ?_
      rintro e w5 ⟨rfl, s5⟩
      have c5 := s5.secret (by have := HN.out; simp; omega) (z := b) (by have := HN.out; simp; omega)
      rw [← HM.out.1] at c5
      clear s5 hm
      go_wp2_with fail
      refine c5.mono ?_
      rintro e w6 ⟨rfl, s6⟩
      have c6 := s6.size
      rw [← HM.out.2.1] at c6
      clear c5
      go_wp2_with fail
      refine c6.mono ?_
      rintro e w6' ⟨rfl, rfl⟩
      clear c6
      have c7 := s6.finishes_no HM.out.2.2 a x
      clear s6
      go_wp2_with fail
      refine c7.mono ?_
      rintro e w7 ⟨rfl, s7⟩
      have c8 := s7.binds_no HM.out.2.2 a x
      clear c7 s7
      go_wp2_with fail
      refine c8.mono ?_
      rintro e w8 ⟨rfl, s8⟩
      have c9 := s8.finishedS a x (by have := HN.out; omega)
      rw [← HE.out.1] at c9
      clear c8 s8
      go_wp2_with fail
      refine c9.mono ?_
      rintro e w9 ⟨rfl, s9⟩
      have c10 := s9.binderS a x (by have := HN.out; omega)
      rw [← HE.out.2.1] at c10
      clear c9 s9
      go_wp2_with fail
      refine c10.mono ?_
      rintro e w10 ⟨rfl, s10⟩
      have c11 := s10.finishes HF.out.1 a x
      rw [show sameM a a lFinished lFinished x x = true from decide_eq_true ⟨rfl, rfl, rfl⟩] at c11
      clear c10 s10
      go_wp2_with fail
      refine c11.mono ?_
      rintro e w11 ⟨rfl, s11⟩
      have c12 := s11.binds HF.out.2.2.1 a x
      rw [show sameM a a lBinder lBinder x x = true from decide_eq_true ⟨rfl, rfl, rfl⟩] at c12
      clear c11 s11
      go_wp2_with fail
      refine c12.mono ?_
      rintro e w12 ⟨rfl, s12⟩
      have c13 := s12.finishes HF.out.2.2.1 a x
      rw [show sameM a a lBinder lFinished x x = false from decide_eq_false (fun h => absurd h.2.1 (by decide))] at c13
      clear c12 s12
      go_wp2_with fail
      refine c13.mono ?_
      rintro e w13 ⟨rfl, s13⟩
      have c14 := s13.binds HF.out.1 a x
      rw [show sameM a a lFinished lBinder x x = false from decide_eq_false (fun h => absurd h.2.1 (by decide))] at c14
      clear c13 s13
      go_wp2_with fail
      refine c14.mono ?_
      rintro e w14 ⟨rfl, s14⟩
      have c15 := s14.nextS x (Rd.nil .u8 w14) (Nat.zero_le _) (by have := HN.out; omega)
      rw [← HE.out.2.2.1] at c15
      clear c14 s14
      go_wp2_with fail
      refine c15.mono ?_
      rintro e w15 ⟨rfl, s15⟩
      clear c15
      cases o with
      | false =>
        have c16 := s15.finishes HF.out.2.1 a X.1
        rw [show sameM a a lFinished lFinished x X.1 = false from decide_eq_false (fun h => HE.out.2.2.2 h.2.2)] at c16
        clear s15
        go_wp2_with fail
        refine c16.mono ?_
        rintro e w16 ⟨rfl, s16⟩
        have c17 := s16.binds HF.out.2.2.2 a X.1
        rw [show sameM a a lBinder lBinder x X.1 = false from decide_eq_false (fun h => HE.out.2.2.2 h.2.2)] at c17
        clear c16 s16
        go_wp2_with fail
        refine c17.mono ?_
        rintro e w17 ⟨rfl, s17⟩
        have HBel := Lib.hid s17.bel
        clear c17 s17
        go_wp2_with fail
        refine (awake15 w17).mono ?_
        rintro e w18 ⟨rfl, b18⟩
        go_wp2_with fail
        go_ret
        exact ⟨rfl, HBel.out.trans (b18.mono HBel.out.size)⟩
      | true =>
        have c16 := s15.finishes HF.out.2.1 b x
        rw [show sameM a b lFinished lFinished x x = false from decide_eq_false (fun h => (by have := HN.out; have := h.1; omega))] at c16
        clear s15
        go_wp2_with fail
        refine c16.mono ?_
        rintro e w16 ⟨rfl, s16⟩
        have c17 := s16.binds HF.out.2.2.2 b x
        rw [show sameM a b lBinder lBinder x x = false from decide_eq_false (fun h => (by have := HN.out; have := h.1; omega))] at c17
        clear c16 s16
        go_wp2_with fail
        refine c17.mono ?_
        rintro e w17 ⟨rfl, s17⟩
        have HBel := Lib.hid s17.bel
        clear c17 s17
        go_wp2_with fail
        refine (awake15 w17).mono ?_
        rintro e w18 ⟨rfl, b18⟩
        go_wp2_with fail
        go_ret
        exact ⟨rfl, HBel.out.trans (b18.mono HBel.out.size)⟩
set_option maxRecDepth 20000 in
theorem sasks_any {w : World} {av : Value} {qa : List (Value × List Int)} (ha : Rl w av qa) (gz : Int) (hg : 0 ≤ gz ∧ gz ≤ 255) (o : Bool) :
    Calls Try.prog 8 #[av, .int .u8 gz, .bool o] w fun e w' => e = .returned (.bool true) ∧ Below w.heap.size w w' := by
  by_cases h1 : qa.length ≤ 10
  · exact sasks_walk gz o ha h1 hg
  · obtain ⟨aa, ac, rfl, _⟩ := ha.shape
    have t1 : decide ((10 : Int) < (qa.length : Int)) = true := decide_eq_true (by omega)
    clear ha h1 hg
    go_enter Try.func8, Try.ntmps8
    go_wp2_with fail
    go_ret
    exact ⟨rfl, Below.refl _ _⟩
#print axioms sasks_any
end Go.Proofs.Ytipgidcpocgojaa
