/- SchedTickets' walk. -/
import Derived.Test.YtipgidcpocgojaaScTi
import Derived.Test.YtipgidcpocgojaaScGd
namespace Go.Proofs.Ytipgidcpocgojaa
open Go Go.RowKit

theorem own_cells {w : World} {base : Nat} {v : Value} {zs : List Int} (h : w.ownsRow base 26 1 v zs.length (cs .i64 zs)) : ∃ ao cap, v = .slice ao zs.length cap ∧ zs.length ≤ cap ∧ cap ≤ 9223372036854775807 ∧ ∀ j, j < zs.length → ∃ g, ao = some ⟨g, 0, none⟩ ∧ w.cell? ⟨g, j, none⟩ = some (.int .i64 (zs.getD j 0)) := by
  have hr := (Rd.of_own h).1
  rcases h.2 with ⟨rfl, h0⟩ | ⟨g, cap, cur, rfl, hg, hh, h1, h2, h3, h4⟩
  · exact ⟨none, 0, by rw [h0], by omega, by decide, fun j hj => by omega⟩
  · unfold maxLen at h2
    obtain ⟨ao, cp, hv, _, _, _, hc⟩ := hr
    cases hv
    refine ⟨_, cap, rfl, h1, by omega, fun j hj => ⟨g, rfl, ?_⟩⟩
    have := hc _ rfl j hj
    rwa [Addr.add_lit, Nat.zero_add] at this
set_option maxRecDepth 20000 in
set_option maxHeartbeats 8000000 in
theorem stickets_walk (x : Int) (hx : 0 ≤ x ∧ x ≤ 255) (w : World) :
    Calls Try.prog 6 #[.int .u8 x] w fun e w' => e = .returned (.bool true) ∧ Below w.heap.size w w' := by
  obtain ⟨m, hm⟩ : ∃ m : Nat, x.tmod 5 = (m : Int) := by
    rw [Int.tmod_eq_emod_of_nonneg hx.1]
    exact ⟨(x % 5).toNat, by omega⟩
  have hm5 : (m : Int) ≤ 4 := by
    rw [← hm, Int.tmod_eq_emod_of_nonneg hx.1]
    omega
  have hm4 : m ≤ 4 := by omega
  have hx0 := hx.1
  have hx1 := hx.2
  clear hx
  go_enter Try.func6, Try.ntmps6
  go_wp2_with fail
  refine (St.new w).mono ?_
  rintro e w1 ⟨tb, mb, rfl, s1⟩
  have H1 := Lib.hid s1.more
  clear s1
  go_wp2_with fail
  go_loopw [4, 5] (fun sv iv wr => ∃ (i : Nat) (ao : Option Addr) (cap : Nat), sv = .slice ao (tick i).2.length cap ∧ iv = .int .i64 i ∧ i ≤ m + 1 ∧ Hid (St w wr tb mb (tick i).1 [(.slice ao (tick i).2.length cap, (tick i).2)])) (fun _ iv _ => m + 1 - (intOf iv).toNat)
  case atStart => exact ⟨0, none, 0, rfl, rfl, Nat.zero_le _, H1⟩
  case round =>
    obtain ⟨i, ao, cap, rfl, rfl, hi, hS⟩ := hrel
    by_cases hlt : i < m + 1
    · have hii : (i : Int) < (m : Int) + 1 := by omega
      obtain ⟨f1, f2⟩ := fresh_at (i := i) (by omega)
      -- the round's tables
      obtain ⟨S, eS⟩ : ∃ S, S = (if i = 0 then (tick i).1 else (tick i).1 ++ [secretNd]) := ⟨_, rfl⟩
      obtain ⟨h, eh⟩ : ∃ h : Int, h = (if i = 0 then 0 else ((tick i).1.length : Int) + 1) := ⟨_, rfl⟩
      obtain ⟨E, eE⟩ : ∃ E, E = earlyN S h := ⟨_, rfl⟩
      obtain ⟨B, eB⟩ : ∃ B, B = textN E.2 ByteArray.empty := ⟨_, rfl⟩
      obtain ⟨T, eT⟩ : ∃ T, T = atN B.2 lClientEarly E.1 B.1 := ⟨_, rfl⟩
      obtain ⟨C, eC⟩ : ∃ C, C = textN T.2 ByteArray.empty := ⟨_, rfl⟩
      obtain ⟨M, eM⟩ : ∃ M, M = macN C.2 lBinder E.1 C.1 := ⟨_, rfl⟩
      obtain ⟨R, eR⟩ : ∃ R, R = makeN M.2 3 [E.1, E.1] := ⟨_, rfl⟩
      obtain ⟨K, eK⟩ : ∃ K, K = deriveN R.2 R.1 lHandshake 0 := ⟨_, rfl⟩
      have er : round15 (tick i).1 i = (K.2, [E.1, T.1, M.1, K.1]) := by rw [eK, eR, eM, eC, eT, eB, eE, eS, eh]; rfl
      have et : tick (i + 1) = (K.2, (tick i).2 ++ [E.1, T.1, M.1, K.1]) := by
        show ((round15 (tick i).1 i).1, (tick i).2 ++ (round15 (tick i).1 i).2) = _
        rw [er]
      rw [er] at f2
      simp only at f2
      have n0 : S.length ≤ 201 := by
        rw [eS]
        split
        · omega
        · simp; omega
      have n1 := earlyN_len S h
      have n2 := textN_len E.2 ByteArray.empty
      have n3 := atN_len B.2 lClientEarly E.1 B.1
      have n4 := textN_len T.2 ByteArray.empty
      have n5 := macN_len C.2 lBinder E.1 C.1
      rw [← eE] at n1; rw [← eB] at n2; rw [← eT] at n3; rw [← eC] at n4; rw [← eM] at n5
      have HN := Lib.hid (show (tick i).1.length ≤ 200 ∧ S.length ≤ 201 ∧ E.2.length ≤ 210 ∧ B.2.length ≤ 220 ∧ T.2.length ≤ 230 ∧ C.2.length ≤ 240 ∧ M.2.length ≤ 250 by omega)
      have HE := Lib.hid (And.intro eE (And.intro eB (And.intro eT (And.intro eC (And.intro eM (And.intro eR eK))))))
      have HT := Lib.hid et
      have HF := Lib.hid f2
      have HLen := Lib.hid (tick_seen i)
      clear f1 f2 eE eB eT eC eM eR eK er et n0 n1 n2 n3 n4 n5
      have key : ∀ (a : Act) (wr2 : World), True := fun _ _ => trivial
      by_cases hi0 : i = 0
      · rw [if_pos hi0] at eS eh
        subst eh
        rw [← eS] at hS
        have hi0' : ¬ 0 < i := by omega
        clear hi0
        have c1 := hS.out.earlyS 0 (by have := HN.out; omega)
        rw [← HE.out.1] at c1
        clear eS hS
        go_wp2_with fail
        refine c1.mono ?_
        rintro e w2 ⟨rfl, s2⟩
        have c2 := s2.beginS (by have := HN.out; omega)
        rw [← HE.out.2.1] at c2
        clear c1 s2
        go_wp2_with fail
        refine c2.mono ?_
        rintro e w3 ⟨rfl, s3⟩
        have c3 := s3.earlyTrafficS E.1 B.1 (by have := HN.out; omega)
        rw [← HE.out.2.2.1] at c3
        clear c2 s3
        go_wp2_with fail
        refine c3.mono ?_
        rintro e w4 ⟨rfl, s4⟩
        have c4 := s4.beginS (by have := HN.out; omega)
        rw [← HE.out.2.2.2.1] at c4
        clear c3 s4
        go_wp2_with fail
        refine c4.mono ?_
        rintro e w5 ⟨rfl, s5⟩
        have c5 := s5.binderS E.1 C.1 (by have := HN.out; omega)
        rw [← HE.out.2.2.2.2.1] at c5
        clear c4 s5
        go_wp2_with fail
        refine c5.mono ?_
        rintro e w6 ⟨rfl, s6⟩
        have c6 := s6.shakenS E.1 E.1 (by have := HN.out; omega) HE.out.2.2.2.2.2.1 HE.out.2.2.2.2.2.2
        clear c5 s6
        go_wp2_with fail
        refine c6.mono ?_
        rintro e w7 ⟨rfl, s7⟩
        have s8 := s7.lit [E.1, T.1, M.1, K.1] (by simp)
        have S8 : Hid (St w (w7.alloc (.cells #[.int .i64 E.1, .int .i64 T.1, .int .i64 M.1, .int .i64 K.1] 26)) tb mb K.2 [(.slice ao (tick i).2.length cap, (tick i).2 ++ [E.1, T.1, M.1, K.1].take 0), (.slice (some ⟨w7.heap.size, 0, none⟩) 4 4, [E.1, T.1, M.1, K.1])]) := Lib.hid (by
          have := s8.perm (List.Perm.swap _ _ [])
          simpa [cs] using this)
        clear c6 s7 s8
        go_wp2_with fail
        go_loopw [4, 9] (fun sv kv wr2 => ∃ (k : Nat) (a2 : Option Addr) (cap2 : Nat), sv = .slice a2 ((tick i).2.length + k) cap2 ∧ kv = .int .i64 k ∧ k ≤ 4 ∧ Hid (St w wr2 tb mb K.2 [(.slice a2 ((tick i).2.length + k) cap2, (tick i).2 ++ [E.1, T.1, M.1, K.1].take k), (.slice (some ⟨w7.heap.size, 0, none⟩) 4 4, [E.1, T.1, M.1, K.1])])) (fun _ kv _ => 4 - (intOf kv).toNat)
        case atStart => exact ⟨0, ao, cap, rfl, rfl, by omega, S8⟩
        case round =>
          obtain ⟨k, a2, cap2, rfl, rfl, hk, hS2⟩ := hrel
          by_cases hk4 : k < 4
          · have hki : (k : Int) < 4 := by omega
            have hlen : ((tick i).2 ++ [E.1, T.1, M.1, K.1].take k).length = (tick i).2.length + k := by simp; omega
            obtain ⟨z, hz⟩ : ∃ z, z = [E.1, T.1, M.1, K.1].getD k 0 := ⟨_, rfl⟩
            have hf := HF.out k hk4
            rw [← hz] at hf
            have hz0 : (z == 0) = false := beq_eq_false_iff_ne.2 hf.1
            obtain ⟨ao', cp', hv', _, _, hcB⟩ := own_cells (hS2.out.own _ (List.mem_cons_of_mem _ List.mem_cons_self))
            obtain ⟨g', hg', hcA⟩ := hcB k (by simpa using hk4)
            simp only [Value.slice.injEq] at hv'
            obtain ⟨rfl, _, _⟩ := hv'
            simp only [Option.some.injEq, Addr.mk.injEq, and_true] at hg'
            rw [← hg'] at hcA
            clear hg' hcB
            simp only at hcA
            rw [← hz] at hcA
            obtain ⟨ss, hss⟩ : ∃ ss, ss = (tick i).2 ++ [E.1, T.1, M.1, K.1].take k := ⟨_, rfl⟩
            rw [← hss] at hf hS2 hlen
            have hsl : ss.length ≤ 24 := by rw [hlen, HLen.out]; omega
            have hn : (tick i).2.length + k = ss.length := hlen.symm
            rw [hn] at hS2 ⊢
            have HS2 := Lib.hid hS2.out
            have HZ := Lib.hid (And.intro hz (And.intro hss (And.intro hf.2 hn)))
            have HCA := Lib.hid hcA
            obtain ⟨ao3, cp3, hv3, hl3, hl4, hcS⟩ := own_cells (HS2.out.own _ List.mem_cons_self)
            simp only [Value.slice.injEq] at hv3
            obtain ⟨rfl, _, rfl⟩ := hv3
            have HCS := Lib.hid hcS
            clear hf hS2 hlen hz hss hcS hn
            go_wp2_with fail
            go_loopw [10] (fun jv wr3 => ∃ (j : Nat), jv = .int .i64 j ∧ j ≤ ss.length ∧ Hid (Below wr.heap.size wr wr3)) (fun jv _ => ss.length - (intOf jv).toNat)
            case atStart => exact ⟨0, rfl, Nat.zero_le _, Lib.hid (Below.refl _ _)⟩
            case round =>
              obtain ⟨j, rfl, hj, hB⟩ := hrel
              by_cases hj4 : j < ss.length
              · have hji : (j : Int) < (ss.length : Int) := by omega
                obtain ⟨gS, rfl, hcj⟩ := HCS.out j hj4
                have d1 : wr.cell? ⟨gS, j, none⟩ = some (.int .i64 (ss.getD j 0)) := by rw [hB.out.cell (cell_lt hcj)]; exact hcj
                have d2 : wr.cell? ⟨w7.heap.size, k, none⟩ = some (.int .i64 z) := by rw [hB.out.cell (cell_lt HCA.out)]; exact HCA.out
                have hne : (ss.getD j 0 == z) = false := beq_eq_false_iff_ne.2 (HZ.out.2.2.1 _ (by rw [List.getD_eq_getElem?_getD, List.getElem?_eq_getElem hj4]; exact List.getElem_mem hj4))
                clear hcj
                generalize ss.getD j 0 = y at *
                go_wp2_with fail
                go_quiet (fail)
                go_wp2_with fail
                go_roundw
                case rel => exact ⟨j + 1, by go_num, by omega, Lib.hid (hB.out.trans ((below_drewN _ nq).mono hB.out.size))⟩
                case measure => simp [intOf]; omega
              · have hji : ¬ (j : Int) < (ss.length : Int) := by omega
                have d2 : wr.cell? ⟨w7.heap.size, k, none⟩ = some (.int .i64 z) := by rw [hB.out.cell (cell_lt HCA.out)]; exact HCA.out
                have H9 := Lib.hid ((HS2.out.keep hB.out).keep (below_alloc wr (.cells #[.int .i64 z] 26)))
                have hbz := H9.out.bel.size
                have hcz : (wr.alloc (.cells #[.int .i64 z] 26)).cell? ⟨wr.heap.size, 0, none⟩ = some (.int .i64 z) := (cell_of_row _ wr.heap.size 0 _ 26 (0, 0) (heap_alloc_new wr _)).trans rfl
                have HCZ := Lib.hid hcz
                clear hcz hB
                go_wp2_with (
                  at_builtin
                  refine wpList_append_one (.tmp 69) (.tmp 74) rfl rfl w.heap.size _ ss.length ss rfl (H9.out.own _ List.mem_cons_self) ⟨wr.heap.size, 0, none⟩ 1 z rfl HCZ.out (by omega) hbz ?_
                  intro v' w2 hown' hgrow hlow
                  have H10 := Lib.hid (H9.out.grow hgrow (ys := ss ++ [z]) hown' (by simp) hlow)
                  obtain ⟨a5, c5, rfl, _, _⟩ := own_shape hown'
                  clear hown' hgrow hlow)
                go_roundw
                case rel =>
                  have htk : (tick i).2 ++ [E.1, T.1, M.1, K.1].take (k + 1) = ss ++ [z] := by
                    rw [HZ.out.2.1, HZ.out.1, List.take_add_one, List.getD_eq_getElem?_getD, List.getElem?_eq_getElem (by simpa using hk4)]
                    simp
                  refine ⟨k + 1, a5, c5, ?_, by go_num, by omega, ?_⟩
                  · have := HZ.out.2.2.2; congr 1; omega
                  · rw [htk, show (tick i).2.length + (k + 1) = ss.length + 1 by have := HZ.out.2.2.2; omega]
                    exact H10
                case measure => simp [intOf]; omega
          · obtain rfl : k = 4 := by omega
            have hS3 := Lib.hid ((hS2.out.perm (List.Perm.swap _ _ [])).tail)
            clear hS2
            go_wp2_with fail
            go_roundw
            case rel =>
              have hl : (tick (i + 1)).2.length = (tick i).2.length + 4 := by rw [HT.out]; simp
              refine ⟨i + 1, a2, cap2, by rw [hl], by go_num, by omega, ?_⟩
              rw [hl]
              rw [HT.out]
              simpa using hS3
            case measure => simp [intOf]; omega
      · rw [if_neg hi0] at eS eh
        have hi0' : 0 < i := by omega
        have c0 := hS.out.secret (by have := HN.out; omega) eh.symm
        rw [← eS] at c0
        clear eS hS eh
        go_wp2_with fail
        refine c0.mono ?_
        rintro e w0' ⟨rfl, s0⟩
        have c1 := s0.earlyS h (by have := HN.out; omega)
        rw [← HE.out.1] at c1
        clear c0 s0
        go_wp2_with fail
        refine c1.mono ?_
        rintro e w2 ⟨rfl, s2⟩
        have c2 := s2.beginS (by have := HN.out; omega)
        rw [← HE.out.2.1] at c2
        clear c1 s2
        go_wp2_with fail
        refine c2.mono ?_
        rintro e w3 ⟨rfl, s3⟩
        have c3 := s3.earlyTrafficS E.1 B.1 (by have := HN.out; omega)
        rw [← HE.out.2.2.1] at c3
        clear c2 s3
        go_wp2_with fail
        refine c3.mono ?_
        rintro e w4 ⟨rfl, s4⟩
        have c4 := s4.beginS (by have := HN.out; omega)
        rw [← HE.out.2.2.2.1] at c4
        clear c3 s4
        go_wp2_with fail
        refine c4.mono ?_
        rintro e w5 ⟨rfl, s5⟩
        have c5 := s5.binderS E.1 C.1 (by have := HN.out; omega)
        rw [← HE.out.2.2.2.2.1] at c5
        clear c4 s5
        go_wp2_with fail
        refine c5.mono ?_
        rintro e w6 ⟨rfl, s6⟩
        have c6 := s6.shakenS E.1 E.1 (by have := HN.out; omega) HE.out.2.2.2.2.2.1 HE.out.2.2.2.2.2.2
        clear c5 s6
        go_wp2_with fail
        refine c6.mono ?_
        rintro e w7 ⟨rfl, s7⟩
        have s8 := s7.lit [E.1, T.1, M.1, K.1] (by simp)
        have S8 : Hid (St w (w7.alloc (.cells #[.int .i64 E.1, .int .i64 T.1, .int .i64 M.1, .int .i64 K.1] 26)) tb mb K.2 [(.slice ao (tick i).2.length cap, (tick i).2 ++ [E.1, T.1, M.1, K.1].take 0), (.slice (some ⟨w7.heap.size, 0, none⟩) 4 4, [E.1, T.1, M.1, K.1])]) := Lib.hid (by
          have := s8.perm (List.Perm.swap _ _ [])
          simpa [cs] using this)
        clear c6 s7 s8
        go_wp2_with fail
        go_loopw [4, 9] (fun sv kv wr2 => ∃ (k : Nat) (a2 : Option Addr) (cap2 : Nat), sv = .slice a2 ((tick i).2.length + k) cap2 ∧ kv = .int .i64 k ∧ k ≤ 4 ∧ Hid (St w wr2 tb mb K.2 [(.slice a2 ((tick i).2.length + k) cap2, (tick i).2 ++ [E.1, T.1, M.1, K.1].take k), (.slice (some ⟨w7.heap.size, 0, none⟩) 4 4, [E.1, T.1, M.1, K.1])])) (fun _ kv _ => 4 - (intOf kv).toNat)
        case atStart => exact ⟨0, ao, cap, rfl, rfl, by omega, S8⟩
        case round =>
          obtain ⟨k, a2, cap2, rfl, rfl, hk, hS2⟩ := hrel
          by_cases hk4 : k < 4
          · have hki : (k : Int) < 4 := by omega
            have hlen : ((tick i).2 ++ [E.1, T.1, M.1, K.1].take k).length = (tick i).2.length + k := by simp; omega
            obtain ⟨z, hz⟩ : ∃ z, z = [E.1, T.1, M.1, K.1].getD k 0 := ⟨_, rfl⟩
            have hf := HF.out k hk4
            rw [← hz] at hf
            have hz0 : (z == 0) = false := beq_eq_false_iff_ne.2 hf.1
            obtain ⟨ao', cp', hv', _, _, hcB⟩ := own_cells (hS2.out.own _ (List.mem_cons_of_mem _ List.mem_cons_self))
            obtain ⟨g', hg', hcA⟩ := hcB k (by simpa using hk4)
            simp only [Value.slice.injEq] at hv'
            obtain ⟨rfl, _, _⟩ := hv'
            simp only [Option.some.injEq, Addr.mk.injEq, and_true] at hg'
            rw [← hg'] at hcA
            clear hg' hcB
            simp only at hcA
            rw [← hz] at hcA
            obtain ⟨ss, hss⟩ : ∃ ss, ss = (tick i).2 ++ [E.1, T.1, M.1, K.1].take k := ⟨_, rfl⟩
            rw [← hss] at hf hS2 hlen
            have hsl : ss.length ≤ 24 := by rw [hlen, HLen.out]; omega
            have hn : (tick i).2.length + k = ss.length := hlen.symm
            rw [hn] at hS2 ⊢
            have HS2 := Lib.hid hS2.out
            have HZ := Lib.hid (And.intro hz (And.intro hss (And.intro hf.2 hn)))
            have HCA := Lib.hid hcA
            obtain ⟨ao3, cp3, hv3, hl3, hl4, hcS⟩ := own_cells (HS2.out.own _ List.mem_cons_self)
            simp only [Value.slice.injEq] at hv3
            obtain ⟨rfl, _, rfl⟩ := hv3
            have HCS := Lib.hid hcS
            clear hf hS2 hlen hz hss hcS hn
            go_wp2_with fail
            go_loopw [10] (fun jv wr3 => ∃ (j : Nat), jv = .int .i64 j ∧ j ≤ ss.length ∧ Hid (Below wr.heap.size wr wr3)) (fun jv _ => ss.length - (intOf jv).toNat)
            case atStart => exact ⟨0, rfl, Nat.zero_le _, Lib.hid (Below.refl _ _)⟩
            case round =>
              obtain ⟨j, rfl, hj, hB⟩ := hrel
              by_cases hj4 : j < ss.length
              · have hji : (j : Int) < (ss.length : Int) := by omega
                obtain ⟨gS, rfl, hcj⟩ := HCS.out j hj4
                have d1 : wr.cell? ⟨gS, j, none⟩ = some (.int .i64 (ss.getD j 0)) := by rw [hB.out.cell (cell_lt hcj)]; exact hcj
                have d2 : wr.cell? ⟨w7.heap.size, k, none⟩ = some (.int .i64 z) := by rw [hB.out.cell (cell_lt HCA.out)]; exact HCA.out
                have hne : (ss.getD j 0 == z) = false := beq_eq_false_iff_ne.2 (HZ.out.2.2.1 _ (by rw [List.getD_eq_getElem?_getD, List.getElem?_eq_getElem hj4]; exact List.getElem_mem hj4))
                clear hcj
                generalize ss.getD j 0 = y at *
                go_wp2_with fail
                go_quiet (fail)
                go_wp2_with fail
                go_roundw
                case rel => exact ⟨j + 1, by go_num, by omega, Lib.hid (hB.out.trans ((below_drewN _ nq).mono hB.out.size))⟩
                case measure => simp [intOf]; omega
              · have hji : ¬ (j : Int) < (ss.length : Int) := by omega
                have d2 : wr.cell? ⟨w7.heap.size, k, none⟩ = some (.int .i64 z) := by rw [hB.out.cell (cell_lt HCA.out)]; exact HCA.out
                have H9 := Lib.hid ((HS2.out.keep hB.out).keep (below_alloc wr (.cells #[.int .i64 z] 26)))
                have hbz := H9.out.bel.size
                have hcz : (wr.alloc (.cells #[.int .i64 z] 26)).cell? ⟨wr.heap.size, 0, none⟩ = some (.int .i64 z) := (cell_of_row _ wr.heap.size 0 _ 26 (0, 0) (heap_alloc_new wr _)).trans rfl
                have HCZ := Lib.hid hcz
                clear hcz hB
                go_wp2_with (
                  at_builtin
                  refine wpList_append_one (.tmp 69) (.tmp 74) rfl rfl w.heap.size _ ss.length ss rfl (H9.out.own _ List.mem_cons_self) ⟨wr.heap.size, 0, none⟩ 1 z rfl HCZ.out (by omega) hbz ?_
                  intro v' w2 hown' hgrow hlow
                  have H10 := Lib.hid (H9.out.grow hgrow (ys := ss ++ [z]) hown' (by simp) hlow)
                  obtain ⟨a5, c5, rfl, _, _⟩ := own_shape hown'
                  clear hown' hgrow hlow)
                go_roundw
                case rel =>
                  have htk : (tick i).2 ++ [E.1, T.1, M.1, K.1].take (k + 1) = ss ++ [z] := by
                    rw [HZ.out.2.1, HZ.out.1, List.take_add_one, List.getD_eq_getElem?_getD, List.getElem?_eq_getElem (by simpa using hk4)]
                    simp
                  refine ⟨k + 1, a5, c5, ?_, by go_num, by omega, ?_⟩
                  · have := HZ.out.2.2.2; congr 1; omega
                  · rw [htk, show (tick i).2.length + (k + 1) = ss.length + 1 by have := HZ.out.2.2.2; omega]
                    exact H10
                case measure => simp [intOf]; omega
          · obtain rfl : k = 4 := by omega
            have hS3 := Lib.hid ((hS2.out.perm (List.Perm.swap _ _ [])).tail)
            clear hS2
            go_wp2_with fail
            go_roundw
            case rel =>
              have hl : (tick (i + 1)).2.length = (tick i).2.length + 4 := by rw [HT.out]; simp
              refine ⟨i + 1, a2, cap2, by rw [hl], by go_num, by omega, ?_⟩
              rw [hl]
              rw [HT.out]
              simpa using hS3
            case measure => simp [intOf]; omega
    · obtain rfl : i = m + 1 := by omega
      have hii : ¬ (((m + 1 : Nat)) : Int) < (m : Int) + 1 := by omega
      have HB := Lib.hid hS.out.bel
      clear hS
      go_wp2_with fail
      refine (awake15 wr).mono ?_
      rintro e w9 ⟨rfl, b9⟩
      go_wp2_with fail
      go_ret
      exact ⟨rfl, HB.out.trans (b9.mono HB.out.size)⟩
#print axioms stickets_walk
end Go.Proofs.Ytipgidcpocgojaa
