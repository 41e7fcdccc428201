/- TermShares' walk: the call tells true of all numbers, and writes nothing that was there. -/
import Derived.Test.YthgegjdmmjjffaaGrow
import Derived.Test.YthgegjdmmjjffaaPairs
namespace Go.Proofs.Ythgegjdmmjjffaa
open Go Go.RowKit

/-- A cell of a row of its own. -/
theorem own_cell {w : World} {base n : Nat} {v : Value} {xs : List Int} (h : w.ownsRow base 32 1 v n (cs .i64 xs)) (hn : 0 < n) :
    ∃ g cap, v = .slice (some ⟨g, 0, none⟩) n cap ∧ n ≤ cap ∧ cap ≤ 9223372036854775807 ∧ g < w.heap.size ∧ ∀ j, j < n → w.cell? ⟨g, j, none⟩ = some (.int .i64 (xs.getD j 0)) := by
  obtain ⟨hr, hx⟩ := Rd.of_own h
  rcases h.2 with ⟨_, h0⟩ | ⟨g, cap, cur, rfl, hg, hh, h1, h2, h3, h4⟩
  · omega
  · unfold maxLen at h2
    refine ⟨g, cap, rfl, h1, by omega, blk_lt hh, fun j hj => ?_⟩
    obtain ⟨ao, cp, hv, _, _, _, hc⟩ := hr
    cases hv
    have := hc ⟨g, 0, none⟩ rfl j (by omega)
    rw [Addr.add_lit, Nat.zero_add] at this
    exact this

theorem shares_mid {w0 w w' : World} {tb mb : Nat} {N : List Nd} {v v' : Value} {r : Value × List Int} {j g : Nat} (st : St w0 w tb mb N [(v, secs j), r]) (ho : w'.ownsRow w0.heap.size 32 1 v' (j + 1) (cs .i64 (secs (j + 1)))) (hg : w.grownBy w' v.ownBlock)
    (hl : v'.ownBlock = v.ownBlock ∨ v'.ownBlock = some w.heap.size) (hc : ∀ i, i < j + 1 → w'.cell? ⟨g, i, none⟩ = some (.int .i64 ((secs (j + 1)).getD i 0))) :
    St w0 w' tb mb N [(v', secs (j + 1)), r] ∧ w'.cell? ⟨g, j, none⟩ = some (.int .i64 (2 * (j : Int) + 1)) ∧ (j : Int) + 1 ≤ ((j + 1 : Nat) : Int) :=
  ⟨st.grow hg ho (secs_len _).symm hl, by rw [hc j (by omega), secs_get _ _ (by omega)], by omega⟩
theorem rd_one {w : World} {g j c : Nat} {z : Int} (hc : w.cell? ⟨g, j, none⟩ = some (.int .i64 z)) (h1 : 1 ≤ c) (h2 : c ≤ 9223372036854775807) : Rd .i64 w (.slice (some ⟨g, j, none⟩) 1 c) [z] :=
  ⟨_, c, rfl, h1, by unfold maxLen; omega, (fun e => by cases e), fun a ha i hi => by
    cases ha
    obtain rfl : i = 0 := by simp at hi; omega
    rw [Addr.add_lit, Nat.add_zero]
    exact hc⟩
theorem st_swap {w0 w : World} {tb mb : Nat} {N : List Nd} {r s : Value × List Int} (h : St w0 w tb mb N [r, s]) : St w0 w tb mb N [s, r] := h.perm (List.Perm.swap _ _ _)
theorem own_at {w : World} {base n g c : Nat} {xs : List Int} (h : w.ownsRow base 32 1 (.slice (some ⟨g, 0, none⟩) n c) n (cs .i64 xs)) {j : Nat} (hj : j < n) : w.cell? ⟨g, j, none⟩ = some (.int .i64 (xs.getD j 0)) := by
  obtain ⟨g2, c2, e, _, _, _, h4⟩ := own_cell h (by omega)
  cases e
  exact h4 j hj
theorem cell_lit (w : World) (z : Int) : (w.alloc (.cells #[.int .i64 z] 32)).cell? ⟨w.heap.size, 0, none⟩ = some (.int .i64 z) := by
  have hA := heap_alloc_new w (.cells #[.int .i64 z] 32)
  rw [cell_of_row _ _ 0 _ 32 (0, 0) hA]; rfl

set_option maxHeartbeats 4000000 in
set_option maxRecDepth 20000 in
/-- The law. -/
theorem shares_walk (n : Int) (hn0 : 0 ≤ n) (hn1 : n ≤ 255) (w : World) :
    Calls Try.prog 5 #[.int .u8 n] w fun e w' => e = .returned (.bool true) ∧ Below w.heap.size w w' := by
  obtain ⟨k, hk⟩ : ∃ k : Nat, n % 6 + 2 = (k : Int) := ⟨(n % 6 + 2).toNat, by omega⟩
  have hk2 : 2 ≤ k := by omega
  have hk8 : k < 8 := by omega
  go_enter Try.func5, Try.ntmps5
  go_wp2_with fail
  refine (TabX.new w).mono ?_
  rintro e w1 ⟨tb, mb, nv1, rfl, t1, b1⟩
  have st1 : St w w1 tb mb (alt 0) [(.slice none 0 0, secs 0), (.slice none 0 0, pubs 0)] :=
    ⟨⟨nv1, t1⟩, (fun r hr => by
      simp only [List.mem_cons, List.not_mem_nil, or_false] at hr
      rcases hr with rfl | rfl <;> exact World.ownsRow_nil _ _ _ _), List.pairwise_cons.2 ⟨(fun s _ g hg => by cases hg), List.pairwise_singleton _ _⟩, b1⟩
  clear t1 b1
  go_wp2_with fail
  go_loopw [5, 6, 7] (fun vs vp i wr => ∃ j : Nat, j ≤ k ∧ i = .int .i64 j ∧ St w wr tb mb (alt j) [(vs, secs j), (vp, pubs j)]) (fun _ _ i _ => k - (intOf i).toNat)
  case atStart => exact ⟨0, Nat.zero_le _, rfl, st1⟩
  case round =>
    obtain ⟨j, hj, rfl, st⟩ := hrel
    by_cases hlt : j < k
    · have hlt' : (j : Int) < (k : Int) := by omega
      go_wp2_with fail
      refine (st.secret (by rw [alt_len]; omega) (z := 2 * (j : Int) + 1) (by rw [alt_len]; omega)).mono ?_
      rintro e w2 ⟨rfl, st2⟩
      have st3 := st2.keep (below_alloc w2 (.cells #[.int .i64 (2 * (j : Int) + 1)] 32))
      have c3 : (w2.alloc (.cells #[.int .i64 (2 * (j : Int) + 1)] 32)).cell? ⟨w2.heap.size, 0, none⟩ = some (.int .i64 (2 * (j : Int) + 1)) := cell_lit w2 _
      have sl := secs_len j
      go_wp2_with (at_builtin; refine wpList_append_one (.tmp 24) (.tmp 27) rfl rfl w.heap.size u5 _ (secs j) rfl (st3.own (u5, secs j) (by simp)) ⟨w2.heap.size, 0, none⟩ 1 _ rfl c3 (by simp only; omega) st3.bel.size ?_; intro v4 w4 hown4 hg4 hl4; rw [sl, ← secs_succ] at hown4; obtain ⟨g4, cp4, rfl, h41, h42, h43, h44⟩ := own_cell hown4 (Nat.succ_pos j); have ⟨st5, hcj, hci⟩ := shares_mid st3 hown4 hg4 hl4 h44)
      have hpn := pub_new j (by omega)
      refine (st5.make (by simp [alt_len]; omega) (z := 2 * (j : Int) + 2) (by simp [alt_len]; omega) 7 (rd_one hcj (by omega) (by omega)) (by simp) hpn.1 rfl hpn.2).mono ?_
      rintro e w6 ⟨rfl, st6⟩
      have st7 := st_swap (st6.keep (below_alloc w6 (.cells #[.int .i64 (2 * (j : Int) + 2)] 32)))
      have c7 := cell_lit w6 (2 * (j : Int) + 2)
      have pl := pubs_len j
      clear st3 st2 c3 hown4 hg4 hl4 h44 st5 hcj hci
      go_wp2_with (at_builtin; refine wpList_append_one (.tmp 29) (.tmp 37) rfl rfl w.heap.size u6 _ (pubs j) rfl (st7.own (u6, pubs j) (by simp)) ⟨w6.heap.size, 0, none⟩ 1 _ rfl c7 (by simp only; omega) st7.bel.size ?_; intro v8 w8 hown8 hg8 hl8; rw [pl, ← pubs_succ] at hown8; have st8 := st7.grow hg8 hown8 (pubs_len _).symm hl8)
      go_roundw
      case rel => exact ⟨j + 1, by omega, by go_num, by rw [alt_succ]; exact st_swap st8⟩
      case measure => simp [intOf]; omega
    · obtain rfl : j = k := by omega
      have sk := secs_len j
      have pk := pubs_len j
      have o5 := st.own (u5, secs j) (by simp)
      have o6 := st.own (u6, pubs j) (by simp)
      rw [sk] at o5
      rw [pk] at o6
      obtain ⟨g5, c5, rfl, h51, h52, _, _⟩ := own_cell o5 (by omega)
      obtain ⟨g6, c6, rfl, h61, h62, _, _⟩ := own_cell o6 (by omega)
      have st0 : St w wr tb mb (alt j ++ shr 0 0) [(.slice none 0 0, sn (2 * j) (shr 0 0).length), (.slice (some ⟨g5, 0, none⟩) j c5, secs j), (.slice (some ⟨g6, 0, none⟩) j c6, pubs j)] := by
        have := st.more
        simpa [shr, sn] using this
      clear o5 o6 st hlt hj hk hn0 hn1
      go_wp2_with fail
      go_loopw [8, 9] (fun v x wr => ∃ i : Nat, i ≤ j ∧ x = .int .i64 i ∧ St w wr tb mb (alt j ++ shr i 0) [(v, sn (2 * j) (shr i 0).length), (.slice (some ⟨g5, 0, none⟩) j c5, secs j), (.slice (some ⟨g6, 0, none⟩) j c6, pubs j)]) (fun _ x _ => j - (intOf x).toNat)
      case atStart => exact ⟨0, Nat.zero_le _, rfl, st0⟩
      case round =>
        obtain ⟨i, hi, rfl, st⟩ := hrel
        by_cases hlt : i < j
        · have hlt' : (i : Int) < (j : Int) := by omega
          go_wp2_with fail
          go_loopw [8, 10] (fun v x wr => ∃ q : Nat, q ≤ i + 1 ∧ x = .int .i64 q ∧ St w wr tb mb (alt j ++ shr i q) [(v, sn (2 * j) (shr i q).length), (.slice (some ⟨g5, 0, none⟩) j c5, secs j), (.slice (some ⟨g6, 0, none⟩) j c6, pubs j)]) (fun _ x _ => i + 1 - (intOf x).toNat)
          case atStart => exact ⟨0, Nat.zero_le _, rfl, st⟩
          case round =>
            obtain ⟨q, hq, rfl, st⟩ := hrel
            by_cases hqi : q ≤ i
            · have hqi' : (q : Int) ≤ (i : Int) := by omega
              have hqj : q < j := by omega
              have hqj' : (q : Int) < (j : Int) := by omega
              have o5 := st.own _ (List.mem_cons_of_mem _ List.mem_cons_self)
              have o6 := st.own _ (List.mem_cons_of_mem _ (List.mem_cons_of_mem _ List.mem_cons_self))
              simp only [sk, pk] at o5 o6
              have a5 := own_at o5 hlt
              have a6 := own_at o6 hqj
              rw [secs_get j i hlt] at a5
              rw [pubs_get j q hqj] at a6
              have sA := (st.keep (below_alloc wr (.cells #[.int .i64 (2 * (i : Int) + 1), .int .i64 (2 * (q : Int) + 2)] 32))).keep (Below.refl _ _).drew
              have rA := (Rd.lit .i64 32 wr [2 * (i : Int) + 1, 2 * (q : Int) + 2] (by simp)).below (Below.refl _ _).drew
              obtain ⟨n1, n2, n3⟩ := shr_new j (by omega) i hlt q (by omega)
              have hln := shr_len j (by omega) i hlt q (by omega)
              obtain ⟨S, hS⟩ : ∃ S : Nat, (shr i q).length = S := ⟨_, rfl⟩
              obtain ⟨z, hz⟩ : ∃ z : Int, 2 * (j : Int) + S + 1 = z := ⟨_, rfl⟩
              have hN : ((alt j ++ shr i q).length : Int) + 1 = z := by rw [List.length_append, alt_len, hS]; omega
              have M1 := sA.make (by rw [List.length_append, alt_len]; omega) hN 8 rA (by simp) n1 n2 n3
              have o8 := st.own _ List.mem_cons_self
              simp only [sn_len, hS] at o8
              have hz0 : (z == 0) = false := beq_eq_false_iff_ne.2 (by omega)
              have HZ := Lib.hid hz
              have HS := Lib.hid hS
              have HN := Lib.hid hN
              have HJ8 := Lib.hid hk8
              have HI := Lib.hid hlt
              have HQ := Lib.hid hqi
              have HQJ := Lib.hid hqj
              have HLN := Lib.hid hln
              clear hz hS hN n1 n2 n3 hln hq hi st0
              obtain ⟨ao8, c8, rfl, h81, h82⟩ := own_shape o8
              go_wp2_with fail
              go_region_with (go_at_call 26; refine M1.mono ?_; rintro e w6 ⟨rfl, st6⟩)
              all_goals
                rw [show (alt j ++ shr i q) ++ [((8 : Int), ByteArray.empty, [2 * (q : Int) + 1, 2 * (i : Int) + 1])] = alt j ++ shr i (q + 1) from by rw [shr_right, ← List.append_assoc]; rfl] at st6
                have p5 := st6.own _ (List.mem_cons_of_mem _ List.mem_cons_self)
                have p6 := st6.own _ (List.mem_cons_of_mem _ (List.mem_cons_of_mem _ List.mem_cons_self))
                simp only [sk, pk] at p5 p6
                have d5 := own_at p5 HQJ.out
                have d6 := own_at p6 HI.out
                rw [secs_get j q HQJ.out] at d5
                rw [pubs_get j i HI.out] at d6
                clear a5 a6 o5 o6 p5 p6 M1 sA rA st o8
                have sB := (st6.keep (below_alloc w6 (.cells #[.int .i64 (2 * (q : Int) + 1), .int .i64 (2 * (i : Int) + 2)] 32))).keep (Below.refl _ _).drew
                have rB := (Rd.lit .i64 32 w6 [2 * (q : Int) + 1, 2 * (i : Int) + 2] (by simp)).below (Below.refl _ _).drew
                have M2 := by
                  obtain ⟨n1, n2, n3⟩ := shr_old j HJ8.out i HI.out q (by have := HQ.out; omega)
                  rw [HN.out] at n3
                  have hl := shr_len j HJ8.out i HI.out (q + 1) (by have := HQ.out; omega)
                  exact sB.again (by rw [List.length_append, alt_len]; have := HJ8.out; omega) 8 rB (by simp) n1 n2 n3
                go_wp2_with fail
                go_region_with (go_at_call 26; refine M2.mono ?_; rintro e w7 ⟨rfl, st7⟩)
              all_goals
                rw [HS.out] at st7
                have st8 := st7.keep (below_alloc w7 (.cells #[.int .i64 z] 32))
                have c8l := cell_lit w7 z
                have o7 := st7.own _ List.mem_cons_self
                simp only [sn_len] at o7
                clear st6 d5 d6 sB rB M2
                go_wp2_with fail
                go_loopw [13] (fun x wr => ∃ m : Nat, m ≤ S ∧ x = .int .i64 m ∧ w7 = wr) (fun x _ => S - (intOf x).toNat)
                case atStart => exact ⟨0, Nat.zero_le _, rfl, rfl⟩
                case round =>
                  obtain ⟨m, hm, rfl, rfl⟩ := hrel
                  by_cases hmS : m < S
                  · have hmS' : (m : Int) < (S : Int) := by omega
                    obtain ⟨g8, c8', he, e1, e2, _, e4⟩ := own_cell o7 (by omega)
                    cases he
                    have ec := e4 m hmS
                    rw [sn_get _ _ _ hmS] at ec
                    have hne : ((((2 * j : Nat) : Int) + (m : Int) + 1) == z) = false := beq_eq_false_iff_ne.2 (by have := HZ.out; omega)
                    clear e4 st8 st7 c8l o7
                    go_wp2_with fail
                    go_roundw
                    case rel => exact ⟨m + 1, by omega, by go_num, trivial⟩
                    case measure => simp [intOf]; omega
                  · obtain rfl : m = S := by omega
                    clear st7 hmS hm
                    go_wp2_with (at_builtin; refine wpList_append_one (.tmp 90) (.tmp 92) rfl rfl w.heap.size _ _ (sn (2 * j) m) rfl (st8.own _ List.mem_cons_self) ⟨w7.heap.size, 0, none⟩ 1 _ rfl c8l (by have := HLN.out; have := HS.out; simp only [sn_len]; omega) st8.bel.size ?_; intro v9 w9 hown9 hg9 hl9)
                    have st9 := st8.grow hg9 hown9 (by simp) hl9
                    have hsn : sn (2 * j) (shr i (q + 1)).length = sn (2 * j) m ++ [z] := by
                      rw [shr_right, List.length_append, HS.out]
                      have hz2 : ((2 * j : Nat) : Int) + (m : Int) + 1 = z := by have := HZ.out; omega
                      exact (sn_succ _ _).trans (by rw [hz2])
                    go_roundw
                    case rel => exact ⟨q + 1, (by have := HQ.out; omega), by go_num, by rw [hsn]; exact st9⟩
                    case measure => have := HQ.out; simp [intOf]; omega
            · obtain rfl : q = i + 1 := by omega
              have hqn : ¬ (((i + 1 : Nat) : Int) ≤ (i : Int)) := by omega
              go_wp2_with fail
              go_roundw
              case rel => exact ⟨i + 1, hlt, by go_num, by rw [shr_down]; exact st⟩
              case measure => simp [intOf]; omega
        · obtain rfl : i = j := by omega
          clear st0
          go_wp2_with fail
          refine (awake_any wr).mono ?_
          rintro e w9 ⟨rfl, b9⟩
          go_wp2_with fail
          go_ret
          exact ⟨rfl, st.bel.trans (b9.mono st.bel.size)⟩
#print axioms shares_walk
end Go.Proofs.Ythgegjdmmjjffaa
