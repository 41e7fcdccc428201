/- TermTwice's walk: what is made twice has one number, and parts have smaller numbers. -/
import Derived.Test.YtbhfilmbokaboaaTwicePure
import Derived.Test.YtbhfilmbokaboaaStepsIn
import Derived.Test.YtbhfilmbokaboaaLookNo
import Derived.Test.YtbhfilmbokaboaaAwake
namespace Go.Proofs.Ytbhfilmbokaboaa.twice
open Go Go.RowKit

/-- Two new tables. -/
theorem two_new {w w1 : World} {tb mb : Nat} (h : St w w1 tb mb [] []) : Two w (w1.alloc (.cells #[.slice none 0 0] 28)) tb mb w1.heap.size [] :=
  ⟨h.keep (below_alloc _ _), ⟨.slice none 0 0, [], ⟨h.bel.size, heap_alloc_new _ _, World.ownsRow_nil _ _ _ _, (fun p hp => by cases hp), by simp⟩, rfl⟩, fun m hm => by cases hm⟩
theorem step_below {w w' : World} {a : Addr} {s : StepV} (h : StepAt w a s) (hb : Below w.heap.size w w') : StepAt w' a s := by
  obtain ⟨h0, h1, h2, h3, h4⟩ := h
  exact ⟨by rw [hb.cell (cell_lt h0)]; exact h0, by rw [hb.cell (cell_lt h1)]; exact h1, by rw [hb.cell (cell_lt h2)]; exact h2, by rw [hb.cell (cell_lt h3)]; exact h3, h4.below hb⟩
theorem step_cells {w : World} {b off : Nat} {s : StepV} (h : StepAt w ⟨b, off, none⟩ s) :
    w.cell? ⟨b, off, none⟩ = some (.int .i64 s.k) ∧ w.cell? ⟨b, off + 1, none⟩ = some (.string s.t) ∧ w.cell? ⟨b, off + 2, none⟩ = some (.slice s.ao s.xs.length s.cp) ∧ w.cell? ⟨b, off + 3, none⟩ = some (.bool s.near) := by
  obtain ⟨h0, h1, h2, h3, _⟩ := h
  rw [Addr.add_lit] at h0 h1 h2 h3
  exact ⟨h0, h1, h2, h3⟩
/-- Both tables again where the reference's has stayed. -/
theorem mid_two {w0 w : World} {tb mb rb : Nat} {N : List Nd} (h : Mid w0 w tb mb rb N N) (hN : OkN N) : Two w0 w tb mb rb N := ⟨h.prog, h.ref, hN⟩
theorem mid_as {w0 w : World} {tb mb rb : Nat} {N M : List Nd} (h : Mid w0 w tb mb rb N M) (e : M = N) : Mid w0 w tb mb rb N N := by subst e; exact h
theorem size_is {w0 w : World} {tb mb rb : Nat} {N : List Nd} (h : Two w0 w tb mb rb N) : Calls Try.prog 20 #[.pointer (some ⟨tb, 0, none⟩)] w fun e w' => e = .returned (.int .i64 (N.length : Int)) ∧ w = w' := by
  obtain ⟨tv, tx⟩ := h.prog.tab
  exact Tab.size tx.at

set_option maxRecDepth 20000 in
set_option maxHeartbeats 8000000 in
theorem walk {w : World} {v : Value} {l : List StepV} (h : Steps w v l) :
    Calls Try.prog 4 #[v] w fun e w' => e = .returned (.bool true) ∧ Below w.heap.size w w' := by
  obtain ⟨ao, cap, rfl, hl1, hl2, hl3, hst⟩ := h
  unfold maxLen at hl2
  by_cases hbig : 60 < l.length
  · have t1 : decide ((60 : Int) < (l.length : Int)) = true := decide_eq_true (by omega)
    clear hbig hst
    go_enter Try.func4, Try.ntmps4
    go_wp2_with fail
    go_ret
    exact ⟨rfl, Below.refl _ _⟩
  · have t1 : decide ((60 : Int) < (l.length : Int)) = false := decide_eq_false (by omega)
    have HL := Lib.hid (show l.length ≤ 60 by omega)
    have HST := Lib.hid hst
    clear hbig hst
    go_enter Try.func4, Try.ntmps4
    go_wp2_with fail
    refine (St.new w).mono ?_
    rintro e w1 ⟨tb, mb, rfl, s1⟩
    have hT0 := two_new s1
    clear s1
    go_wp2_with fail
    go_loopw [5] (fun i wr => ∃ (j : Nat) (N : List Nd), j ≤ l.length ∧ i = .int .i64 j ∧ Two w wr tb mb w1.heap.size N ∧ N.length ≤ j ∧ Low N) (fun i _ => l.length - (intOf i).toNat)
    case atStart => exact ⟨0, [], Nat.zero_le _, rfl, hT0, Nat.le_refl _, Low.nil⟩
    case round =>
      obtain ⟨j, N, hj, rfl, hT, hN, hlow⟩ := hrel
      have HLOW := Lib.hid hlow
      clear hlow
      by_cases hlt : j < l.length
      · obtain ⟨s, hs⟩ : ∃ s, l[j]? = some s := ⟨l[j], List.getElem?_eq_getElem hlt⟩
        cases ao with
        | none => have := hl3 rfl; omega
        | some a =>
          have hsa := HST.out a rfl j s hs
          obtain ⟨b, off, spot⟩ := a
          have hsp : spot = none := by
            have := (HST.out _ rfl 0 l[0] (List.getElem?_eq_getElem (by omega))).1
            simpa [Addr.add] using World.cell?_spot this
          subst hsp
          rw [Addr.add_lit] at hsa
          have hsr := step_below hsa hT.prog.bel
          obtain ⟨c0, c1, c2, c3⟩ := step_cells hsr
          have HSA := Lib.hid hsa
          have hrd := hsr.2.2.2.2
          have HBR := Lib.hid hT.prog.bel
          have HT := Lib.hid hT
          have hi : (j : Int) < (l.length : Int) := by omega
          obtain ⟨k, t, sao, cp, xs, near⟩ := s
          simp only at c0 c1 c2 c3 hrd
          clear hs hsa hsr hT hT0
          by_cases ht : 100 < t.size
          · have q1 : decide ((100 : Int) < (t.size : Int)) = true := decide_eq_true (by omega)
            clear hrd ht
            go_wp2_with fail
            go_ret
            exact ⟨rfl, HBR.out⟩
          · have q1 : decide ((100 : Int) < (t.size : Int)) = false := decide_eq_false (by omega)
            by_cases hx : 20 < xs.length
            · have q2 : decide ((20 : Int) < (xs.length : Int)) = true := decide_eq_true (by omega)
              clear hrd ht hx
              go_wp2_with fail
              go_ret
              exact ⟨rfl, HBR.out⟩
            · have q2 : decide ((20 : Int) < (xs.length : Int)) = false := decide_eq_false (by omega)
              have HTS := Lib.hid (show t.size ≤ 100 by omega)
              have HXL := Lib.hid (show xs.length ≤ 20 by omega)
              have HNL := Lib.hid (show N.length ≤ 60 by have := HL.out; omega)
              have HRD := Lib.hid hrd
              have hj60 : j ≤ 60 := by have := HL.out; omega
              have HJ := Lib.hid hj
              have HN := Lib.hid hN
              clear hrd ht hx hl1 hl2 hl3 hj hN
              go_wp2_with fail
              have hsz := fun n => size_is (w := wr.drewN n) (HT.out.keep (below_drewN (Below.refl _ _) n))
              have hpa := fun n => parts_any (w := wr.drewN n) (k := k) (t := t) (near := near) (N.length : Int) (HRD.out.below (below_drewN (Below.refl _ _) n)) (by have := HXL.out; omega) (by omega) (by have := HNL.out; omega)
              go_region_with (first | (go_at_call 20; refine (hsz 1).mono ?_; rintro e w2 ⟨rfl, rfl⟩) | (go_at_call 24; refine (hpa 1).mono ?_; rintro e w3 ⟨u, rfl, ho3, hb3⟩))
              all_goals
                clear hsz hpa
                obtain ⟨au, cu, rfl, _, _⟩ := own_shape ho3
                have HO3 := Lib.hid ho3
                have HT3 := Lib.hid ((HT.out.keep (below_drewN (Below.refl _ _) 1)).keep hb3)
                have hs3 := step_below HSA.out HT3.out.prog.bel
                obtain ⟨e0, e1, e2, e3⟩ := step_cells hs3
                simp only at e0 e1 e2 e3
                have hd := do_any HT3.out (by have := HNL.out; omega) k t (by have := HTS.out; omega) near hs3.2.2.2.2 (by have := HXL.out; exact this)
                have HSL := Lib.hid (stepParts_len near (N.length : Int) xs)
                have HAG1 : Hid (k = 1 → textN (doN N k t near xs).2 t = ((doN N k t near xs).1, (doN N k t near xs).2)) := Lib.hid (fun hk => by unfold doN; rw [if_pos hk]; exact (text_again HT.out.ok t).1)
                have HAG2 : Hid (k ≠ 1 → k ≠ 2 → (doN N k t near xs).1 ≠ 0 → makeN (doN N k t near xs).2 k (stepParts near (N.length : Int) xs) = ((doN N k t near xs).1, (doN N k t near xs).2)) := Lib.hid (fun h1 h2 h0 => by unfold doN at h0 ⊢; rw [if_neg h1, if_neg h2] at h0 ⊢; exact (make_again HT.out.ok HLOW.out k _ h0).1)
                have HLOW5 := Lib.hid (HLOW.out.do HT.out.ok k t near xs)
                have HRG := Lib.hid (do_range N k t near xs)
                have HLN := Lib.hid (show (doN N k t near xs).2.length ≤ j + 1 by have := (doN_len N k t near xs).2; have := HN.out; omega)
                clear ho3 hb3 c0 c1 c2 c3 hs3
                go_wp2_with fail
                refine hd.mono ?_
                rintro e w5 ⟨rfl, t5, k5⟩
                clear hd e0 e1 e2 e3
                have HP5 := Lib.hid ((Rd.of_own (own_kept k5 HO3.out)).1)
                have HT5 := Lib.hid t5
                clear t5 k5 HO3
                generalize doN N k t near xs = D at *
                generalize stepParts near (N.length : Int) xs = ps at *
                have hs5 := step_below HSA.out HT5.out.prog.bel
                obtain ⟨e0, e1, e2, e3⟩ := step_cells hs5
                simp only at e0 e1 e2 e3
                clear hs5 e2 e3
                go_wp2_with fail
                refine (size_is HT5.out).mono ?_
                rintro e w6 ⟨rfl, rfl⟩
                have hq3 : (D.1 != D.1) = false := by simp
                have hq4 : ((D.2.length : Int) != (D.2.length : Int)) = false := by simp
                by_cases hz : D.1 = 0
                · have z1 : (D.1 == 0) = true := by simp [hz]
                  have HZ := Lib.hid hz
                  clear hz
                  obtain ⟨tv, tx⟩ := HT5.out.prog.tab
                  have c1 := Tab.look_no tx.at D.1 (by have := HZ.out; omega)
                  clear tx
                  go_wp2_with fail
                  refine c1.mono ?_
                  rintro e w7 ⟨rfl, b7⟩
                  have HT7 := Lib.hid (HT5.out.keep (b7.trans ((below_alloc w7 (.cells #[.int .i64 0, .string ByteArray.empty, .slice none 0 0] 38)).mono b7.size)))
                  clear b7 c1
                  go_wp2_with fail
                  refine wp_loop_rounds 1 ?_
                  rw [rounds_succ]
                  go_wp2_with fail
                  go_roundw
                  case rel => exact ⟨j + 1, D.2, (by omega), by go_num, HT7.out, HLN.out, HLOW5.out⟩
                  case measure => simp [intOf]; omega
                · have z1 : (D.1 == 0) = false := beq_eq_false_iff_ne.2 hz
                  have HZ := Lib.hid hz
                  clear hz
                  by_cases hk1 : k = 1
                  · have z2 : (k == 1) = true := by simp [hk1]
                    have HK := Lib.hid hk1
                    clear hk1
                    obtain ⟨v6, w6, hv6, hr6, hb6⟩ := conv_str w5 t (by have := HTS.out; unfold maxLen; omega)
                    have c1 := (HT5.out.keep hb6).textP hr6 (by rw [sbytes_len]; have := HTS.out; omega) (by have := HLN.out; omega)
                    rw [bstr_sbytes, HAG1.out HK.out] at c1
                    have HB6 := Lib.hid hb6
                    clear hr6 hb6
                    go_wp2_with fail
                    refine c1.mono ?_
                    rintro e w7 ⟨rfl, m7, _⟩
                    have HT7 := Lib.hid (mid_two m7 HT5.out.ok)
                    clear m7 c1
                    go_wp2_with fail
                    refine (size_is HT7.out).mono ?_
                    rintro e w8 ⟨rfl, rfl⟩
                    have HTz := HT7
                    clear HT7 HK HB6 hv6 e0 e1
                    obtain ⟨q, hq, hqe⟩ := place D.1 D.2.length (by have := HRG.out; have := HZ.out; omega) (by have := HRG.out; have := HZ.out; omega)
                    obtain ⟨n, hn⟩ : ∃ n, D.2[q]? = some n := ⟨D.2[q], List.getElem?_eq_getElem hq⟩
                    obtain ⟨tv, tx⟩ := HTz.out.prog.tab
                    have c1 := Tab.look tx.at q n hn
                    rw [← hqe] at c1
                    have hok := (HTz.out.ok n (List.mem_of_getElem? hn)).1
                    have hn16 : n.2.2.length ≤ 16 := hok.2.2.1
                    have HPB : Hid (∀ m, m < n.2.2.length → decide (D.1 ≤ n.2.2.getD m 0) = false ∧ decide (n.2.2.getD m 0 < 1) = false) := Lib.hid (fun m hm => by
                      have hmem : n.2.2.getD m 0 ∈ n.2.2 := by rw [List.getD_eq_getElem?_getD, List.getElem?_eq_getElem hm]; exact List.getElem_mem hm
                      have h1 := (hok.2.2.2.1 _ hmem).1
                      have h2 := HLOW5.out q n hn _ hmem
                      exact ⟨decide_eq_false (by omega), decide_eq_false (by omega)⟩)
                    clear tx hok hn hq hqe
                    go_wp2_with fail
                    refine c1.mono ?_
                    rintro e w9 ⟨pv, rfl, ho9, b9⟩
                    obtain ⟨a9, c9, rfl, _, _⟩ := own_shape ho9
                    have HT9 := Lib.hid (HTz.out.keep (b9.trans ((below_alloc w9 (.cells #[.int .i64 n.1, .string n.2.1, .slice a9 n.2.2.length c9] 38)).mono b9.size)))
                    have HO9 := Lib.hid ho9
                    clear b9 c1 ho9
                    go_wp2_with fail
                    go_loop [12] (fun i => ∃ m : Nat, m ≤ n.2.2.length ∧ i = .int .i64 m) (fun i => n.2.2.length - (intOf i).toNat)
                    case atStart => exact ⟨0, Nat.zero_le _, rfl⟩
                    case round =>
                      obtain ⟨m, hm, rfl⟩ := hrel
                      have hbx := heap_alloc_new w9 (.cells #[.int .i64 n.1, .string n.2.1, .slice a9 n.2.2.length c9] 38)
                      have b2 : (w9.alloc (.cells #[.int .i64 n.1, .string n.2.1, .slice a9 n.2.2.length c9] 38)).cell? ⟨w9.heap.size, 2, none⟩ = some (.slice a9 n.2.2.length c9) := (cell_of_row _ w9.heap.size 2 _ 38 (0, 0) hbx).trans rfl
                      clear hbx
                      by_cases hml : m < n.2.2.length
                      · obtain ⟨g, c9', e9, _, hc1, hc2, hg, _, hcell⟩ := own_cell_of HO9.out (by omega)
                        cases e9
                        have hx : (w9.alloc (.cells #[.int .i64 n.1, .string n.2.1, .slice (some ⟨g, 0, none⟩) n.2.2.length c9] 38)).cell? ⟨g, m, none⟩ = some (.int .i64 (n.2.2.getD m 0)) := by rw [(below_alloc w9 _).cell hg]; exact hcell m hml
                        obtain ⟨r1, r2⟩ := HPB.out m hml
                        have hmi : (m : Int) < (n.2.2.length : Int) := by omega
                        clear hcell
                        generalize n.2.2.getD m 0 = pp at *
                        go_wp2_with fail
                        go_round
                        case rel => exact ⟨m + 1, by omega, by go_num⟩
                        case measure => simp [intOf]; omega
                      · have hmi : ¬ ((m : Int) < (n.2.2.length : Int)) := by omega
                        go_wp2_with fail
                        go_roundw
                        case rel => exact ⟨j + 1, D.2, by omega, by go_num, HT9.out, HLN.out, HLOW5.out⟩
                        case measure => simp [intOf]; omega
                  · have z2 : (k == 1) = false := beq_eq_false_iff_ne.2 hk1
                    by_cases hk2 : k = 2
                    · have z3 : (k != 2) = false := by simp [hk2]
                      clear hk1 hk2
                      have HTz := HT5
                      clear HT5 HAG1 HAG2
                      obtain ⟨q, hq, hqe⟩ := place D.1 D.2.length (by have := HRG.out; have := HZ.out; omega) (by have := HRG.out; have := HZ.out; omega)
                      obtain ⟨n, hn⟩ : ∃ n, D.2[q]? = some n := ⟨D.2[q], List.getElem?_eq_getElem hq⟩
                      obtain ⟨tv, tx⟩ := HTz.out.prog.tab
                      have c1 := Tab.look tx.at q n hn
                      rw [← hqe] at c1
                      have hok := (HTz.out.ok n (List.mem_of_getElem? hn)).1
                      have hn16 : n.2.2.length ≤ 16 := hok.2.2.1
                      have HPB : Hid (∀ m, m < n.2.2.length → decide (D.1 ≤ n.2.2.getD m 0) = false ∧ decide (n.2.2.getD m 0 < 1) = false) := Lib.hid (fun m hm => by
                        have hmem : n.2.2.getD m 0 ∈ n.2.2 := by rw [List.getD_eq_getElem?_getD, List.getElem?_eq_getElem hm]; exact List.getElem_mem hm
                        have h1 := (hok.2.2.2.1 _ hmem).1
                        have h2 := HLOW5.out q n hn _ hmem
                        exact ⟨decide_eq_false (by omega), decide_eq_false (by omega)⟩)
                      clear tx hok hn hq hqe
                      go_wp2_with fail
                      refine c1.mono ?_
                      rintro e w9 ⟨pv, rfl, ho9, b9⟩
                      obtain ⟨a9, c9, rfl, _, _⟩ := own_shape ho9
                      have HT9 := Lib.hid (HTz.out.keep (b9.trans ((below_alloc w9 (.cells #[.int .i64 n.1, .string n.2.1, .slice a9 n.2.2.length c9] 38)).mono b9.size)))
                      have HO9 := Lib.hid ho9
                      clear b9 c1 ho9
                      go_wp2_with fail
                      go_loop [12] (fun i => ∃ m : Nat, m ≤ n.2.2.length ∧ i = .int .i64 m) (fun i => n.2.2.length - (intOf i).toNat)
                      case atStart => exact ⟨0, Nat.zero_le _, rfl⟩
                      case round =>
                        obtain ⟨m, hm, rfl⟩ := hrel
                        have hbx := heap_alloc_new w9 (.cells #[.int .i64 n.1, .string n.2.1, .slice a9 n.2.2.length c9] 38)
                        have b2 : (w9.alloc (.cells #[.int .i64 n.1, .string n.2.1, .slice a9 n.2.2.length c9] 38)).cell? ⟨w9.heap.size, 2, none⟩ = some (.slice a9 n.2.2.length c9) := (cell_of_row _ w9.heap.size 2 _ 38 (0, 0) hbx).trans rfl
                        clear hbx
                        by_cases hml : m < n.2.2.length
                        · obtain ⟨g, c9', e9, _, hc1, hc2, hg, _, hcell⟩ := own_cell_of HO9.out (by omega)
                          cases e9
                          have hx : (w9.alloc (.cells #[.int .i64 n.1, .string n.2.1, .slice (some ⟨g, 0, none⟩) n.2.2.length c9] 38)).cell? ⟨g, m, none⟩ = some (.int .i64 (n.2.2.getD m 0)) := by rw [(below_alloc w9 _).cell hg]; exact hcell m hml
                          obtain ⟨r1, r2⟩ := HPB.out m hml
                          have hmi : (m : Int) < (n.2.2.length : Int) := by omega
                          clear hcell
                          generalize n.2.2.getD m 0 = pp at *
                          go_wp2_with fail
                          go_round
                          case rel => exact ⟨m + 1, by omega, by go_num⟩
                          case measure => simp [intOf]; omega
                        · have hmi : ¬ ((m : Int) < (n.2.2.length : Int)) := by omega
                          go_wp2_with fail
                          go_roundw
                          case rel => exact ⟨j + 1, D.2, by omega, by go_num, HT9.out, HLN.out, HLOW5.out⟩
                          case measure => simp [intOf]; omega
                    · have z3 : (k != 2) = true := bne_iff_ne.2 hk2
                      have HK := Lib.hid (HAG2.out hk1 hk2 HZ.out)
                      clear hk1 hk2
                      have c2 := terms_any (w := w5.drew) (HP5.out.below (Below.refl _ _).drew) (by have := HSL.out; have := HXL.out; omega)
                      have HE0 := Lib.hid (show w5.drew.cell? ⟨b, off + j * 4, none⟩ = some (.int .i64 k) from e0)
                      rw [HSL.out] at c2
                      go_wp2_with fail
                      go_region_with (first
                        | (go_at_call 27; refine c2.mono ?_; rintro e w7 ⟨u7, rfl, ho7, hb7⟩; have e0' : w7.cell? ⟨b, off + j * 4, none⟩ = some (.int .i64 k) := (hb7.cell (cell_lt HE0.out)).trans HE0.out; have c3 := (Two.keep (w := w5.drew) (HT5.out.keep (Below.refl _ _).drew) hb7).makeP k (ps := ps) (len_rd ho7 HSL.out) (by have := HSL.out; have := HXL.out; omega) (by have := HLN.out; omega); rw [HK.out] at c3)
                        | (go_at_call 26; refine c3.mono ?_; rintro e w8 ⟨rfl, m8, _⟩)
                        | (go_at_call 20; refine (size_is (mid_two m8 HT5.out.ok)).mono ?_; rintro e w9 ⟨rfl, rfl⟩))
                      all_goals
                        have HTz := Lib.hid (mid_two m8 HT5.out.ok)
                        clear m8 ho7 hb7 HE0 e0 e1 e0' HK
                        obtain ⟨q, hq, hqe⟩ := place D.1 D.2.length (by have := HRG.out; have := HZ.out; omega) (by have := HRG.out; have := HZ.out; omega)
                        obtain ⟨n, hn⟩ : ∃ n, D.2[q]? = some n := ⟨D.2[q], List.getElem?_eq_getElem hq⟩
                        obtain ⟨tv, tx⟩ := HTz.out.prog.tab
                        have c1 := Tab.look tx.at q n hn
                        rw [← hqe] at c1
                        have hok := (HTz.out.ok n (List.mem_of_getElem? hn)).1
                        have hn16 : n.2.2.length ≤ 16 := hok.2.2.1
                        have HPB : Hid (∀ m, m < n.2.2.length → decide (D.1 ≤ n.2.2.getD m 0) = false ∧ decide (n.2.2.getD m 0 < 1) = false) := Lib.hid (fun m hm => by
                          have hmem : n.2.2.getD m 0 ∈ n.2.2 := by rw [List.getD_eq_getElem?_getD, List.getElem?_eq_getElem hm]; exact List.getElem_mem hm
                          have h1 := (hok.2.2.2.1 _ hmem).1
                          have h2 := HLOW5.out q n hn _ hmem
                          exact ⟨decide_eq_false (by omega), decide_eq_false (by omega)⟩)
                        clear tx hok hn hq hqe
                        go_wp2_with fail
                        refine c1.mono ?_
                        rintro e w9 ⟨pv, rfl, ho9, b9⟩
                        obtain ⟨a9, c9, rfl, _, _⟩ := own_shape ho9
                        have HT9 := Lib.hid (HTz.out.keep (b9.trans ((below_alloc w9 (.cells #[.int .i64 n.1, .string n.2.1, .slice a9 n.2.2.length c9] 38)).mono b9.size)))
                        have HO9 := Lib.hid ho9
                        clear b9 c1 ho9
                        go_wp2_with fail
                        go_loop [12] (fun i => ∃ m : Nat, m ≤ n.2.2.length ∧ i = .int .i64 m) (fun i => n.2.2.length - (intOf i).toNat)
                        case atStart => exact ⟨0, Nat.zero_le _, rfl⟩
                        case round =>
                          obtain ⟨m, hm, rfl⟩ := hrel
                          have hbx := heap_alloc_new w9 (.cells #[.int .i64 n.1, .string n.2.1, .slice a9 n.2.2.length c9] 38)
                          have b2 : (w9.alloc (.cells #[.int .i64 n.1, .string n.2.1, .slice a9 n.2.2.length c9] 38)).cell? ⟨w9.heap.size, 2, none⟩ = some (.slice a9 n.2.2.length c9) := (cell_of_row _ w9.heap.size 2 _ 38 (0, 0) hbx).trans rfl
                          clear hbx
                          by_cases hml : m < n.2.2.length
                          · obtain ⟨g, c9', e9, _, hc1, hc2, hg, _, hcell⟩ := own_cell_of HO9.out (by omega)
                            cases e9
                            have hx : (w9.alloc (.cells #[.int .i64 n.1, .string n.2.1, .slice (some ⟨g, 0, none⟩) n.2.2.length c9] 38)).cell? ⟨g, m, none⟩ = some (.int .i64 (n.2.2.getD m 0)) := by rw [(below_alloc w9 _).cell hg]; exact hcell m hml
                            obtain ⟨r1, r2⟩ := HPB.out m hml
                            have hmi : (m : Int) < (n.2.2.length : Int) := by omega
                            clear hcell
                            generalize n.2.2.getD m 0 = pp at *
                            go_wp2_with fail
                            go_round
                            case rel => exact ⟨m + 1, by omega, by go_num⟩
                            case measure => simp [intOf]; omega
                          · have hmi : ¬ ((m : Int) < (n.2.2.length : Int)) := by omega
                            go_wp2_with fail
                            go_roundw
                            case rel => exact ⟨j + 1, D.2, by omega, by go_num, HT9.out, HLN.out, HLOW5.out⟩
                            case measure => simp [intOf]; omega
      · obtain rfl : j = l.length := by omega
        clear hT0
        have HT := Lib.hid hT
        clear hT hN
        go_wp2_with fail
        refine (awake_any wr).mono ?_
        rintro e w3 ⟨rfl, b3⟩
        go_wp2_with fail
        go_ret
        exact ⟨rfl, HT.out.prog.bel.trans (b3.mono HT.out.prog.bel.size)⟩
#print axioms walk
end Go.Proofs.Ytbhfilmbokaboaa.twice
