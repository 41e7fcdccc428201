/- The document's Right. -/
import Derived.Test.YtefcjggmlhoebaaDoorRPure
import Derived.Test.YtefcjggmlhoebaaDoorHApp
namespace Go.Proofs.YtefcjggmlhoebaaDoor
open Go Go.RowKit

theorem sz_zero (n : Int) : (sz n == 0) = !numBP n := by
  unfold numBP
  rcases sz_cases n with ⟨h, _⟩ | ⟨_, _, k, h, hk, _⟩
  · rw [h]; rfl
  · rw [h]; rcases hk with rfl | rfl | rfl | rfl <;> rfl
theorem ver_split (n : Int) : verB n = (!decide (n < 1) && !decide (4294967295 < n)) := by
  unfold verB
  by_cases h1 : n < 1
  · rw [decide_eq_true h1, decide_eq_false (show ¬ 0 < n by omega)]; rfl
  · rw [decide_eq_false h1, decide_eq_true (show 0 < n by omega)]
    by_cases h2 : 4294967295 < n
    · rw [decide_eq_true h2, decide_eq_false (show ¬ n < 4294967296 by omega)]; rfl
    · rw [decide_eq_false h2, decide_eq_true (show n < 4294967296 by omega)]; rfl
theorem vers_long {l : List Int} (h : 16 < l.length) : versB l = false := decide_eq_false fun hc => by have := hc.1; omega
theorem right_noP {p : Pv} (h : numBP p.i = false ∨ numBP p.d = false ∨ verB p.c = false ∨ versB p.l = false) : rightP p = false := by
  unfold rightP
  rcases h with h | h | h | h <;> rw [h] <;> simp
theorem in_take {l : List Int} {k : Nat} (h : k < l.length) (n : Int) : inB (l.take (k + 1)) n = (inB (l.take k) n || (l.getD k 0 == n)) := by
  have e : l.getD k 0 = l[k] := by simp [h]
  unfold inB
  rw [List.take_succ_eq_append_getElem h, e, Bool.eq_iff_iff]
  simp only [decide_eq_true_eq, List.mem_append, List.mem_singleton, Bool.or_eq_true, beq_iff_eq]
  exact or_congr Iff.rfl ⟨Eq.symm, Eq.symm⟩
theorem in_more {l : List Int} {k j : Nat} {x : Int} (hj : j < k) (hk : k < l.length) (hx : l.getD j 0 = x) : inB (l.take k) x = true := by
  unfold inB
  refine decide_eq_true ?_
  have e : l.getD j 0 = l[j] := by simp [show j < l.length by omega]
  rw [← hx, e, List.mem_take_iff_getElem]
  exact ⟨j, by omega, rfl⟩
theorem bl_drN {b : Nat} {w0 w : World} (h : Below b w0 w) : ∀ n, Below b w0 (w.drewN n)
  | 0 => h
  | n + 1 => (bl_drN h n).drew
set_option maxRecDepth 20000 in
set_option maxHeartbeats 8000000 in
theorem refright_any {w : World} {p : Pv} {v5 v6 v7 v9 : Value} (h : Pr w p v5 v6 v7 v9) : Calls Tryd.prog 68 #[pAgg p v5 v6 v7 v9] w fun e w' => e = .returned (.bool (rightP p)) ∧ Below w.heap.size w w' := by
  obtain ⟨a5, k5, rfl⟩ := h.g.shape
  obtain ⟨a6, k6, rfl⟩ := h.o.shape
  obtain ⟨a7, k7, rfl⟩ := h.r.shape
  obtain ⟨a9, k9, rfl⟩ := h.l.shape
  have hll := h.l.len
  have HB := Lib.hid (below_alloc w (.cells (pCells p (.slice a5 p.g.length k5) (.slice a6 p.o.length k6) (.slice a7 p.r.length k7) (.slice a9 p.l.length k9)) 75))
  have HL := Lib.hid h.l
  have c0 := refsize_any p.i (w.alloc (.cells (pCells p (.slice a5 p.g.length k5) (.slice a6 p.o.length k6) (.slice a7 p.r.length k7) (.slice a9 p.l.length k9)) 75))
  have c1 := refsize_any p.d (w.alloc (.cells (pCells p (.slice a5 p.g.length k5) (.slice a6 p.o.length k6) (.slice a7 p.r.length k7) (.slice a9 p.l.length k9)) 75))
  have d0 := sz_zero p.i
  have d1 := sz_zero p.d
  have dv := ver_split p.c
  obtain ⟨q, hq⟩ : ∃ q, rightP p = q := ⟨_, rfl⟩
  have HQ := Lib.hid hq
  have HN := Lib.hid (@right_noP p)
  rw [hq]
  clear h hq
  generalize hsi : sz p.i = si at *
  generalize hsd : sz p.d = sd at *
  clear hsi hsd
  cases e0 : numBP p.i with
  | false =>
    rw [e0] at d0
    obtain rfl := HQ.out.symm.trans (HN.out (Or.inl e0))
    go_enter Tryd.func68, Tryd.ntmps68
    go_wp2_with (first | (go_at_call 24; refine c0.mono ?_; rintro e w' ⟨rfl, rfl⟩; clear c0) | (go_at_call 24; refine c1.mono ?_; rintro e w' ⟨rfl, rfl⟩; clear c1))
    go_ret
    exact ⟨rfl, HB.out⟩
  | true =>
    rw [e0] at d0
    cases e1 : numBP p.d with
    | false =>
      rw [e1] at d1
      obtain rfl := HQ.out.symm.trans (HN.out (Or.inr (Or.inl e1)))
      go_enter Tryd.func68, Tryd.ntmps68
      go_wp2_with (first | (go_at_call 24; refine c0.mono ?_; rintro e w' ⟨rfl, rfl⟩; clear c0) | (go_at_call 24; refine c1.mono ?_; rintro e w' ⟨rfl, rfl⟩; clear c1))
      go_ret
      exact ⟨rfl, HB.out⟩
    | true =>
      rw [e1] at d1
      cases e2 : decide (p.c < 1) with
      | true =>
        rw [e2] at dv
        have dv' : verB p.c = false := dv
        obtain rfl := HQ.out.symm.trans (HN.out (Or.inr (Or.inr (Or.inl dv'))))
        go_enter Tryd.func68, Tryd.ntmps68
        go_wp2_with (first | (go_at_call 24; refine c0.mono ?_; rintro e w' ⟨rfl, rfl⟩; clear c0) | (go_at_call 24; refine c1.mono ?_; rintro e w' ⟨rfl, rfl⟩; clear c1))
        go_ret
        exact ⟨rfl, HB.out⟩
      | false =>
        rw [e2] at dv
        cases e3 : decide (4294967295 < p.c) with
        | true =>
          rw [e3] at dv
          have dv' : verB p.c = false := dv
          obtain rfl := HQ.out.symm.trans (HN.out (Or.inr (Or.inr (Or.inl dv'))))
          go_enter Tryd.func68, Tryd.ntmps68
          go_wp2_with (first | (go_at_call 24; refine c0.mono ?_; rintro e w' ⟨rfl, rfl⟩; clear c0) | (go_at_call 24; refine c1.mono ?_; rintro e w' ⟨rfl, rfl⟩; clear c1))
          go_ret
          exact ⟨rfl, HB.out⟩
        | false =>
          rw [e3] at dv
          have dv' : verB p.c = true := dv
          by_cases hl : p.l.length ≤ 16
          · have e4 : decide ((16 : Int) < (p.l.length : Int)) = false := decide_eq_false (by omega)
            have hl' : (p.l.length : Int) ≤ 16 := by omega
            have HF : Hid (versB p.l = true → q = (nameB p.hg p.g.length && (nameB p.ho p.o.length && nameB p.hr p.r.length))) := Lib.hid (fun hv => by
              rw [← HQ.out]; unfold rightP; rw [e0, e1, dv', hv]; simp)
            have HV := Lib.hid (fun (h : versB p.l = false) => HQ.out.symm.trans (HN.out (Or.inr (Or.inr (Or.inr h)))))
            have HGA := Lib.hid (fun h => good_all (l := p.l) hl h)
            clear HQ HN dv dv' e0 e1 hl
            go_enter Tryd.func68, Tryd.ntmps68
            go_wp2_with (first | (go_at_call 24; refine c0.mono ?_; rintro e w' ⟨rfl, rfl⟩; clear c0) | (go_at_call 24; refine c1.mono ?_; rintro e w' ⟨rfl, rfl⟩; clear c1))
            have hcx := pcells (heap_alloc_new w (.cells (pCells p (.slice a5 p.g.length k5) (.slice a6 p.o.length k6) (.slice a7 p.r.length k7) (.slice a9 p.l.length k9)) 75))
            have hzX := HB.out
            obtain ⟨X, hX⟩ : ∃ X, X = (w.alloc (.cells (pCells p (.slice a5 p.g.length k5) (.slice a6 p.o.length k6) (.slice a7 p.r.length k7) (.slice a9 p.l.length k9)) 75)) := ⟨_, rfl⟩
            rw [← hX] at hcx hzX ⊢
            have HZX := Lib.hid hzX
            obtain ⟨x0, x1, x2, x3, x4, x5, x6, x7, x8, x9⟩ := hcx
            clear hX hzX HB
            go_loopw [3, 4] (fun i u wr => ∃ k m : Nat, k ≤ p.l.length ∧ i = .int .i64 k ∧ Good p.l k ∧ X.drewN m = wr) (fun i _ _ => p.l.length - (intOf i).toNat)
            case atStart => exact ⟨0, 0, by omega, rfl, Good.zero _, rfl⟩
            case round =>
              obtain ⟨k, m, hk, rfl, hgd, rfl⟩ := hrel
              have hk' : (k : Int) ≤ (p.l.length : Int) := by omega
              by_cases hlt : k < p.l.length
              · have hlt' : (k : Int) < (p.l.length : Int) := by omega
                obtain ⟨b, off, rfl, hx0⟩ := HL.out.cellAt hlt
                have hx : X.cell? ⟨b, off + k, none⟩ = _ := (HZX.out.cell (p := ⟨b, off + k, none⟩) (cell_lt hx0)).trans hx0
                have HG := Lib.hid (fun h1 h2 => hgd.succ hlt h1 h2)
                have HB1 := Lib.hid (fun h => bad_ver (l := p.l) hlt h)
                have HB2 := Lib.hid (fun h => bad_twice (l := p.l) hlt h)
                have HIM := Lib.hid (fun (j : Nat) (y : Int) (hj : j < k) (hy : p.l.getD j 0 = y) => in_more (l := p.l) hj hlt hy)
                clear hgd hx0
                generalize p.l.getD k 0 = x at hx HG HB1 HB2
                have dx := ver_split x
                cases g1 : decide (x < 1) with
                | true =>
                  rw [g1] at dx
                  obtain rfl := HV.out (HB1.out dx)
                  go_wp2_with fail
                  go_ret
                  exact ⟨rfl, bl_drN HZX.out m⟩
                | false =>
                  rw [g1] at dx
                  cases g2 : decide (4294967295 < x) with
                  | true =>
                    rw [g2] at dx
                    obtain rfl := HV.out (HB1.out dx)
                    go_wp2_with fail
                    go_ret
                    exact ⟨rfl, bl_drN HZX.out m⟩
                  | false =>
                    rw [g2] at dx
                    have HDX : Hid (verB x = true) := Lib.hid dx
                    clear dx
                    go_wp2_with fail
                    go_loopw [4] (fun u wr => ∃ j m : Nat, j ≤ k ∧ u = .int .i64 j ∧ inB (p.l.take j) x = false ∧ X.drewN m = wr) (fun u _ => k - (intOf u).toNat)
                    case atStart => exact ⟨0, m, by omega, rfl, by simp [inB], rfl⟩
                    case round =>
                      obtain ⟨j, m', hj, rfl, hin, rfl⟩ := hrel
                      have hj' : (j : Int) ≤ (k : Int) := by omega
                      by_cases hjt : j < k
                      · have hjt' : (j : Int) < (k : Int) := by omega
                        have hjl : (j : Int) < (p.l.length : Int) := by omega
                        obtain ⟨b2, off2, hv2, hy0⟩ := HL.out.cellAt (show j < p.l.length by omega)
                        simp only [Option.some.injEq, Addr.mk.injEq, and_true] at hv2
                        obtain ⟨rfl, rfl⟩ := hv2
                        have hy : X.cell? ⟨b, off + j, none⟩ = _ := (HZX.out.cell (p := ⟨b, off + j, none⟩) (cell_lt hy0)).trans hy0
                        have HT := Lib.hid (in_take (l := p.l) (show j < p.l.length by omega) x)
                        have HIJ := Lib.hid (fun y hy => HIM.out j y hjt hy)
                        clear hy0
                        obtain ⟨y, hye⟩ : ∃ y, p.l.getD j 0 = y := ⟨_, rfl⟩
                        rw [hye] at hy HT
                        have HYE := Lib.hid hye
                        clear hye
                        by_cases hxy : y = x
                        · subst hxy
                          obtain rfl := HV.out (HB2.out (HIJ.out _ HYE.out))
                          clear hin
                          go_wp2_with fail
                          go_quiet (fail)
                          go_wp2_with fail
                          go_ret
                          exact ⟨rfl, bl_drN (bl_drN HZX.out m') nq⟩
                        · have hxy' : (y == x) = false := beq_eq_false_iff_ne.2 hxy
                          have HI : Hid (inB (p.l.take (j + 1)) x = false) := Lib.hid (by rw [HT.out, hin, hxy']; rfl)
                          clear hxy hin
                          go_wp2_with fail
                          go_quiet (fail)
                          go_wp2_with fail
                          go_roundw
                          case rel => exact ⟨j + 1, m' + nq, by omega, by go_num, HI.out, rfl⟩
                          case measure => simp [intOf]; omega
                      · obtain rfl : j = k := by omega
                        have HG2 := Lib.hid (HG.out HDX.out hin)
                        clear hin
                        go_wp2_with fail
                        go_roundw
                        case rel => exact ⟨j + 1, m', by omega, by go_num, HG2.out, rfl⟩
                        case measure => simp [intOf]; omega
              · obtain rfl : k = p.l.length := by omega
                have hq := HF.out (HGA.out hgd)
                have n5 := fun w => refname_any w p.hg a5 p.g.length k5
                have n6 := fun w => refname_any w p.ho a6 p.o.length k6
                have n7 := fun w => refname_any w p.hr a7 p.r.length k7
                clear hgd HGA HF HV
                generalize nameB p.hg p.g.length = b5 at *
                generalize nameB p.ho p.o.length = b6 at *
                generalize nameB p.hr p.r.length = b7 at *
                cases b5
                · obtain rfl := hq
                  go_wp2_with (go_at_call 81; refine (n5 _).mono ?_; rintro e w' ⟨rfl, rfl⟩; clear n5)
                  go_ret
                  exact ⟨rfl, bl_drN HZX.out m⟩
                · cases b6
                  · obtain rfl := hq
                    go_wp2_with (first | (go_at_call 81; refine (n5 _).mono ?_; rintro e w' ⟨rfl, rfl⟩; clear n5) | (go_at_call 81; refine (n6 _).mono ?_; rintro e w' ⟨rfl, rfl⟩; clear n6))
                    go_ret
                    exact ⟨rfl, bl_drN HZX.out m⟩
                  · cases b7
                    · obtain rfl := hq
                      go_wp2_with (first | (go_at_call 81; refine (n5 _).mono ?_; rintro e w' ⟨rfl, rfl⟩; clear n5) | (go_at_call 81; refine (n6 _).mono ?_; rintro e w' ⟨rfl, rfl⟩; clear n6) | (go_at_call 81; refine (n7 _).mono ?_; rintro e w' ⟨rfl, rfl⟩; clear n7))
                      go_ret
                      exact ⟨rfl, bl_drN HZX.out m⟩
                    · obtain rfl := hq
                      go_wp2_with (first | (go_at_call 81; refine (n5 _).mono ?_; rintro e w' ⟨rfl, rfl⟩; clear n5) | (go_at_call 81; refine (n6 _).mono ?_; rintro e w' ⟨rfl, rfl⟩; clear n6) | (go_at_call 81; refine (n7 _).mono ?_; rintro e w' ⟨rfl, rfl⟩; clear n7))
                      go_ret
                      exact ⟨rfl, bl_drN HZX.out m⟩
          · have e4 : decide ((16 : Int) < (p.l.length : Int)) = true := decide_eq_true (by omega)
            have e5 := vers_long (l := p.l) (by omega)
            obtain rfl := HQ.out.symm.trans (HN.out (Or.inr (Or.inr (Or.inr e5))))
            go_enter Tryd.func68, Tryd.ntmps68
            go_wp2_with (first | (go_at_call 24; refine c0.mono ?_; rintro e w' ⟨rfl, rfl⟩; clear c0) | (go_at_call 24; refine c1.mono ?_; rintro e w' ⟨rfl, rfl⟩; clear c1))
            go_ret
            exact ⟨rfl, HB.out⟩
end Go.Proofs.YtefcjggmlhoebaaDoor
