/- The reference's own function same: are two terms? -/
import Derived.Test.YtbhfilmbokaboaaParts
import Derived.Deep.QuietTactic
import Derived.BigQuiet
import Derived.Laws.Strings
namespace Go.Proofs.Ytbhfilmbokaboaa
open Go Go.RowKit

def sameN (n m : Nd) : Bool := !decide (n.1 = 2) && decide (n.1 = m.1) && decide (n.2.1 = m.2.1) && decide (n.2.2 = m.2.2)

theorem bytes_inj {a b : ByteArray} (h : a.toList = b.toList) : a = b := by
  rw [Go.ByteArray.toList_eq, Go.ByteArray.toList_eq] at h
  cases a; cases b
  simpa using h
set_option maxHeartbeats 2000000 in
set_option maxRecDepth 20000 in
theorem same_any {w : World} {k1 k2 : Int} {t1 t2 : ByteArray} {v1 v2 : Value} {xs ys : List Int} (h1 : Rd .i64 w v1 xs) (h2 : Rd .i64 w v2 ys) :
    Calls Try.prog 90 #[.agg #[.int .i64 k1, .string t1, v1], .agg #[.int .i64 k2, .string t2, v2]] w fun e w' => e = .returned (.bool (sameN (k1, t1, xs) (k2, t2, ys))) ∧ Below w.heap.size w w' := by
  have h1' := h1
  have h2' := h2
  obtain ⟨ao1, cap1, rfl, _, _, _, _⟩ := h1'
  obtain ⟨ao2, cap2, rfl, _, _, _, _⟩ := h2'
  have hX := heap_alloc2_old w (.cells #[.int .i64 k1, .string t1, .slice ao1 xs.length cap1] 43) (.cells #[.int .i64 k2, .string t2, .slice ao2 ys.length cap2] 43)
  have hY := heap_alloc2_new w (.cells #[.int .i64 k1, .string t1, .slice ao1 xs.length cap1] 43) (.cells #[.int .i64 k2, .string t2, .slice ao2 ys.length cap2] 43)
  have hB := (below_alloc w (.cells #[.int .i64 k1, .string t1, .slice ao1 xs.length cap1] 43)).trans ((below_alloc _ (.cells #[.int .i64 k2, .string t2, .slice ao2 ys.length cap2] 43)).mono (by simp))
  have HX := Lib.hid hX
  have HY := Lib.hid hY
  clear hX hY
  have fin : ∀ b, sameN (k1, t1, xs) (k2, t2, ys) = b → ∀ w', Below w.heap.size w w' → (Ending.returned (.bool b) = .returned (.bool (sameN (k1, t1, xs) (k2, t2, ys))) ∧ Below w.heap.size w w') := fun b e w' hb => ⟨by rw [e], hb⟩
  by_cases c1 : k1 = 2
  · subst c1
    go_enter Try.func90, Try.ntmps90
    go_wp2_with fail
    go_ret
    exact fin _ (by simp [sameN]) _ hB
  · have c1' : (k1 == 2) = false := beq_eq_false_iff_ne.2 c1
    have HC1 := Lib.hid c1
    clear c1
    by_cases c2 : k1 = k2
    · subst c2
      by_cases c3 : t1 = t2
      · subst c3
        by_cases c4 : xs.length = ys.length
        · have c4' : ((xs.length : Int) != (ys.length : Int)) = false := by simp [c4]
          have HC4 := Lib.hid c4
          clear c4
          have g1 := (h1.alloc (.cells #[.int .i64 k1, .string t1, .slice ao1 xs.length cap1] 43)).alloc (.cells #[.int .i64 k1, .string t1, .slice ao2 ys.length cap2] 43)
          have g2 := (h2.alloc (.cells #[.int .i64 k1, .string t1, .slice ao1 xs.length cap1] 43)).alloc (.cells #[.int .i64 k1, .string t1, .slice ao2 ys.length cap2] 43)
          have hS : ((w.alloc (.cells #[.int .i64 k1, .string t1, .slice ao1 xs.length cap1] 43)).alloc (.cells #[.int .i64 k1, .string t1, .slice ao2 ys.length cap2] 43)).heap.size = w.heap.size + 2 := by simp
          go_enter Try.func90, Try.ntmps90
          go_wp2_with fail
          generalize ((w.alloc (.cells #[.int .i64 k1, .string t1, .slice ao1 xs.length cap1] 43)).alloc (.cells #[.int .i64 k1, .string t1, .slice ao2 ys.length cap2] 43)) = W at *
          go_loopw [5] (fun i wr => ∃ j : Nat, j ≤ xs.length ∧ i = .int .i64 j ∧ xs.take j = ys.take j ∧ Below W.heap.size W wr) (fun i _ => xs.length - (intOf i).toNat)
          case atStart => exact ⟨0, Nat.zero_le _, rfl, rfl, Below.refl _ _⟩
          case round =>
            obtain ⟨j, hj, rfl, hT, hb⟩ := hrel
            have hX : wr.heap[w.heap.size]? = _ := (hb.block _ (by omega)).trans HX.out
            have hY : wr.heap[w.heap.size + 1]? = _ := (hb.block _ (by omega)).trans HY.out
            have x2 : wr.cell? ⟨w.heap.size, 2, none⟩ = some (.slice ao1 xs.length cap1) := by simp [World.cell?, hX]
            have y2 : wr.cell? ⟨w.heap.size + 1, 2, none⟩ = some (.slice ao2 ys.length cap2) := by simp [World.cell?, hY]
            clear hX hY
            have hBr := hB.trans (hb.mono (by omega))
            have HT := Lib.hid hT
            clear hT
            by_cases hlt : j < xs.length
            · have hlt' : (j : Int) < (xs.length : Int) := by omega
              have hlu' : (j : Int) < (ys.length : Int) := by have := HC4.out; omega
              have hlu : j < ys.length := by omega
              rcases (g1.below hb).cases with ⟨h0, _⟩ | ⟨b1, off1, e1, e, _, _, _, _, hc1⟩
              · rw [h0] at hlt; simp at hlt
              · cases e
                rcases (g2.below hb).cases with ⟨h0, _⟩ | ⟨b2, off2, e2, e, _, _, _, _, hc2⟩
                · rw [h0] at hlu; simp at hlu
                · cases e
                  have hx := hc1 j hlt
                  have hy := hc2 j hlu
                  have TX := Lib.hid (take_succ_getD xs j hlt)
                  have TY := Lib.hid (take_succ_getD ys j hlu)
                  have HF := Lib.hid fin
                  clear hc1 hc2 g1 g2 h1 h2 fin
                  generalize xs.getD j 0 = x at *
                  generalize ys.getD j 0 = y at *
                  by_cases hxy : x = y
                  · have hne : (x != y) = false := by simp [hxy]
                    have HXY := Lib.hid hxy
                    clear hxy
                    go_wp2_with fail
                    go_quiet (fail)
                    go_wp2_with fail
                    go_roundw
                    case rel => exact ⟨j + 1, by omega, by go_num, (by rw [TX.out, TY.out, HT.out, HXY.out]), below_drewN hb nq⟩
                    case measure => simp [intOf]; omega
                  · have hne : (x != y) = true := by simp [hxy]
                    have HXY := Lib.hid hxy
                    clear hxy
                    go_wp2_with fail
                    go_quiet (fail)
                    go_wp2_with fail
                    go_ret
                    refine HF.out false ?_ _ (below_drewN hBr nq)
                    have hne2 : xs ≠ ys := fun e => by
                      have e2 := TX.out
                      rw [e, TY.out, ← HT.out, e] at e2
                      exact HXY.out (List.singleton_inj.1 (List.append_cancel_left e2)).symm
                    simp [sameN, hne2]
            · obtain rfl : j = xs.length := by omega
              have hT : xs = ys := by
                have h3 := HT.out
                rw [List.take_length, HC4.out, List.take_length] at h3
                exact h3
              have hgo := fin true (by simp [sameN, hT, HC1.out]) wr hBr
              clear hT
              go_wp2_with fail
              go_ret
              exact hgo
        · have c4' : ((xs.length : Int) != (ys.length : Int)) = true := by simp; omega
          go_enter Try.func90, Try.ntmps90
          go_wp2_with fail
          go_ret
          exact fin _ (by simp [sameN]; intro _ e; rw [e] at c4; exact c4 rfl) _ hB
      · have c3' : ¬ t1.toList = t2.toList := fun e => c3 (bytes_inj e)
        have hf := fin false (by simp [sameN, c3]) _ hB
        clear c3 fin
        go_enter Try.func90, Try.ntmps90
        go_wp2_with fail
        go_ret
        exact hf
    · have c2' : (k1 != k2) = true := by simp [c2]
      go_enter Try.func90, Try.ntmps90
      go_wp2_with fail
      go_ret
      exact fin _ (by simp [sameN, c2]) _ hB
#print axioms same_any
end Go.Proofs.Ytbhfilmbokaboaa
