/- The law's own same tells whether two slices of bytes read alike; what ContainsFunc tells of bytes that are not 0. -/
import Derived.Test.YthgegjdmmjjffaaIdRead
namespace Go.Proofs.Ythgegjdmmjjffaa
open Go Go.RowKit

set_option maxRecDepth 20000 in
set_option maxHeartbeats 400000 in
theorem isame_any {w : World} {v1 v2 : Value} {xs ys : List Int} (h1 : Rd .u8 w v1 xs) (h2 : Rd .u8 w v2 ys) :
    Calls Try.prog 46 #[v1, v2] w fun e w' => e = .returned (.bool (decide (xs = ys))) ∧ Below w.heap.size w w' := by
  by_cases hl : xs.length = ys.length
  · have h1' := h1
    have h2' := h2
    obtain ⟨ao1, cap1, rfl, _⟩ := h1'
    obtain ⟨ao2, cap2, rfl, _⟩ := h2'
    have hne : ((xs.length : Int) != (ys.length : Int)) = false := by rw [hl]; simp
    go_enter Try.func46, Try.ntmps46
    go_wp2
    go_loopw [5] (fun i wr => ∃ k : Nat, k ≤ xs.length ∧ i = .int .i64 k ∧ xs.take k = ys.take k ∧ Below w.heap.size w wr) (fun i _ => xs.length - (intOf i).toNat)
    case atStart => exact ⟨0, Nat.zero_le _, rfl, rfl, Below.refl _ _⟩
    case round =>
      obtain ⟨k, hk, rfl, ht, hb⟩ := hrel
      by_cases hlt : k < xs.length
      · rcases (h1.below hb).cases with ⟨h0, _⟩ | ⟨b1, o1, c1, e1, _, _, _, _, hc1⟩
        · rw [h0] at hlt; simp at hlt
        rcases (h2.below hb).cases with ⟨h0, _⟩ | ⟨b2, o2, c2, e2, _, _, _, _, hc2⟩
        · rw [hl, h0] at hlt; simp at hlt
        cases e1
        cases e2
        have g1 := hc1 k hlt
        have g2 := hc2 k (by omega)
        have hi : (k : Int) < (xs.length : Int) := by omega
        have hi2 : (k : Int) < (ys.length : Int) := by omega
        have HX : Hid (xs.take (k + 1) = xs.take k ++ [xs.getD k 0]) := Lib.hid (by rw [List.take_succ_eq_append_getElem hlt]; simp [hlt])
        have HY : Hid (ys.take (k + 1) = ys.take k ++ [ys.getD k 0]) := Lib.hid (by rw [List.take_succ_eq_append_getElem (by omega)]; simp [show k < ys.length by omega])
        have HT := Lib.hid ht
        clear hc1 hc2 h1 h2 ht
        generalize xs.getD k 0 = x at *
        generalize ys.getD k 0 = y at *
        by_cases hxy : x = y
        · have hq : (x != y) = false := by rw [hxy]; simp
          go_wp2
          go_quiet (fail)
          go_wp2
          go_roundw
          case rel => exact ⟨k + 1, by omega, by go_num, (by rw [HX.out, HY.out, HT.out, hxy]), below_drewN hb nq⟩
          case measure => simp [intOf]; omega
        · have hq : (x != y) = true := bne_iff_ne.2 hxy
          have hne2 : decide (xs = ys) = false := decide_eq_false (fun e => hxy (by
            have h3 := HX.out
            rw [e, HY.out, ← e, HT.out] at h3
            simpa [eq_comm] using h3))
          have HNE := Lib.hid hne2
          clear hne2 hxy
          go_wp2
          go_quiet (fail)
          go_wp2
          go_ret
          exact ⟨by rw [HNE.out]; rfl, below_drewN hb nq⟩
      · have he : xs = ys := by
          rw [List.take_of_length_le (by omega), List.take_of_length_le (by omega)] at ht
          exact ht
        have HE := Lib.hid he
        clear he ht h1 h2
        go_wp2
        go_ret
        exact ⟨by rw [decide_eq_true HE.out]; rfl, hb⟩
  · have hne : ((xs.length : Int) != (ys.length : Int)) = true := by rw [bne_iff_ne]; omega
    have hn : decide (xs = ys) = false := decide_eq_false (fun e => hl (by rw [e]))
    rw [hn]
    obtain ⟨ao1, cap1, rfl, _⟩ := h1
    obtain ⟨ao2, cap2, rfl, _⟩ := h2
    clear hl hn
    go_enter Try.func46, Try.ntmps46
    go_wp2
    go_ret
    exact ⟨rfl, Below.refl _ _⟩

/-- Are all of them 0? -/
def allZero (zs : List Int) : Bool := zs.all fun z => z == 0
set_option maxRecDepth 20000 in
theorem isset_any (z : Int) (w : World) : Calls Try.prog 73 #[.int .u8 z] w fun e w' => e = .returned (.bool (z != 0)) ∧ w = w' := by
  go_enter Try.func73, Try.ntmps73
  go_wp2
  go_ret
  exact ⟨rfl, rfl⟩
set_option maxRecDepth 20000 in
set_option maxHeartbeats 400000 in
theorem indexfunc_any {w : World} {v : Value} {zs : List Int} (h : Rd .u8 w v zs) :
    Calls Try.prog 89 #[v, .func (.func 73) #[] #[]] w fun e w' => ∃ j : Int, e = .returned (.int .i64 j) ∧ decide (0 ≤ j) = !(allZero zs) ∧ w = w' := by
  have h' := h
  obtain ⟨ao, cap, rfl, _⟩ := h'
  go_enter Try.func89, Try.ntmps89
  go_wp2
  go_loopw [8] (fun i wr => ∃ k : Nat, k ≤ zs.length ∧ i = .int .i64 k ∧ allZero (zs.take k) = true ∧ w = wr) (fun i _ => zs.length - (intOf i).toNat)
  case atStart => exact ⟨0, Nat.zero_le _, rfl, rfl, rfl⟩
  case round =>
    obtain ⟨k, hk, rfl, ht, rfl⟩ := hrel
    by_cases hlt : k < zs.length
    · rcases h.cases with ⟨h0, _⟩ | ⟨b1, o1, c1, e1, _, _, _, _, hc1⟩
      · rw [h0] at hlt; simp at hlt
      cases e1
      have g1 := hc1 k hlt
      have hi : (k : Int) < (zs.length : Int) := by omega
      have HX : Hid (allZero (zs.take (k + 1)) = (zs.getD k 0 == 0)) := Lib.hid (by
        unfold allZero at ht ⊢
        rw [List.take_succ_eq_append_getElem hlt, List.all_append, ht]
        simp [hlt])
      have HA : Hid ((zs.getD k 0 == 0) = false → allZero zs = false) := Lib.hid (by
        intro hz
        unfold allZero
        rw [List.all_eq_false]
        refine ⟨zs[k], List.getElem_mem hlt, ?_⟩
        simpa [hlt] using hz)
      clear hc1 h ht
      generalize zs.getD k 0 = x at *
      have hcall := isset_any x w
      by_cases hx : x = 0
      · subst hx
        have hz : ((0 : Int) != 0) = false := rfl
        rw [hz] at hcall
        go_wp2_with (go_at_call 73; refine hcall.mono ?_; rintro e w' ⟨rfl, rfl⟩)
        go_roundw
        case rel => exact ⟨k + 1, by omega, by go_num, HX.out, trivial⟩
        case measure => simp [intOf]; omega
      · have hz : (x != 0) = true := bne_iff_ne.2 hx
        rw [hz] at hcall
        have HE : Hid (allZero zs = false) := Lib.hid (HA.out (beq_eq_false_iff_ne.2 hx))
        clear hx hz
        go_wp2_with (go_at_call 73; refine hcall.mono ?_; rintro e w' ⟨rfl, rfl⟩)
        go_ret
        exact ⟨k, rfl, by rw [HE.out]; simp, rfl⟩
    · have he : allZero zs = true := by
        rw [List.take_of_length_le (by omega)] at ht
        exact ht
      have HE := Lib.hid he
      clear he ht h
      go_wp2
      go_ret
      exact ⟨-1, rfl, by rw [HE.out]; decide, rfl⟩
set_option maxRecDepth 20000 in
theorem contains_any {w : World} {v : Value} {zs : List Int} (h : Rd .u8 w v zs) :
    Calls Try.prog 74 #[v, .func (.func 73) #[] #[]] w fun e w' => e = .returned (.bool (!(allZero zs))) ∧ w = w' := by
  have hc := indexfunc_any h
  clear h
  go_enter Try.func74, Try.ntmps74
  go_wp2_with (go_at_call 89; refine hc.mono ?_; rintro e w' ⟨j, rfl, hj, rfl⟩)
  go_ret
  exact ⟨by rw [← hj]; rfl, rfl⟩
#print axioms isame_any
#print axioms contains_any
end Go.Proofs.Ythgegjdmmjjffaa
