/- law 7: are bytes alike? -/
import Derived.Test.YtmglhlfjddgllaaDoorHv
import Derived.Deep.QuietTactic
import Derived.BigQuiet
import Derived.Outline
namespace Go.Proofs.YtmglhlfjddgllaaDoor
open Go Go.RowKit
theorem below_drewN (w : World) : ∀ n, Below w.heap.size w (w.drewN n)
  | 0 => Below.refl _ _
  | n + 1 => (below_drewN w n).drew
theorem Rd.cellAt {w : World} {ao : Option Addr} {cap : Nat} {zs : List Int} (h : Rd w (.slice ao zs.length cap) zs) {j : Nat} (hj : j < zs.length) : ∃ b off, ao = some ⟨b, off, none⟩ ∧ w.cell? ⟨b, off + j, none⟩ = some (.int .u8 (zs.getD j 0)) := by
  obtain ⟨a2, c2, h1, h2, h3, h4, h5, h6⟩ := h
  simp only [Value.slice.injEq] at h1
  obtain ⟨rfl, _, rfl⟩ := h1
  cases ao with
  | none => have := h4 rfl; omega
  | some a =>
    obtain ⟨b, off, spot⟩ := a
    have h0 := h6 _ rfl 0 (by omega)
    have hs : spot = none := by simpa [Addr.add] using World.cell?_spot h0
    subst hs
    have := h6 _ rfl j hj
    rw [Addr.add_lit] at this
    exact ⟨b, off, rfl, this⟩
set_option maxRecDepth 20000 in
set_option maxHeartbeats 2000000 in
theorem same_any {w : World} {v1 v2 : Value} {zs ys : List Int} (h1 : Rd w v1 zs) (h2 : Rd w v2 ys) :
    Calls Tryd.prog 14 #[v1, v2] w fun e w' => e = .returned (.bool (decide (zs = ys))) ∧ Below w.heap.size w w' := by
  obtain ⟨a1, c1, rfl⟩ := h1.shape
  obtain ⟨a2, c2, rfl⟩ := h2.shape
  by_cases hl : zs.length = ys.length
  · have HZ := Lib.hid (And.intro h1 h2)
    have hz9 : zs.length ≤ 9223372036854775807 := by
      obtain ⟨_, _, e, q1, q2, _⟩ := h1
      unfold maxLen at q2
      omega
    have HL := Lib.hid hl
    rw [← hl]
    have hne : ((zs.length : Int) != (zs.length : Int)) = false := by simp
    obtain ⟨q, hq⟩ : ∃ q, q = decide (zs = ys) := ⟨_, rfl⟩
    rw [← hq]
    have HQ := Lib.hid hq
    clear h1 h2 hl hq
    go_enter Tryd.func14, Tryd.ntmps14
    go_wp2_with fail
    go_loopw [5] (fun i wr => ∃ k : Nat, k ≤ zs.length ∧ i = .int .i64 k ∧ Hid (zs.take k = ys.take k) ∧ Hid (Below w.heap.size w wr)) (fun i _ => zs.length - (intOf i).toNat)
    case atStart => exact ⟨0, Nat.zero_le _, rfl, Lib.hid rfl, Lib.hid (Below.refl _ _)⟩
    case round =>
      obtain ⟨k, hk, rfl, hT, hB⟩ := hrel
      by_cases hlt : k < zs.length
      · obtain ⟨b1, o1, rfl, e1⟩ := HZ.out.1.cellAt hlt
        obtain ⟨b2, o2, rfl, e2⟩ := HZ.out.2.cellAt (show k < ys.length by have := HL.out; omega)
        have g1 : wr.cell? ⟨b1, o1 + k, none⟩ = some (.int .u8 (zs.getD k 0)) := by rw [hB.out.cell (cell_lt e1)]; exact e1
        have g2 : wr.cell? ⟨b2, o2 + k, none⟩ = some (.int .u8 (ys.getD k 0)) := by rw [hB.out.cell (cell_lt e2)]; exact e2
        have hi : (k : Int) < (zs.length : Int) := by omega
        have HG : Hid (zs.take (k + 1) = zs.take k ++ [zs.getD k 0] ∧ ys.take (k + 1) = ys.take k ++ [ys.getD k 0]) := Lib.hid (by
          have hy : k < ys.length := by have := HL.out; omega
          constructor
          · rw [List.take_add_one, List.getElem?_eq_getElem hlt, List.getD_eq_getElem?_getD, List.getElem?_eq_getElem hlt]; simp
          · rw [List.take_add_one, List.getElem?_eq_getElem hy, List.getD_eq_getElem?_getD, List.getElem?_eq_getElem hy]; simp)
        generalize zs.getD k 0 = x at *
        generalize ys.getD k 0 = y at *
        clear e1 e2
        by_cases hxy : x = y
        · have t1 : (x != y) = false := by rw [hxy]; simp
          have HXY := Lib.hid hxy
          clear hxy
          go_wp2_with fail
          go_quiet (fail)
          go_wp2_with fail
          go_roundw
          case rel => exact ⟨k + 1, by omega, by go_num, Lib.hid (by rw [HG.out.1, HG.out.2, hT.out, HXY.out]), Lib.hid (hB.out.trans ((below_drewN wr nq).mono hB.out.size))⟩
          case measure => simp [intOf]; omega
        · have t1 : (x != y) = true := bne_iff_ne.2 hxy
          have hqf : q = false := by
            rw [HQ.out]
            refine decide_eq_false fun e => hxy ?_
            have h1 := HG.out.1
            rw [e, HG.out.2] at h1
            have := List.append_inj_right' h1 rfl
            exact ((List.cons.inj this).1).symm
          subst hqf
          clear hxy
          go_wp2_with fail
          go_quiet (fail)
          go_wp2_with fail
          go_ret
          exact ⟨rfl, hB.out.trans ((below_drewN wr _).mono hB.out.size)⟩
      · have hqt : q = true := by
          rw [HQ.out]
          refine decide_eq_true ?_
          have := hT.out
          rw [List.take_of_length_le (by omega), List.take_of_length_le (by have := HL.out; omega)] at this
          exact this
        subst hqt
        have hi : ¬ (k : Int) < (zs.length : Int) := by omega
        go_wp2_with fail
        go_ret
        exact ⟨rfl, hB.out⟩
  · have hne : ((zs.length : Int) != (ys.length : Int)) = true := by
      rw [bne_iff_ne]; omega
    rw [decide_eq_false (show ¬ zs = ys from fun e => hl (by rw [e]))]
    clear h1 h2 hl
    go_enter Tryd.func14, Tryd.ntmps14
    go_wp2_with fail
    go_ret
    exact ⟨rfl, Below.refl _ _⟩
#print axioms same_any
end Go.Proofs.YtmglhlfjddgllaaDoor
