/- hello: params.Read and fields.IsVersion tell what is right; same; the chapter's example. -/
import Derived.Test.YtefcjggmlhoebaaDoorHW5
import Derived.Test.YtefcjggmlhoebaaDoorHRd9
import Derived.Test.YtefcjggmlhoebaaDoorPRd10
namespace Go.Proofs.YtefcjggmlhoebaaDoor
open Go Go.RowKit

/-- Are these bytes right params? -/
def okP (ys : List Int) : Bool := (resP ys).2 == 0
theorem prok : PrOk okP := fun W v ys hr hp hl => by
  refine (pread_any hr hp hl).mono ?_
  rintro e w' ⟨v5, v6, v7, v9, rfl, hpr, hb⟩
  obtain ⟨a5, k5, rfl⟩ := hpr.g.shape
  obtain ⟨a6, k6, rfl⟩ := hpr.o.shape
  obtain ⟨a7, k7, rfl⟩ := hpr.r.shape
  obtain ⟨a9, k9, rfl⟩ := hpr.l.shape
  exact ⟨_, _, _, _, _, _, _, _, _, _, _, _, _, _, _, _, _, _, _, rfl, rfl, hb⟩
theorem vrok : VrOk := fun W v => isver_any W v
theorem oklen : OkLen okP := fun ys h => by
  unfold okP resP at h
  by_cases h5 : 500 < ys.length
  · rw [if_pos h5] at h; simp at h
  · omega
set_option maxRecDepth 20000 in
set_option maxHeartbeats 2000000 in
theorem same_any {w : World} {v1 v2 : Value} {zs ys : List Int} (h1 : Rd w v1 zs) (h2 : Rd w v2 ys) :
    Calls Tryd.prog 14 #[v1, v2] w fun e w' => e = .returned (.bool (decide (zs = ys))) ∧ Below w.heap.size w w' := by
  obtain ⟨a1, c1, rfl⟩ := h1.shape
  obtain ⟨a2, c2, rfl⟩ := h2.shape
  by_cases hl : zs.length = ys.length
  · have HZ := Lib.hid (And.intro h1 h2)
    have hz9 : zs.length ≤ 9223372036854775807 := by
      obtain ⟨_, _, e, q1, q2, _⟩ := h1
      unfold maxLen at q2
      omega
    have HL := Lib.hid hl
    rw [← hl]
    have hne : ((zs.length : Int) != (zs.length : Int)) = false := by simp
    obtain ⟨q, hq⟩ : ∃ q, q = decide (zs = ys) := ⟨_, rfl⟩
    rw [← hq]
    have HQ := Lib.hid hq
    clear h1 h2 hl hq
    go_enter Tryd.func14, Tryd.ntmps14
    go_wp2_with fail
    go_loopw [5] (fun i wr => ∃ k : Nat, k ≤ zs.length ∧ i = .int .i64 k ∧ Hid (zs.take k = ys.take k) ∧ Hid (Below w.heap.size w wr)) (fun i _ => zs.length - (intOf i).toNat)
    case atStart => exact ⟨0, Nat.zero_le _, rfl, Lib.hid rfl, Lib.hid (Below.refl _ _)⟩
    case round =>
      obtain ⟨k, hk, rfl, hT, hB⟩ := hrel
      by_cases hlt : k < zs.length
      · obtain ⟨b1, o1, rfl, e1⟩ := HZ.out.1.cellAt hlt
        obtain ⟨b2, o2, rfl, e2⟩ := HZ.out.2.cellAt (show k < ys.length by have := HL.out; omega)
        have g1 : wr.cell? ⟨b1, o1 + k, none⟩ = some (.int .u8 (zs.getD k 0)) := by rw [hB.out.cell (cell_lt e1)]; exact e1
        have g2 : wr.cell? ⟨b2, o2 + k, none⟩ = some (.int .u8 (ys.getD k 0)) := by rw [hB.out.cell (cell_lt e2)]; exact e2
        have hi : (k : Int) < (zs.length : Int) := by omega
        have HG : Hid (zs.take (k + 1) = zs.take k ++ [zs.getD k 0] ∧ ys.take (k + 1) = ys.take k ++ [ys.getD k 0]) := Lib.hid (by
          have hy : k < ys.length := by have := HL.out; omega
          constructor
          · rw [List.take_add_one, List.getElem?_eq_getElem hlt, List.getD_eq_getElem?_getD, List.getElem?_eq_getElem hlt]; simp
          · rw [List.take_add_one, List.getElem?_eq_getElem hy, List.getD_eq_getElem?_getD, List.getElem?_eq_getElem hy]; simp)
        generalize zs.getD k 0 = x at *
        generalize ys.getD k 0 = y at *
        clear e1 e2
        by_cases hxy : x = y
        · have t1 : (x != y) = false := by rw [hxy]; simp
          have HXY := Lib.hid hxy
          clear hxy
          go_wp2_with fail
          go_quiet (fail)
          go_wp2_with fail
          go_roundw
          case rel => exact ⟨k + 1, by omega, by go_num, Lib.hid (by rw [HG.out.1, HG.out.2, hT.out, HXY.out]), Lib.hid (hB.out.trans ((below_drewN wr nq).mono hB.out.size))⟩
          case measure => simp [intOf]; omega
        · have t1 : (x != y) = true := bne_iff_ne.2 hxy
          have hqf : q = false := by
            rw [HQ.out]
            refine decide_eq_false fun e => hxy ?_
            have h1 := HG.out.1
            rw [e, HG.out.2] at h1
            have := List.append_inj_right' h1 rfl
            exact ((List.cons.inj this).1).symm
          subst hqf
          clear hxy
          go_wp2_with fail
          go_quiet (fail)
          go_wp2_with fail
          go_ret
          exact ⟨rfl, hB.out.trans ((below_drewN wr _).mono hB.out.size)⟩
      · have hqt : q = true := by
          rw [HQ.out]
          refine decide_eq_true ?_
          have := hT.out
          rw [List.take_of_length_le (by omega), List.take_of_length_le (by have := HL.out; omega)] at this
          exact this
        subst hqt
        have hi : ¬ (k : Int) < (zs.length : Int) := by omega
        go_wp2_with fail
        go_ret
        exact ⟨rfl, hB.out⟩
  · have hne : ((zs.length : Int) != (ys.length : Int)) = true := by
      rw [bne_iff_ne]; omega
    rw [decide_eq_false (show ¬ zs = ys from fun e => hl (by rw [e]))]
    clear h1 h2 hl
    go_enter Tryd.func14, Tryd.ntmps14
    go_wp2_with fail
    go_ret
    exact ⟨rfl, Below.refl _ _⟩
def exM : Hm := ⟨20, 0, 0, 0, 7, false, [], [], 0, 0⟩
theorem exM_bytes : wrH okP exM = [20, 0, 0, 4, 0, 0, 0, 7] := by
  have h : rightB (okP exM.p) exM = true := (rightB_iff okP exM).2 (.inr (.inr (.inr (.inr (.inr ⟨.inr rfl, ⟨by decide, by decide⟩, rfl, rfl, rfl, rfl, rfl, rfl, rfl, rfl⟩)))))
  unfold wrH
  rw [if_pos h]
  decide +kernel
set_option maxRecDepth 20000 in
set_option maxHeartbeats 2000000 in
theorem hhawake_any (w : World) (ht : Tab w) (hw : 1 < w.heap.size) : Calls Tryd.prog 13 #[] w fun e w' => e = .returned (.bool true) ∧ Below w.heap.size w w' := by
  have hwr := hwrite_any prok vrok oklen (w := w) exM (vp := .slice none 0 0) (Rd.nil w) (.inl rfl) (by simp [exM]) Byt.nil ht hw
  unfold HWP at hwr
  rw [exM_bytes] at hwr
  have hstr : bstr exM.n = ⟨#[]⟩ := rfl
  unfold mAgg mcl at hwr
  rw [hstr] at hwr
  dsimp only [exM] at hwr
  clear ht
  go_enter Tryd.func13, Tryd.ntmps13
  go_wp2_with (go_at_call 10; refine hwr.mono ?_; rintro e w1 ⟨v1, rfl, r1, _, hb1⟩; obtain ⟨a1, k1, rfl⟩ := r1.shape)
  have r2 := Rd.lit w1 [20, 0, 0, 4, 0, 0, 0, 7] (by simp) (byt_of (by decide))
  have hsm := same_any (r1.alloc _) r2
  rw [show decide (([20, 0, 0, 4, 0, 0, 0, 7] : List Int) = [20, 0, 0, 4, 0, 0, 0, 7]) = true by decide] at hsm
  refine hsm.mono ?_
  rintro e w2 ⟨rfl, hb3⟩
  go_wp2_with fail
  go_ret
  have B2 := hb1.trans ((below_alloc w1 (.cells (by8 [20, 0, 0, 4, 0, 0, 0, 7]).toArray 5)).mono hb1.size)
  exact ⟨rfl, B2.trans (hb3.mono B2.size)⟩
#print axioms hhawake_any
end Go.Proofs.YtefcjggmlhoebaaDoor
