/- The document's token: what bytes say (tokR), its text (tokB). -/
import Derived.Test.YtofklfahbhhoiaaDoorKSl
import Derived.Test.YtofklfahbhhoiaaDoorKRead
import Derived.Test.YtofklfahbhhoiaaDoorRefTake
namespace Go.Proofs.YtofklfahbhhoiaaDoor
open Go Go.RowKit

theorem tokR_of {zs : List Int} {z : Int} {r : List Int} {a c : Int × Int × Int} {t : List Int × List Int × Int} (hz : zs = z :: r) (ha : rd r = a) (hc : rd (r.drop a.2.1.toNat) = c) (ht : tk ((r.drop a.2.1.toNat).drop c.2.1.toNat) = t) :
    tokR zs = if 1 < z then none else if a.2.2 ≠ 0 then none else if c.2.2 ≠ 0 then none else if t.2.2 ≠ 0 ∨ 0 < t.2.1.length ∨ 20 < t.1.length then none else some (decide (z = 1), a.1, c.1, t.1) := by
  subst hz; subst ha; subst hc; subst ht; rfl
set_option maxRecDepth 20000 in
set_option maxHeartbeats 1000000 in
theorem rread_any {w : World} {ao : Option Addr} {cap : Nat} {zs : List Int} (h : Rd w (.slice ao zs.length cap) zs) (hp : Plain (.slice ao zs.length cap)) (hl : zs.length ≤ 2048) :
    Calls Tryd.prog 25 #[.slice ao zs.length cap] w fun e w' => RdP w w' e (tokR zs) := by
  obtain ⟨W, hW⟩ : ∃ W, w.alloc (.cells #[.bool false, .int .i64 0, .int .i64 0, .slice none 0 0] 24) = W := ⟨_, rfl⟩
  have hbW : Below w.heap.size w W := by rw [← hW]; exact below_alloc w _
  have hM : W.heap[w.heap.size]? = some (.cells #[.bool false, .int .i64 0, .int .i64 0, .slice none 0 0] 24 (0, 0)) := by rw [← hW]; exact heap_alloc_new w _
  obtain ⟨m0, m1, m2, m3, mf⟩ := cells4 hM
  have hr := h.below hbW
  have RR := Lib.hid (And.intro hM hbW)
  clear hbW hM h
  cases hz : zs with
  | nil =>
    have HN : Hid (tokR [] = none) := Lib.hid rfl
    subst hz
    clear hr hp
    go_enter Tryd.func25, Tryd.ntmps25
    go_wp2_with fail
    refine bodyPost_ret (res_ref16_Read _ _ w.heap.size _ _ _ _ _ rfl rfl (chain4_row RR.out.1 _ _ _ _)) rfl ?_
    rw [HN.out]
    exact ⟨rfl, (chain4_but _ _ _ _ _ _).below RR.out.2 (Nat.le_refl _)⟩
  | cons z r =>
    obtain ⟨a, ha⟩ : ∃ a, rd r = a := ⟨_, rfl⟩
    obtain ⟨c, hc⟩ : ∃ c, rd (r.drop a.2.1.toNat) = c := ⟨_, rfl⟩
    obtain ⟨t, ht⟩ : ∃ t, tk ((r.drop a.2.1.toNat).drop c.2.1.toNat) = t := ⟨_, rfl⟩
    have HQ := Lib.hid (tokR_of (zs := z :: r) rfl ha hc ht)
    rw [hz] at hr hp hl
    have hby := hr.byt
    have hzb := hby z (by simp)
    have hbr : Byt r := fun x hx => hby x (by simp [hx])
    obtain ⟨s1, e1, l1⟩ := rd_bound hbr
    obtain ⟨s2, e2, l2⟩ := rd_bound (hbr.drop s1)
    have e1' := e1
    rw [ha] at e1
    have hs1 : a.2.1.toNat = s1 := by omega
    rw [hs1] at hc ht
    rw [hc] at e2
    have hs2 : c.2.1.toNat = s2 := by omega
    rw [hs2] at ht
    obtain ⟨an, as', ae⟩ := a
    obtain ⟨cn, cs', ce⟩ := c
    obtain ⟨t1, t2, te⟩ := t
    simp only at e1 e2 HQ
    subst e1; subst e2
    have hlr : (z :: r).length = r.length + 1 := rfl
    have l2' : s1 + s2 ≤ r.length := by simp at l2; omega
    obtain ⟨a1, f1, r1, p1⟩ := part_l hr hp 1 (by simp)
    obtain ⟨a2, f2, r2, p2⟩ := part_l hr hp (1 + s1) (by rw [hlr]; omega)
    obtain ⟨a3, f3, r3, p3⟩ := part_l hr hp (1 + s1 + s2) (by rw [hlr]; omega)
    rw [show List.drop 1 (z :: r) = r from rfl] at r1
    rw [show List.drop (1 + s1) (z :: r) = r.drop s1 by rw [Nat.add_comm]; rfl] at r2
    rw [show List.drop (1 + s1 + s2) (z :: r) = (r.drop s1).drop s2 by rw [List.drop_drop, show 1 + s1 + s2 = s1 + s2 + 1 by omega]; rfl] at r3
    have c1 := refread_any r1
    have c2 := refread_any r2
    have c3 := reftake_any r3 (by simp; rw [hlr] at hl; omega)
    rw [ha] at c1
    rw [hc] at c2
    rw [ht] at c3
    rw [show ((1 + s1 : Nat) : Int) = 1 + (s1 : Int) by omega] at f2
    rw [show ((1 + s1 + s2 : Nat) : Int) = 1 + (s1 : Int) + (s2 : Int) by omega] at f3
    rw [show ((1 : Nat) : Int) = 1 from rfl] at f1
    obtain ⟨b, off, hao, k0⟩ : ∃ b off, ao = some ⟨b, off, none⟩ ∧ W.cell? ⟨b, off, none⟩ = some (.int .u8 z) := by
      rcases hr.cases with ⟨h0, _⟩ | ⟨b, off, cp, hv, _, _, _, _, hcell⟩
      · cases h0
      · simp only [Value.slice.injEq] at hv
        have := hcell 0 (by simp)
        exact ⟨b, off, hv.1, by simpa using this⟩
    subst hao
    have HE := Lib.hid (And.intro hby hzb)
    have q0 : (((z :: r).length : Int) == 0) = false := by rw [beq_eq_false_iff_ne, hlr]; omega
    have bb : s1 + s2 ≤ 2047 := by rw [hlr] at hl; omega
    have bL : 1 ≤ ((z :: r).length : Int) := by rw [hlr]; omega
    clear hz ha hc ht e1' hs1 hs2 r1 r2 r3 p1 p2 p3 hby hbr hr hp l1 l2 l2'
    generalize (z :: r).length - 1 = n1 at *
    generalize cap - 1 = x1 at *
    generalize (z :: r).length - (1 + s1) = n2 at *
    generalize cap - (1 + s1) = x2 at *
    generalize (z :: r).length - (1 + s1 + s2) = n3 at *
    generalize cap - (1 + s1 + s2) = x3 at *
    generalize (z :: r).length = L at *
    clear hlr hl
    have HS := Lib.hid bb
    by_cases q1 : 1 < z
    · have HN : Hid (tokR (z :: r) = none) := Lib.hid (by rw [HQ.out, if_pos q1])
      clear c1 c2 c3 f1 f2 f3
      go_enter Tryd.func25, Tryd.ntmps25
      go_wp2_with fail
      refine bodyPost_ret (res_ref16_Read _ _ w.heap.size _ _ _ _ _ rfl rfl (chain4_row RR.out.1 _ _ _ _)) rfl ?_
      rw [HN.out]
      exact ⟨rfl, (chain4_but _ _ _ _ _ _).below RR.out.2 (Nat.le_refl _)⟩
    · by_cases q2 : ae = 0
      · subst q2
        by_cases q3 : ce = 0
        · subst q3
          have HQ2 : Hid (tokR (z :: r) = if te ≠ 0 ∨ 0 < t2.length ∨ 20 < t1.length then none else some (decide (z = 1), an, cn, t1)) := Lib.hid (by rw [HQ.out, if_neg q1]; simp only [ne_eq, not_true_eq_false, if_false])
          clear HQ
          go_enter Tryd.func25, Tryd.ntmps25
          go_wp2_with fail
          refine c1.mono ?_
          rintro e w1 ⟨rfl, rfl⟩
          clear c1 f1
          go_wp2_with fail
          refine c2.mono ?_
          rintro e w2 ⟨rfl, rfl⟩
          clear c2 f2
          go_wp2_with fail
          refine c3.mono ?_
          rintro e w3 ⟨v4, v5, rfl, g4, g5, b4⟩
          clear c3 f3
          obtain ⟨a4, p4, rfl⟩ := g4.shape
          obtain ⟨a5, p5, rfl⟩ := g5.shape
          have R4 := (b4.block _ (blkLt RR.out.1)).trans RR.out.1
          have G4 := Lib.hid (And.intro g4 (And.intro R4 (RR.out.2.trans (b4.mono RR.out.2.size))))
          have k4 := (b4.cell (cell_lt k0)).trans k0
          clear g4 g5 m0 m1 m2 m3 mf k0 b4
          obtain ⟨m0, m1, m2, m3, mf⟩ := cells4 R4
          clear R4
          by_cases q4 : te = 0
          · subst q4
            by_cases q5 : 0 < t2.length
            · have HN : Hid (tokR (z :: r) = none) := Lib.hid (by rw [HQ2.out, if_pos (.inr (.inl q5))])
              have q5' : 0 < (t2.length : Int) := by omega
              go_wp2_with fail
              refine bodyPost_ret (res_ref16_Read _ _ w.heap.size _ _ _ _ _ rfl rfl (chain4_row G4.out.2.1 _ _ _ _)) rfl ?_
              rw [HN.out]
              exact ⟨rfl, (chain4_but _ _ _ _ _ _).below G4.out.2.2 (Nat.le_refl _)⟩
            · have q5' : ¬ 0 < (t2.length : Int) := by omega
              by_cases q6 : 20 < t1.length
              · have HN : Hid (tokR (z :: r) = none) := Lib.hid (by rw [HQ2.out, if_pos (.inr (.inr q6))])
                have q6' : 20 < (t1.length : Int) := by omega
                go_wp2_with fail
                refine bodyPost_ret (res_ref16_Read _ _ w.heap.size _ _ _ _ _ rfl rfl (chain4_row G4.out.2.1 _ _ _ _)) rfl ?_
                rw [HN.out]
                exact ⟨rfl, (chain4_but _ _ _ _ _ _).below G4.out.2.2 (Nat.le_refl _)⟩
              · have q6' : ¬ 20 < (t1.length : Int) := by omega
                have HN : Hid (tokR (z :: r) = some (decide (z = 1), an, cn, t1)) := Lib.hid (by rw [HQ2.out, if_neg (show ¬ ((0 : Int) ≠ 0 ∨ 0 < t2.length ∨ 20 < t1.length) by omega)])
                go_wp2_with fail
                refine bodyPost_ret (res_ref16_Read _ _ w.heap.size _ _ _ _ _ rfl rfl (chain4_row G4.out.2.1 _ _ _ _)) rfl ?_
                rw [HN.out]
                refine ⟨_, rfl, G4.out.1.but (chain4_but _ _ _ _ _ _) G4.out.2.1 ?_, (chain4_but _ _ _ _ _ _).below G4.out.2.2 (Nat.le_refl _)⟩
                intro c e f hc x hx z
                cases hc
                simp at hx
                rcases hx with rfl | rfl | rfl | rfl <;> simp
          · have q4' : (te != 0) = true := bne_iff_ne.2 q4
            have HN : Hid (tokR (z :: r) = none) := Lib.hid (by rw [HQ2.out, if_pos (.inl q4)])
            go_wp2_with fail
            refine bodyPost_ret (res_ref16_Read _ _ w.heap.size _ _ _ _ _ rfl rfl (chain4_row G4.out.2.1 _ _ _ _)) rfl ?_
            rw [HN.out]
            exact ⟨rfl, (chain4_but _ _ _ _ _ _).below G4.out.2.2 (Nat.le_refl _)⟩
        · have HN : Hid (tokR (z :: r) = none) := Lib.hid (by rw [HQ.out, if_neg q1]; simp [q3])
          have q3' : (ce != 0) = true := bne_iff_ne.2 q3
          clear c3 f3
          go_enter Tryd.func25, Tryd.ntmps25
          go_wp2_with fail
          refine c1.mono ?_
          rintro e w1 ⟨rfl, rfl⟩
          clear c1 f1
          go_wp2_with fail
          refine c2.mono ?_
          rintro e w2 ⟨rfl, rfl⟩
          clear c2 f2
          go_wp2_with fail
          refine bodyPost_ret (res_ref16_Read _ _ w.heap.size _ _ _ _ _ rfl rfl (chain4_row RR.out.1 _ _ _ _)) rfl ?_
          rw [HN.out]
          exact ⟨rfl, (chain4_but _ _ _ _ _ _).below RR.out.2 (Nat.le_refl _)⟩
      · have HN : Hid (tokR (z :: r) = none) := Lib.hid (by rw [HQ.out, if_neg q1, if_pos q2])
        have q2' : (ae != 0) = true := bne_iff_ne.2 q2
        clear c2 c3 f2 f3
        go_enter Tryd.func25, Tryd.ntmps25
        go_wp2_with fail
        refine c1.mono ?_
        rintro e w1 ⟨rfl, rfl⟩
        clear c1 f1
        go_wp2_with fail
        refine bodyPost_ret (res_ref16_Read _ _ w.heap.size _ _ _ _ _ rfl rfl (chain4_row RR.out.1 _ _ _ _)) rfl ?_
        rw [HN.out]
        exact ⟨rfl, (chain4_but _ _ _ _ _ _).below RR.out.2 (Nat.le_refl _)⟩
#print axioms rread_any
end Go.Proofs.YtofklfahbhhoiaaDoor
