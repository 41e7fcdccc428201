/- token's Check; law 16's of; the document's Right; the chapter's example. -/
import Derived.Test.YtepkhhpdpmhfaaaDoorZKLook
namespace Go.Proofs.YtepkhhpdpmhfaaaDoor
open Go Go.RowKit

variable {w0 w : World} {tb mb n : Nat} {rs : List (Nat × Obj)}
/-- What is not right about a token, at a time. -/
def rightE (a t address now life : Int) : Int := if a ≠ address then 14 else if now < t ∨ life < now - t then 9 else 0
/-- What Check tells of what Look says. -/
def chk (r : Option (Bool × Int × Int × List Int)) (address now life : Int) : Int × Option (Bool × Int × Int × List Int) :=
  match r with
  | none => (14, none)
  | some (l, a, t, nm) => if rightE a t address now life = 0 then (0, some (l, a, t, nm)) else (rightE a t address now life, none)
set_option maxRecDepth 20000 in
set_option maxHeartbeats 4000000 in
theorem check_any {N : List T.Nd} (h : T.Gd w0 w tb mb N n rs) {k m : Int} {r : Option (Bool × Int × Int × List Int)}
    (hL : ∀ w1, T.Gd w0 w1 tb mb N n rs → Calls Tryd.prog 10 #[.pointer (some ⟨tb, 0, none⟩), .int .i64 k, .int .i64 m] w1 fun e w' => TkP w' e 14 r ∧ T.Gd w0 w' tb mb N n rs ∧ Below w1.heap.size w1 w')
    (address : Int) {now life : Int} (hnow : -9223372036854775808 ≤ now ∧ now ≤ 9223372036854775807) (ht : ∀ x, r = some x → 0 ≤ x.2.2.1 ∧ x.2.2.1 < 4611686018427387904) :
    Calls Tryd.prog 21 #[.pointer (some ⟨tb, 0, none⟩), .int .i64 k, .int .i64 m, .int .i64 address, .int .i64 now, .int .i64 life] w fun e w' => TkP w' e (chk r address now life).1 (chk r address now life).2 ∧ T.Gd w0 w' tb mb N n rs ∧ Below w.heap.size w w' := by
  obtain ⟨W, hW⟩ : ∃ W, w.alloc (.cells #[.bool false, .int .i64 0, .int .i64 0, .slice none 0 0] 30) = W := ⟨_, rfl⟩
  have hbW : Below w.heap.size w W := by rw [← hW]; exact below_alloc w _
  have hM : W.heap[w.heap.size]? = some (.cells #[.bool false, .int .i64 0, .int .i64 0, .slice none 0 0] 30 (0, 0)) := by rw [← hW]; exact heap_alloc_new w _
  have c1 := hL W (h.keep hbW)
  have HG := Lib.hid h
  have HM := Lib.hid (And.intro hM hbW)
  clear hL h hbW hM
  cases r with
  | none =>
    clear ht
    go_enter Tryd.func21, Tryd.ntmps21
    go_wp2_with fail
    refine c1.mono ?_
    rintro e w1 ⟨rfl, g1, b1⟩
    have hM1 := (b1.block _ (blkLt HM.out.1)).trans HM.out.1
    have B1 := HM.out.2.trans (b1.mono HM.out.2.size)
    have hM2 := fun o => ((below_alloc w1 o).block _ (blkLt hM1)).trans hM1
    have H2 := Lib.hid (And.intro hM2 (fun o => B1.trans ((below_alloc w1 o).mono B1.size)))
    have m0 := fun o => (cells4 (hM2 o)).1
    have m1 := fun o => (cells4 (hM2 o)).2.1
    have m2 := fun o => (cells4 (hM2 o)).2.2.1
    have m3 := fun o => (cells4 (hM2 o)).2.2.2.1
    have mf := fun o => (cells4 (hM2 o)).2.2.2.2
    clear c1 g1 b1 hM1 B1 hM2 HM
    go_wp2_with fail
    refine bodyPost_ret (res_token_Check _ _ w.heap.size _ _ _ _ _ rfl rfl (chain4_row (H2.out.1 _) _ _ _ _)) rfl ?_
    exact endG HG.out ((chain4_but _ _ _ _ _ _).below (H2.out.2 _) (Nat.le_refl _)) rfl
  | some x =>
    obtain ⟨l, a, t, nm⟩ := x
    have ht1 := ht _ rfl
    simp only at ht1
    have t0 := ht1.1
    have t1 := ht1.2
    obtain ⟨n0, n1⟩ := hnow
    have HC : Hid (chk (some (l, a, t, nm)) address now life = if rightE a t address now life = 0 then (0, some (l, a, t, nm)) else (rightE a t address now life, none)) := Lib.hid rfl
    have HR : Hid (rightE a t address now life = if a ≠ address then 14 else if now < t ∨ life < now - t then 9 else 0) := Lib.hid rfl
    have c1' : Calls Tryd.prog 10 #[.pointer (some ⟨tb, 0, none⟩), .int .i64 k, .int .i64 m] W fun e w' => (∃ an cn, e = .returned (.tuple #[.agg #[.bool l, .int .i64 a, .int .i64 t, .slice an nm.length cn], .int .i64 0]) ∧ Rd w' (.slice an nm.length cn) nm) ∧ Below W.heap.size W w' := c1.mono fun e w' ⟨⟨vn, he, hr⟩, _, hb⟩ => by
      obtain ⟨an, cn, rfl⟩ := hr.shape
      exact ⟨⟨an, cn, he, hr⟩, hb⟩
    clear ht ht1 c1
    generalize chk (some (l, a, t, nm)) address now life = C at *
    generalize rightE a t address now life = E at *
    by_cases q1 : a = address
    · subst q1
      have p1 : (a != a) = false := by simp
      by_cases q2 : now < t
      · have HE : Hid (C = (9, none)) := Lib.hid (by rw [HC.out, HR.out]; simp [q2])
        clear HC HR
        go_enter Tryd.func21, Tryd.ntmps21
        go_wp2_with fail
        refine c1'.mono ?_
        rintro e w1 ⟨⟨an, cn, rfl, rn⟩, b1⟩
        have hM1 := (b1.block _ (blkLt HM.out.1)).trans HM.out.1
        have B1 := HM.out.2.trans (b1.mono HM.out.2.size)
        have hM2 := fun o => ((below_alloc w1 o).block _ (blkLt hM1)).trans hM1
        have H2 := Lib.hid (And.intro hM2 (fun o => B1.trans ((below_alloc w1 o).mono B1.size)))
        have m0 := fun o => (cells4 (hM2 o)).1
        have m1 := fun o => (cells4 (hM2 o)).2.1
        have m2 := fun o => (cells4 (hM2 o)).2.2.1
        have m3 := fun o => (cells4 (hM2 o)).2.2.2.1
        have mf := fun o => (cells4 (hM2 o)).2.2.2.2
        clear c1' b1 hM1 B1 hM2 HM rn
        go_wp2_with fail
        refine bodyPost_ret (res_token_Check _ _ w.heap.size _ _ _ _ _ rfl rfl (chain4_row (H2.out.1 _) _ _ _ _)) rfl ?_
        rw [HE.out]
        exact endG HG.out ((chain4_but _ _ _ _ _ _).below (H2.out.2 _) (Nat.le_refl _)) rfl
      · by_cases q3 : life < now - t
        · have HE : Hid (C = (9, none)) := Lib.hid (by rw [HC.out, HR.out]; simp [q3])
          clear HC HR
          go_enter Tryd.func21, Tryd.ntmps21
          go_wp2_with fail
          refine c1'.mono ?_
          rintro e w1 ⟨⟨an, cn, rfl, rn⟩, b1⟩
          have hM1 := (b1.block _ (blkLt HM.out.1)).trans HM.out.1
          have B1 := HM.out.2.trans (b1.mono HM.out.2.size)
          have hM2 := fun o => ((below_alloc w1 o).block _ (blkLt hM1)).trans hM1
          have H2 := Lib.hid (And.intro hM2 (fun o => B1.trans ((below_alloc w1 o).mono B1.size)))
          have m0 := fun o => (cells4 (hM2 o)).1
          have m1 := fun o => (cells4 (hM2 o)).2.1
          have m2 := fun o => (cells4 (hM2 o)).2.2.1
          have m3 := fun o => (cells4 (hM2 o)).2.2.2.1
          have mf := fun o => (cells4 (hM2 o)).2.2.2.2
          clear c1' b1 hM1 B1 hM2 HM rn
          go_wp2_with fail
          refine bodyPost_ret (res_token_Check _ _ w.heap.size _ _ _ _ _ rfl rfl (chain4_row (H2.out.1 _) _ _ _ _)) rfl ?_
          rw [HE.out]
          exact endG HG.out ((chain4_but _ _ _ _ _ _).below (H2.out.2 _) (Nat.le_refl _)) rfl
        · have HE : Hid (C = (0, some (l, a, t, nm))) := Lib.hid (by rw [HC.out, if_pos (by rw [HR.out, if_neg (by simp), if_neg (by omega)])])
          clear HC HR
          go_enter Tryd.func21, Tryd.ntmps21
          go_wp2_with fail
          refine c1'.mono ?_
          rintro e w1 ⟨⟨an, cn, rfl, rn⟩, b1⟩
          have hM1 := (b1.block _ (blkLt HM.out.1)).trans HM.out.1
          have B1 := HM.out.2.trans (b1.mono HM.out.2.size)
          have hM2 := fun o => ((below_alloc w1 o).block _ (blkLt hM1)).trans hM1
          have H2 := Lib.hid (And.intro hM2 (And.intro (fun o => B1.trans ((below_alloc w1 o).mono B1.size)) (fun o => rn.below (below_alloc w1 o))))
          have m0 := fun o => (cells4 (hM2 o)).1
          have m1 := fun o => (cells4 (hM2 o)).2.1
          have m2 := fun o => (cells4 (hM2 o)).2.2.1
          have m3 := fun o => (cells4 (hM2 o)).2.2.2.1
          have mf := fun o => (cells4 (hM2 o)).2.2.2.2
          clear c1' b1 hM1 B1 hM2 HM rn
          go_wp2_with fail
          refine bodyPost_ret (res_token_Check _ _ w.heap.size _ _ _ _ _ rfl rfl (chain4_row (H2.out.1 _) _ _ _ _)) rfl ?_
          rw [HE.out]
          refine endG HG.out ((chain4_but _ _ _ _ _ _).below (H2.out.2.1 _) (Nat.le_refl _)) ⟨_, rfl, (H2.out.2.2 _).but (chain4_but _ _ _ _ _ _) (H2.out.1 _) ?_⟩
          intro c e f hc x hx z
          cases hc
          simp at hx
          rcases hx with rfl | rfl | rfl | rfl <;> simp
    · have p1 : (a != address) = true := by simp [q1]
      have HE : Hid (C = (14, none)) := Lib.hid (by rw [HC.out, HR.out, if_pos q1]; rfl)
      clear HC HR
      go_enter Tryd.func21, Tryd.ntmps21
      go_wp2_with fail
      refine c1'.mono ?_
      rintro e w1 ⟨⟨an, cn, rfl, rn⟩, b1⟩
      have hM1 := (b1.block _ (blkLt HM.out.1)).trans HM.out.1
      have B1 := HM.out.2.trans (b1.mono HM.out.2.size)
      have hM2 := fun o => ((below_alloc w1 o).block _ (blkLt hM1)).trans hM1
      have H2 := Lib.hid (And.intro hM2 (fun o => B1.trans ((below_alloc w1 o).mono B1.size)))
      have m0 := fun o => (cells4 (hM2 o)).1
      have m1 := fun o => (cells4 (hM2 o)).2.1
      have m2 := fun o => (cells4 (hM2 o)).2.2.1
      have m3 := fun o => (cells4 (hM2 o)).2.2.2.1
      have mf := fun o => (cells4 (hM2 o)).2.2.2.2
      clear c1' b1 hM1 B1 hM2 HM rn
      go_wp2_with fail
      refine bodyPost_ret (res_token_Check _ _ w.heap.size _ _ _ _ _ rfl rfl (chain4_row (H2.out.1 _) _ _ _ _)) rfl ?_
      rw [HE.out]
      exact endG HG.out ((chain4_but _ _ _ _ _ _).below (H2.out.2 _) (Nat.le_refl _)) rfl
#print axioms check_any
end Go.Proofs.YtepkhhpdpmhfaaaDoor
