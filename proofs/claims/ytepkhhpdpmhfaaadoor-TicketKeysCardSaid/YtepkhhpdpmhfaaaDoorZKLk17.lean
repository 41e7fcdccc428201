/- ticket's look and Redeem: what a term says as a ticket. -/
import Derived.Test.YtepkhhpdpmhfaaaDoorZKIss
import Derived.Test.YtepkhhpdpmhfaaaDoorZKKR
import Derived.Test.YtepkhhpdpmhfaaaDoorZKLook
namespace Go.Proofs.YtepkhhpdpmhfaaaDoor
open Go Go.RowKit

variable {w0 w : World} {tb mb n : Nat} {rs : List (Nat × Obj)}
/-- What look tells. -/
def KlV (r : Option (Int × Int × Int × Int)) (e : Ending) : Prop :=
  match r with
  | none => e = .returned (.tuple #[.agg #[.int .i64 0, .int .i64 0, .int .i64 0, .int .i64 0], .bool false])
  | some (v, t, l, s) => e = .returned (.tuple #[.agg #[.int .i64 v, .int .i64 t, .int .i64 l, .int .i64 s], .bool true])
abbrev zTk : Obj := .cells #[.int .i64 0, .int .i64 0, .int .i64 0, .int .i64 0] 44
theorem keepA {N : List T.Nd} (h : T.Gd w0 w tb mb N n rs) {w' : World} (hb : Below w.heap.size w w') {P : Prop} (hp : P) : P ∧ T.Gd w0 w' tb mb N n rs ∧ Below w.heap.size w w' := ⟨hp, h.keep hb, hb⟩
set_option maxRecDepth 20000 in
set_option maxHeartbeats 2000000 in
theorem klook_shut {N : List T.Nd} (h : T.Gd w0 w tb mb N n rs) {k m : Int} (hs : Shut w0 tb mb n N rs tickH k m) :
    Calls Tryd.prog 29 #[.pointer (some ⟨tb, 0, none⟩), .int .i64 k, .int .i64 m] w fun e w' => KlV none e ∧ T.Gd w0 w' tb mb N n rs ∧ Below w.heap.size w w' := by
  obtain ⟨W, hW⟩ : ∃ W, w.alloc zTk = W := ⟨_, rfl⟩
  have hbW : Below w.heap.size w W := by rw [← hW]; exact below_alloc w _
  have hM : W.heap[w.heap.size]? = some (.cells #[.int .i64 0, .int .i64 0, .int .i64 0, .int .i64 0] 44 (0, 0)) := by rw [← hW]; exact heap_alloc_new w _
  have hcv := T.conv_const
  have b1 := below_alloc W (.cells (T.cs .u8 tickH).toArray 5 ((T.cs .u8 tickH).toArray.size, (T.cs .u8 tickH).toArray.size + 1))
  have c1 := hs _ _ ((h.keep hbW).keep b1) (T.Rd.litM W tickH 6 rfl (by simp))
  have HG := Lib.hid h
  have HM := Lib.hid (And.intro ((b1.block _ (blkLt hM)).trans hM) (hbW.trans (b1.mono hbW.size)))
  clear hs h hbW hM b1
  go_enter Tryd.func29, Tryd.ntmps29
  go_wp2_with fail
  refine c1.mono ?_
  rintro e w1 ⟨rfl, g1, b1⟩
  have c2 := g1.lookNo 0 (.inl (by omega))
  have H1 := Lib.hid (And.intro ((b1.block _ (blkLt HM.out.1)).trans HM.out.1) (HM.out.2.trans (b1.mono HM.out.2.size)))
  clear c1 g1 b1 HM hcv
  go_wp2_with fail
  refine c2.mono ?_
  rintro e w2 ⟨rfl, g2, b2⟩
  have b3 := below_alloc w2 (.cells #[.int .i64 0, .string ByteArray.empty, .slice none 0 0] 54)
  have hM2 := (b2.block _ (blkLt H1.out.1)).trans H1.out.1
  have hM3 := (b3.block _ (blkLt hM2)).trans hM2
  have B2 := H1.out.2.trans (b2.mono H1.out.2.size)
  have H2 := Lib.hid (And.intro hM3 (B2.trans (b3.mono B2.size)))
  obtain ⟨m0, m1, m2, m3, mf⟩ := cells4 hM3
  clear c2 g2 b2 b3 hM2 hM3 B2 H1
  go_wp2_with fail
  refine bodyPost_ret (res_look _ _ w.heap.size _ _ _ _ _ rfl rfl (chain4_row H2.out.1 _ _ _ _)) rfl ?_
  exact keepA HG.out ((chain4_but _ _ _ _ _ _).below H2.out.2 (Nat.le_refl _)) rfl
set_option maxRecDepth 20000 in
set_option maxHeartbeats 2000000 in
/-- What is in a sealed one is no row of two. -/
theorem klook_kind {N : List T.Nd} (h : T.Gd w0 w tb mb N n rs) {k m x : Int} (hm : T.IsSeal N m k (T.bstr tickH) x) (hx : 1 ≤ x) {d : T.Nd} (hd : N[(x - 1).toNat]? = some d) (hk : d.1 ≠ 3 ∨ d.2.2.length ≠ 2) :
    Calls Tryd.prog 29 #[.pointer (some ⟨tb, 0, none⟩), .int .i64 k, .int .i64 m] w fun e w' => KlV none e ∧ T.Gd w0 w' tb mb N n rs ∧ Below w.heap.size w w' := by
  obtain ⟨W, hW⟩ : ∃ W, w.alloc zTk = W := ⟨_, rfl⟩
  have hbW : Below w.heap.size w W := by rw [← hW]; exact below_alloc w _
  have hM : W.heap[w.heap.size]? = some (.cells #[.int .i64 0, .int .i64 0, .int .i64 0, .int .i64 0] 44 (0, 0)) := by rw [← hW]; exact heap_alloc_new w _
  have hcv := T.conv_const
  have b1 := below_alloc W (.cells (T.cs .u8 tickH).toArray 5 ((T.cs .u8 tickH).toArray.size, (T.cs .u8 tickH).toArray.size + 1))
  have c1 := ((h.keep hbW).keep b1).openG hm k (T.Rd.litM W tickH 6 rfl (by simp))
  have e2 : T.openB k k (T.bstr tickH) (T.bstr tickH) = true := by simp [T.openB]
  rw [e2] at c1
  simp only [if_true] at c1
  have HG := Lib.hid h
  have HD := Lib.hid (And.intro hx hd)
  have HM := Lib.hid (And.intro ((b1.block _ (blkLt hM)).trans hM) (hbW.trans (b1.mono hbW.size)))
  obtain ⟨dk, ds, dp⟩ := d
  simp only at hk
  clear h hbW hM b1 hm hx hd e2
  by_cases q1 : dk = 3
  · have q2 : dp.length ≠ 2 := hk.resolve_left (fun e => e q1)
    have q2' : ((dp.length : Int) != 2) = true := by rw [bne_iff_ne]; omega
    subst q1
    clear hk q2
    go_enter Tryd.func29, Tryd.ntmps29
    go_wp2_with fail
    refine c1.mono ?_
    rintro e w1 ⟨rfl, g1, b1⟩
    have c2 := g1.lookAt HD.out.1 HD.out.2
    have H1 := Lib.hid (And.intro ((b1.block _ (blkLt HM.out.1)).trans HM.out.1) (HM.out.2.trans (b1.mono HM.out.2.size)))
    clear c1 g1 b1 HM hcv
    go_wp2_with fail
    refine c2.mono ?_
    rintro e w2 ⟨pv, rfl, ho, g2, b2⟩
    obtain ⟨ao, cap, rfl, _, _⟩ := T.own_shape ho
    have b3 := fun o => below_alloc w2 o
    have hM2 := (b2.block _ (blkLt H1.out.1)).trans H1.out.1
    have B2 := H1.out.2.trans (b2.mono H1.out.2.size)
    have hM3 := fun o => ((b3 o).block _ (blkLt hM2)).trans hM2
    have H2 := Lib.hid (And.intro hM3 (fun o => B2.trans ((b3 o).mono B2.size)))
    have m0 := fun o => (cells4 (hM3 o)).1
    have m1 := fun o => (cells4 (hM3 o)).2.1
    have m2 := fun o => (cells4 (hM3 o)).2.2.1
    have m3 := fun o => (cells4 (hM3 o)).2.2.2.1
    have mf := fun o => (cells4 (hM3 o)).2.2.2.2
    clear c2 g2 b2 b3 hM2 hM3 B2 H1 ho
    go_wp2_with fail
    refine bodyPost_ret (res_look _ _ w.heap.size _ _ _ _ _ rfl rfl (chain4_row (H2.out.1 _) _ _ _ _)) rfl ?_
    exact keepA HG.out ((chain4_but _ _ _ _ _ _).below (H2.out.2 _) (Nat.le_refl _)) rfl
  · have q1' : (dk != 3) = true := by simp [q1]
    clear hk q1
    go_enter Tryd.func29, Tryd.ntmps29
    go_wp2_with fail
    refine c1.mono ?_
    rintro e w1 ⟨rfl, g1, b1⟩
    have c2 := g1.lookAt HD.out.1 HD.out.2
    have H1 := Lib.hid (And.intro ((b1.block _ (blkLt HM.out.1)).trans HM.out.1) (HM.out.2.trans (b1.mono HM.out.2.size)))
    clear c1 g1 b1 HM hcv
    go_wp2_with fail
    refine c2.mono ?_
    rintro e w2 ⟨pv, rfl, ho, g2, b2⟩
    obtain ⟨ao, cap, rfl, _, _⟩ := T.own_shape ho
    have b3 := fun o => below_alloc w2 o
    have hM2 := (b2.block _ (blkLt H1.out.1)).trans H1.out.1
    have B2 := H1.out.2.trans (b2.mono H1.out.2.size)
    have hM3 := fun o => ((b3 o).block _ (blkLt hM2)).trans hM2
    have H2 := Lib.hid (And.intro hM3 (fun o => B2.trans ((b3 o).mono B2.size)))
    have m0 := fun o => (cells4 (hM3 o)).1
    have m1 := fun o => (cells4 (hM3 o)).2.1
    have m2 := fun o => (cells4 (hM3 o)).2.2.1
    have m3 := fun o => (cells4 (hM3 o)).2.2.2.1
    have mf := fun o => (cells4 (hM3 o)).2.2.2.2
    clear c2 g2 b2 b3 hM2 hM3 B2 H1 ho
    go_wp2_with fail
    refine bodyPost_ret (res_look _ _ w.heap.size _ _ _ _ _ rfl rfl (chain4_row (H2.out.1 _) _ _ _ _)) rfl ?_
    exact keepA HG.out ((chain4_but _ _ _ _ _ _).below (H2.out.2 _) (Nat.le_refl _)) rfl
/-- What a row of two says: its first part's text's numbers, its second part. -/
def sayK (d : T.Nd) (p : Int) : Option (Int × Int × Int × Int) := if d.1 = 1 then (tickR (T.sbytes d.2.1)).map fun r => (r.1, r.2.1, r.2.2, p) else none
set_option maxRecDepth 20000 in
set_option maxHeartbeats 2000000 in
theorem klook_row {N : List T.Nd} (h : T.Gd w0 w tb mb N n rs) {k m x p q : Int} (hm : T.IsSeal N m k (T.bstr tickH) x) (hx : T.Has N x (3, ByteArray.empty, [p, q])) (hp : 1 ≤ p) {d : T.Nd} (hd : N[(p - 1).toNat]? = some d) (hs : d.2.1.size ≤ 2048) :
    Calls Tryd.prog 29 #[.pointer (some ⟨tb, 0, none⟩), .int .i64 k, .int .i64 m] w fun e w' => KlV (sayK d q) e ∧ T.Gd w0 w' tb mb N n rs ∧ Below w.heap.size w w' := by
  obtain ⟨W, hW⟩ : ∃ W, w.alloc zTk = W := ⟨_, rfl⟩
  have hbW : Below w.heap.size w W := by rw [← hW]; exact below_alloc w _
  have hM : W.heap[w.heap.size]? = some (.cells #[.int .i64 0, .int .i64 0, .int .i64 0, .int .i64 0] 44 (0, 0)) := by rw [← hW]; exact heap_alloc_new w _
  have hcv := T.conv_const
  have b1 := below_alloc W (.cells (T.cs .u8 tickH).toArray 5 ((T.cs .u8 tickH).toArray.size, (T.cs .u8 tickH).toArray.size + 1))
  have c1 := ((h.keep hbW).keep b1).openG hm k (T.Rd.litM W tickH 6 rfl (by simp))
  have e2 : T.openB k k (T.bstr tickH) (T.bstr tickH) = true := by simp [T.openB]
  rw [e2] at c1
  simp only [if_true] at c1
  have HG := Lib.hid h
  have HD := Lib.hid (And.intro hx (And.intro hp (And.intro hd hs)))
  have HM := Lib.hid (And.intro ((b1.block _ (blkLt hM)).trans hM) (hbW.trans (b1.mono hbW.size)))
  obtain ⟨dk, ds, dp⟩ := d
  obtain ⟨R, hR⟩ : ∃ R, sayK (dk, ds, dp) q = R := ⟨_, rfl⟩
  rw [hR]
  have HR := Lib.hid hR
  clear h hbW hM b1 hm hx hd e2 hp hs hR
  go_enter Tryd.func29, Tryd.ntmps29
  go_wp2_with fail
  refine c1.mono ?_
  rintro e w1 ⟨rfl, g1, b1⟩
  have c2 := g1.st.st.look2 HD.out.1
  have H1 := Lib.hid (And.intro g1 (And.intro ((b1.block _ (blkLt HM.out.1)).trans HM.out.1) (HM.out.2.trans (b1.mono HM.out.2.size))))
  clear c1 g1 b1 HM hcv
  go_wp2_with fail
  refine c2.mono ?_
  rintro e w2 ⟨g, cg, rfl, hc1, hc2, hgl, k0, k1, -, b2⟩
  have b3 := below_alloc w2 (.cells #[.int .i64 3, .string ByteArray.empty, .slice (some ⟨g, 0, none⟩) 2 cg] 54)
  have g3 := (H1.out.1.keep b2).keep b3
  have c3 := g3.lookAt HD.out.2.1 HD.out.2.2.1
  have hM2 := (b2.block _ (blkLt H1.out.2.1)).trans H1.out.2.1
  have hM3 := (b3.block _ (blkLt hM2)).trans hM2
  have B2 := H1.out.2.2.trans (b2.mono H1.out.2.2.size)
  have nb := heap_alloc_new w2 (.cells #[.int .i64 3, .string ByteArray.empty, .slice (some ⟨g, 0, none⟩) 2 cg] 54)
  have k0' := (b3.cell (p := ⟨g, 0, none⟩) hgl).trans k0
  have k1' := (b3.cell (p := ⟨g, 1, none⟩) hgl).trans k1
  have H3 := Lib.hid (And.intro hM3 (And.intro (B2.trans (b3.mono B2.size)) (And.intro nb (And.intro k1' k0'))))
  obtain ⟨y0, y1, y2, -⟩ := cells3 nb
  clear c2 b2 b3 hM2 hM3 B2 H1 k0 k1 nb g3
  go_wp2_with fail
  refine c3.mono ?_
  rintro e w4 ⟨pv, rfl, ho, -, b4⟩
  obtain ⟨ao, cap, rfl, _, _⟩ := T.own_shape ho
  have b5 := below_alloc w4 (.cells #[.int .i64 dk, .string ds, .slice ao dp.length cap] 54)
  obtain ⟨cp, w5, hv, hr, b6⟩ := T.conv_strP (w4.alloc (.cells #[.int .i64 dk, .string ds, .slice ao dp.length cap] 54)) ds (by have := HD.out.2.2.2; unfold maxLen; omega)
  have c4 := kread_any (w := w5) (zs := T.sbytes ds) (by rw [T.sbytes_len]; exact Rd.ofT hr (sbytes_byt ds)) (.inr ⟨_, _, _, _, rfl⟩) (by rw [T.sbytes_len]; have := HD.out.2.2.2; omega)
  rw [T.sbytes_len, World.size_alloc] at c4
  have nb4 := heap_alloc_new w4 (.cells #[.int .i64 dk, .string ds, .slice ao dp.length cap] 54)
  have B5 := b4.trans ((b5.mono b4.size).trans ((b6.mono b5.size).mono b4.size))
  have H5 := Lib.hid (And.intro ((B5.block _ (blkLt H3.out.1)).trans H3.out.1) (And.intro (H3.out.2.1.trans (B5.mono H3.out.2.1.size)) (And.intro ((B5.block _ (blkLt H3.out.2.2.1)).trans H3.out.2.2.1) (And.intro ((B5.cell (cell_lt H3.out.2.2.2.1)).trans H3.out.2.2.2.1) ((b6.block _ (blkLt nb4)).trans nb4)))))
  clear c3 ho b4 b5 b6 nb4 B5 hr k0' k1' y0 y1 y2 H3
  go_wp2_with fail
  refine c4.mono ?_
  rintro e w6 ⟨x0, x1, x2, r, rfl, hx, b6⟩
  have b7 := below_alloc w6 (.cells #[.int .i64 x0, .int .i64 x1, .int .i64 x2] 71)
  have B7 := b6.trans (b7.mono b6.size)
  have nb7 := heap_alloc_new w6 (.cells #[.int .i64 x0, .int .i64 x1, .int .i64 x2] 71)
  have R7 := (B7.block _ (blkLt H5.out.1)).trans H5.out.1
  have H7 := Lib.hid (And.intro R7 (H5.out.2.1.trans (B7.mono H5.out.2.1.size)))
  obtain ⟨m0, m1, m2, m3, mf⟩ := cells4 R7
  obtain ⟨y0, y1, y2, -⟩ := cells3 ((B7.block _ (blkLt H5.out.2.2.1)).trans H5.out.2.2.1)
  obtain ⟨z0, z1, z2, -⟩ := cells3 ((B7.block _ (blkLt H5.out.2.2.2.2)).trans H5.out.2.2.2.2)
  have k1 := (B7.cell (cell_lt H5.out.2.2.2.1)).trans H5.out.2.2.2.1
  obtain ⟨u0, u1, u2, -⟩ := cells3 nb7
  have HX := Lib.hid hx
  clear c4 hv hx b6 b7 B7 nb7 R7 H5
  by_cases q1 : dk = 1
  · subst q1
    cases r with
    | false =>
      have HN : Hid (R = none) := Lib.hid (by rw [← HR.out]; simp [sayK, HX.out])
      go_wp2_with fail
      refine bodyPost_ret (res_look _ _ w.heap.size _ _ _ _ _ rfl rfl (chain4_row H7.out.1 _ _ _ _)) rfl ?_
      rw [HN.out]
      exact keepA HG.out ((chain4_but _ _ _ _ _ _).below H7.out.2 (Nat.le_refl _)) rfl
    | true =>
      have HN : Hid (R = some (x0, x1, x2, q)) := Lib.hid (by rw [← HR.out]; simp [sayK, HX.out])
      obtain ⟨W7, hW7⟩ : ∃ W7, w6.alloc (.cells #[.int .i64 x0, .int .i64 x1, .int .i64 x2] 71) = W7 := ⟨_, rfl⟩
      rw [hW7] at m0 m1 m2 m3 y0 y1 y2 z0 z1 z2 k1 u0 u1 u2 H7
      simp only [hW7] at mf
      go_wp2_with fail
      clear hW7
      trace "A"
      go_still_tail 11, (by kernel_rfl)
      trace "B"
      have m0d : W7.drew.cell? ⟨w.heap.size, 0, none⟩ = some (.int .i64 0) := m0
      have m1d : W7.drew.cell? ⟨w.heap.size, 1, none⟩ = some (.int .i64 0) := m1
      have m2d : W7.drew.cell? ⟨w.heap.size, 2, none⟩ = some (.int .i64 0) := m2
      have m3d : W7.drew.cell? ⟨w.heap.size, 3, none⟩ = some (.int .i64 0) := m3
      have mfd : ∀ j, W7.drew.frozen? ⟨w.heap.size, j, none⟩ = false := mf
      go_wp2_with fail
      refine bodyPost_ret (res_look _ _ w.heap.size _ _ _ _ _ rfl rfl (chain4_row (w := W7.drew) H7.out.1 _ _ _ _)) rfl ?_
      rw [HN.out]
      exact keepA HG.out ((chain4_but _ _ _ _ _ _).below H7.out.2.drew (Nat.le_refl _)) rfl
  · have q1' : (dk != 1) = true := by simp [q1]
    have HN : Hid (R = none) := Lib.hid (by rw [← HR.out]; simp [sayK, q1])
    go_wp2_with fail
    refine bodyPost_ret (res_look _ _ w.heap.size _ _ _ _ _ rfl rfl (chain4_row H7.out.1 _ _ _ _)) rfl ?_
    rw [HN.out]
    exact keepA HG.out ((chain4_but _ _ _ _ _ _).below H7.out.2 (Nat.le_refl _)) rfl
#print axioms klook_row
end Go.Proofs.YtepkhhpdpmhfaaaDoor
