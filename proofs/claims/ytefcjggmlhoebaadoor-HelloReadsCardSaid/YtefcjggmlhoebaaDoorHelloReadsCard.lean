/- HelloReads holds, as its card says it: the message of any bytes, as the document has it. It is tied to the tables of math/bits. -/
import Derived.Test.YtefcjggmlhoebaaDoorHQZ0
import Derived.Test.YtefcjggmlhoebaaDoorHOk
import Derived.Test.YtefcjggmlhoebaaDoorPRd12
import Derived.Test.YtefcjggmlhoebaaDoorFrame
import Derived.Test.YtefcjggmlhoebaaDoorGPure
import Derived.Test.YtefcjggmlhoebaaDoorHQRm
import Derived.Test.YtefcjggmlhoebaaDoorHQR4
import Derived.Test.YtefcjggmlhoebaaDoorHQR1
import Derived.Test.YtefcjggmlhoebaaDoorHTold
namespace Go.Proofs.YtefcjggmlhoebaaDoor
open Go Go.RowKit

set_option maxRecDepth 20000 in
set_option maxHeartbeats 2000000 in
theorem rpok : RqOk okP := fun W v ys hr hl => by
  have hrd := rread_any hr hl
  unfold RPost at hrd
  have HX : Hid (okP ys = ((resP ys).2 == 0)) := Lib.hid rfl
  generalize resP ys = R at *
  obtain ⟨q, e⟩ := R
  simp only at hrd HX
  obtain ⟨a, c, rfl⟩ := hr.shape
  clear hr
  go_enter Tryd.func23, Tryd.ntmps23
  go_wp2_with (go_at_call 55; refine hrd.mono ?_; rintro e1 w1 ⟨v5, v6, v7, v9, rfl, hpr, hb1⟩; obtain ⟨a5, k5, rfl⟩ := hpr.g.shape; obtain ⟨a6, k6, rfl⟩ := hpr.o.shape; obtain ⟨a7, k7, rfl⟩ := hpr.r.shape; obtain ⟨a9, k9, rfl⟩ := hpr.l.shape; unfold pAgg)
  go_ret
  exact ⟨ret_bl14 HX.out.symm, hb1.trans ((below_alloc w1 _).mono hb1.size)⟩
end Go.Proofs.YtefcjggmlhoebaaDoor
namespace Go.Proofs.YtefcjggmlhoebaaDoor
open Go Go.RowKit

set_option maxRecDepth 20000 in
theorem plain_inH {W : World} {r : Reach} {b : Nat} {a : Option Addr} {len cap : Nat} (h : Value.okWide Tryd.prog W r b 22 (.slice a len cap)) : Plain (.slice a len cap) := by
  unfold Value.okWide at h
  rw [Tryd.underlying22] at h
  simp only [Cell.okWide, Tryd.underlying22, Cell.ok] at h
  cases a with
  | none =>
    split at h
    all_goals first
      | (rename_i e1 e2; cases e1; cases e2; exact .inl rfl)
      | (exfalso; simp_all; done)
  | some x =>
    obtain ⟨b, off, spot⟩ := x
    have hs : spot = none := h.2.2.2.1
    subst hs
    exact .inr ⟨_, _, _, _, rfl⟩
theorem hparse_nbyt {zs : List Int} (hb : Byt zs) {k : Int} {t t' : Nat} {x : Hm} (h : hParse zs k t = some (x, t')) : Byt x.n := by
  unfold hParse at h
  by_cases k1 : k = 1
  · rw [if_pos k1] at h
    repeat' split at h
    all_goals cases h
    exact Byt.nil
  rw [if_neg k1] at h
  by_cases k2 : k = 2
  · rw [if_pos k2] at h
    repeat' split at h
    all_goals cases h
    exact Byt.nil
  rw [if_neg k2] at h
  by_cases k4 : k = 4
  · rw [if_pos k4] at h
    repeat' split at h
    all_goals cases h
    exact Byt.nil
  rw [if_neg k4] at h
  by_cases k8 : k = 8
  · rw [if_pos k8] at h
    repeat' split at h
    all_goals cases h
    exact Byt.nil
  rw [if_neg k8] at h
  by_cases k11 : k = 11
  · rw [if_pos k11] at h
    cases h
    exact hb.drop t
  rw [if_neg k11] at h
  repeat' split at h
  all_goals cases h
  exact Byt.nil
/-- What is known of a message that was read. -/
theorem hread_facts {ok : List Int → Bool} {zs : List Int} (hb : Byt zs) {x : Hm} (h : hRead ok zs = some x) : Byt x.n ∧ x.p.length ≤ zs.length ∧ rightB (ok x.p) x = true ∧ wrM x = zs ∧ 4 ≤ zs.length := by
  obtain ⟨h1, h2, h3⟩ := hread_one h
  exact ⟨hparse_nbyt hb h2, hparse_plen hb h2 h1.1, (rightB_iff ok x).2 h3, hread_again hb h, h1.1⟩
set_option maxRecDepth 20000 in
set_option maxHeartbeats 4000000 in
theorem hhagain_walk {w : World} {v : Value} {zs : List Int} (hr : Rd w v zs) (hp : Plain v) (ht : Tab w) (hw : 1 < w.heap.size) :
    Calls Tryd.prog 6 #[v] w fun e w' => e = .returned (.bool true) ∧ Below w.heap.size w w' := by
  have hl := hr.len
  obtain ⟨ao, cap, rfl⟩ := hr.shape
  by_cases h8 : 800 < zs.length
  · clear hr hp ht hw
    go_enter Tryd.func6, Tryd.ntmps6
    go_wp2_with fail
    go_ret
    exact ⟨rfl, Below.refl _ _⟩
  · have hrd := hread_any prok vrok hr hp (by omega)
    have HR := Lib.hid hr
    have HT := Lib.hid ht
    have HW := Lib.hid hw
    have hbt := hr.byt
    clear hr hp ht hw
    go_enter Tryd.func6, Tryd.ntmps6
    go_wp2_with fail
    refine hrd.mono ?_
    unfold HRP
    rintro e w1 ⟨x, vp, n, rfl, hrx, hpx, hb1, hcase⟩
    obtain ⟨ax, cx, rfl⟩ := hrx.shape
    have hY := below_alloc w1 (.cells (mcl x.k x.r x.s x.t x.m x.f (.slice ax x.p.length cx) (bstr x.n) x.v x.l) 28)
    have hM := mbox_new w1 x.k x.r x.s x.t x.m x.f (.slice ax x.p.length cx) (bstr x.n) x.v x.l
    have HB2 := Lib.hid (hb1.trans (hY.mono hb1.size))
    have HRX := Lib.hid (hrx.below hY)
    obtain ⟨⟨c0, c1, c2, c3, c4, c5, c6, c7, c8, c9⟩, cf⟩ := hM.cells
    unfold mAgg mcl at *
    rcases hcase with ⟨rfl, -, -⟩ | ⟨rfl, hyes⟩
    · clear hrd hM c0 c1 c2 c3 c4 c5 c6 c7 c8 c9 cf hrx
      go_wp2_with (go_at_call 13; refine (hhawake_any _ (HT.out.below HB2.out) (by have := HW.out; have := HB2.out.size; omega)).mono ?_; rintro e w4 ⟨rfl, hb4⟩)
      go_ret
      exact ⟨rfl, HB2.out.trans (hb4.mono HB2.out.size)⟩
    · obtain ⟨f1, f2, f3, f4, _⟩ := hread_facts hbt hyes
      have hwr := hwrite_any prok vrok oklen x HRX.out hpx (by omega) f1 (HT.out.below HB2.out) (by have := HW.out; have := HB2.out.size; omega)
      unfold HWP at hwr
      rw [show wrH okP x = zs by unfold wrH; rw [if_pos f3, f4]] at hwr
      unfold mAgg mcl at hwr
      clear hrd hM hyes f1 f2 f3 f4 hrx hb1 hY hpx
      go_wp2_with fail
      refine hwr.mono ?_
      rintro e w2 ⟨v2, rfl, r2, _, hb2⟩
      have B2 := HB2.out.trans (hb2.mono HB2.out.size)
      have hsm := same_any r2 (HR.out.below B2)
      rw [decide_eq_true rfl] at hsm
      obtain ⟨a2, k2, rfl⟩ := r2.shape
      have HB := Lib.hid B2
      clear hb2 r2 B2 hwr c0 c1 c2 c3 c4 c5 c6 c7 c8 c9 cf
      go_wp2_with (first
        | (go_at_call 14; refine hsm.mono ?_; rintro e w3 ⟨rfl, hb3⟩)
        | (go_at_call 13; refine (hhawake_any _ (HT.out.below (HB.out.trans (hb3.mono HB.out.size))) (by have := HW.out; have := HB.out.size; have := hb3.size; omega)).mono ?_; rintro e w4 ⟨rfl, hb4⟩))
      go_ret
      have B3 := HB.out.trans (hb3.mono HB.out.size)
      exact ⟨rfl, B3.trans (hb4.mono B3.size)⟩
#print axioms hhagain_walk
end Go.Proofs.YtefcjggmlhoebaaDoor
namespace Go.Proofs.YtefcjggmlhoebaaDoor
open Go Go.RowKit

/-- A message's bytes without its mac, if it is a client's hello that has one. -/
def shortX (x : Hm) (zs : List Int) : List Int := if x.k = 1 ∧ x.t ≠ 0 then zs.take (zs.length - 4) else zs
open Classical in
/-- Bytes without the mac of the message that they are. -/
noncomputable def shortB (zs : List Int) : List Int := match hRead okP zs with | some x => shortX x zs | none => zs
theorem shortB_no {zs : List Int} (h : hRead okP zs = none) : shortB zs = zs := by unfold shortB; rw [h]
theorem shortB_of {zs : List Int} {x : Hm} (h : hRead okP zs = some x) : shortB zs = shortX x zs := by unfold shortB; rw [h]
set_option maxRecDepth 20000 in
set_option maxHeartbeats 4000000 in
theorem hshort_any {w : World} {v : Value} {zs : List Int} (hr : Rd w v zs) (hp : Plain v) (hl : zs.length ≤ 1000000) :
    Calls Tryd.prog 19 #[v] w fun e w' => ∃ v', e = .returned v' ∧ Rd w' v' (shortB zs) ∧ Below w.heap.size w w' := by
  have hrd := hread_any prok vrok hr hp hl
  have hbt := hr.byt
  have HR := Lib.hid hr
  have HP := Lib.hid hp
  obtain ⟨ao, cap, rfl⟩ := hr.shape
  clear hr hp
  go_enter Tryd.func19, Tryd.ntmps19
  go_wp2_with fail
  refine hrd.mono ?_
  unfold HRP
  rintro e w1 ⟨x, vp, n, rfl, hrx, hpx, hb1, hcase⟩
  have hsh : shortB zs = shortX x zs ∧ (x.k = 1 → 4 ≤ zs.length) := by
    rcases hcase with ⟨_, hno, rfl⟩ | ⟨_, hyes⟩
    · exact ⟨by rw [shortB_no hno]; rfl, fun h => by cases h⟩
    · exact ⟨shortB_of hyes, fun _ => (hread_facts hbt hyes).2.2.2.2⟩
  obtain ⟨ax, cx, rfl⟩ := hrx.shape
  have hY := below_alloc w1 (.cells (mcl x.k x.r x.s x.t x.m x.f (.slice ax x.p.length cx) (bstr x.n) x.v x.l) 28)
  have hM := mbox_new w1 x.k x.r x.s x.t x.m x.f (.slice ax x.p.length cx) (bstr x.n) x.v x.l
  have HB2 := Lib.hid (hb1.trans (hY.mono hb1.size))
  have hR2 := HR.out.below HB2.out
  obtain ⟨⟨c0, c1, c2, c3, c4, c5, c6, c7, c8, c9⟩, cf⟩ := hM.cells
  unfold mAgg mcl at *
  have HE := Lib.hid hsh.1
  have h4 := hsh.2
  clear hrd hM hrx hpx hcase hsh hb1 hY hbt
  have hcl := clone_any hR2 HP.out hl
  have HR2 := Lib.hid hR2
  clear hR2
  by_cases hk : x.k = 1
  case neg =>
    have z1 : (x.k == 1) = false := by simp [hk]
    have HS : Hid (shortB zs = zs) := Lib.hid (by rw [HE.out]; unfold shortX; rw [if_neg (fun h => hk h.1)])
    clear hk h4
    go_wp2_with (go_at_call 48; refine hcl.mono ?_; rintro e w2 ⟨v2, rfl, ⟨hra, hpa⟩, hb2⟩)
    go_ret
    exact ⟨_, rfl, by rw [HS.out]; exact hra.rd, HB2.out.trans (hb2.mono HB2.out.size)⟩
  have z1 : (x.k == 1) = true := by simp [hk]
  by_cases ht : x.t = 0
  · have z2 : (x.t != 0) = false := by simp [ht]
    have HS : Hid (shortB zs = zs) := Lib.hid (by rw [HE.out]; unfold shortX; rw [if_neg (fun h => h.2 ht)])
    clear hk h4 ht
    go_wp2_with (go_at_call 48; refine hcl.mono ?_; rintro e w2 ⟨v2, rfl, ⟨hra, hpa⟩, hb2⟩)
    go_ret
    exact ⟨_, rfl, by rw [HS.out]; exact hra.rd, HB2.out.trans (hb2.mono HB2.out.size)⟩
  · have z2 : (x.t != 0) = true := bne_iff_ne.2 ht
    have hl4 := h4 hk
    have HS : Hid (shortB zs = zs.take (zs.length - 4)) := Lib.hid (by rw [HE.out]; unfold shortX; rw [if_pos ⟨hk, ht⟩])
    clear hk h4 ht hcl
    rcases HP.out with hv | ⟨b, off, n', cap', hv⟩
    · simp only [Value.slice.injEq] at hv; have := hv.2.1; omega
    simp only [Value.slice.injEq] at hv
    obtain ⟨rfl, rfl, rfl⟩ := hv
    have hcl := clone_any (HR2.out.take (zs.length - 4) (by omega)) (.inr ⟨_, _, _, _, rfl⟩) (by rw [List.length_take]; omega)
    have hn4 : (zs.length : Int) - 4 = ((zs.length - 4 : Nat) : Int) := by omega
    have hlt := HR2.out.len
    have hlc : zs.length ≤ cap := by
      obtain ⟨_, _, e, q1, _⟩ := HR2.out
      simp only [Value.slice.injEq] at e
      obtain ⟨_, _, rfl⟩ := e
      exact q1
    go_wp2_with (go_at_call 48; refine hcl.mono ?_; rintro e w2 ⟨v2, rfl, ⟨hra, hpa⟩, hb2⟩)
    go_ret
    exact ⟨_, rfl, by rw [HS.out]; exact hra.rd, HB2.out.trans (hb2.mono HB2.out.size)⟩
#print axioms hshort_any
end Go.Proofs.YtefcjggmlhoebaaDoor
namespace Go.Proofs.YtefcjggmlhoebaaDoor
open Go Go.RowKit

theorem qread_any {ok : List Int → Bool} (hp : RqOk ok) {w : World} {v : Value} {zs : List Int} (hr : Rd w v zs) (hpl : Plain v) (hl : zs.length ≤ 1000) :
    Calls Tryd.prog 17 #[v] w (HRR ok zs w) := by
  by_cases ho : oneH zs
  case neg => exact rread_no hr hpl hl ho
  by_cases h1 : zs.getD 0 0 = 1
  · exact rread_1 hp hr hpl hl ho h1
  by_cases h2 : zs.getD 0 0 = 2
  · exact rread_2 hp hr hpl hl ho h2
  by_cases h4 : zs.getD 0 0 = 4
  · exact rread_4 hp hr hpl hl ho h4
  by_cases h8 : zs.getD 0 0 = 8
  · exact rread_8 hp hr hpl hl ho h8
  by_cases h11 : zs.getD 0 0 = 11
  · exact rread_11 hp hr hpl hl ho h11
  by_cases h15 : zs.getD 0 0 = 15
  · exact rread_15 hp hr hpl hl ho h15
  by_cases h20 : zs.getD 0 0 = 20
  · exact rread_20 hp hr hpl hl ho h20
  exact rread_other hp hr hpl hl ho _ h1 h2 h4 h8 h11 h15 h20 rfl
#print axioms qread_any
end Go.Proofs.YtefcjggmlhoebaaDoor
namespace Go.Proofs.YtefcjggmlhoebaaDoor
open Go Go.RowKit

set_option maxRecDepth 20000 in
theorem hlr_end {w W : World} (tmps : Array Value) (h2 : tmps[2]?.getD undef = .bool true) (hB : Below w.heap.size w W) :
    bodyPost Tryd.prog Tryd.f4 (fun e w' => e = .returned (.bool true) ∧ Below w.heap.size w w') .ret ⟨tmps, []⟩ W :=
  bodyPost_ret (v := .bool true) (by simp [results, Tryd.results4, h2, go_sem]) rfl ⟨rfl, hB⟩
set_option maxRecDepth 20000 in
set_option maxHeartbeats 8000000 in
theorem hhreads_walk {w : World} {v : Value} {zs : List Int} (hr : Rd w v zs) (hp : Plain v) (ht : Tab w) (hw : 1 < w.heap.size) :
    Calls Tryd.prog 4 #[v] w fun e w' => e = .returned (.bool true) ∧ Below w.heap.size w w' := by
  have hl := hr.len
  by_cases h8 : 800 < zs.length
  · obtain ⟨ao, cap, rfl⟩ := hr.shape
    have h8' : decide ((800 : Int) < (zs.length : Int)) = true := decide_eq_true (by omega)
    clear hr hp ht hw
    go_enter Tryd.func4, Tryd.ntmps4
    go_wp2_with fail
    go_ret
    exact ⟨rfl, Below.refl _ _⟩
  have h8' : decide ((800 : Int) < (zs.length : Int)) = false := decide_eq_false (by omega)
  have HR := Lib.hid hr
  have HP := Lib.hid hp
  have HT := Lib.hid ht
  have HW := Lib.hid hw
  have hbt := hr.byt
  have hO := own_fresh w 5
  have HR1 := Lib.hid (hr.alloc (.cells #[] 5))
  have hs1 : w.heap.size ≤ (w.alloc (.cells #[] 5)).heap.size := by simp
  have hbe := below_alloc w (.cells #[] 5)
  obtain ⟨ao, cap, rfl⟩ := hr.shape
  clear hr hp ht hw
  go_enter Tryd.func4, Tryd.ntmps4
  go_wp2_with (first
    | (at_builtin; refine wpList_append_bytes (.tmp 12) (.tmp 13) 22 rfl rfl info5 Tryd.underlying22 w.heap.size _ 0 [] rfl hO _ zs rfl HR1.out (by omega) hs1 ?_; intro v5 w5 hown5 hb5; simp only [List.nil_append, Nat.zero_add] at hown5; have hra5 := ra_own hown5 hbt; have hrd5 := hread_any prok vrok hra5.1.rd hra5.2 (by omega); obtain ⟨a5, c5, rfl⟩ := own_shapeH hown5; have HB5 := Lib.hid (hbe.trans hb5); clear hown5 hb5 hra5))
  refine hrd5.mono ?_
  unfold HRP
  rintro e w6 ⟨x, vp, n, rfl, hrx, hpx, hb6, hcase⟩
  obtain ⟨ax, cx, rfl⟩ := hrx.shape
  have hY := below_alloc w6 (.cells (mcl x.k x.r x.s x.t x.m x.f (.slice ax x.p.length cx) (bstr x.n) x.v x.l) 28)
  have hM := mbox_new w6 x.k x.r x.s x.t x.m x.f (.slice ax x.p.length cx) (bstr x.n) x.v x.l
  have HB7 := Lib.hid ((HB5.out.trans (hb6.mono HB5.out.size)).trans (hY.mono (Nat.le_trans HB5.out.size hb6.size)))
  have HRX := Lib.hid (hrx.below hY)
  have HM := Lib.hid hM
  have HC := Lib.hid hcase
  have hq := qread_any rpok (HR.out.below HB7.out) HP.out (by omega)
  unfold mAgg mcl at *
  clear hrd5 hrx hpx hb6 hY hM hcase hO hs1 hbe HR1
  go_wp2_with fail
  generalize w6.alloc (.cells #[.int .i64 x.k, .int .i64 x.r, .int .i64 x.s, .int .i64 x.t, .int .i64 x.m, .bool x.f, .slice ax x.p.length cx, .string (bstr x.n), .int .i64 x.v, .int .i64 x.l] 28) = W7 at *
  refine hq.mono ?_
  unfold HRR
  rintro e w8 ⟨x2, vq, b, rfl, hrq, hb8, hcase2⟩
  have hx : x = x2 ∧ ((n = 3 ∧ b = false ∧ hRead okP zs = none) ∨ (n = 0 ∧ b = true ∧ hRead okP zs = some x)) := by
    rcases HC.out with ⟨h1, h2, h3⟩ | ⟨h1, h2⟩ <;> rcases hcase2 with ⟨g1, g2, g3⟩ | ⟨g1, g2⟩
    · exact ⟨h3.trans g3.symm, .inl ⟨h1, g1, g2⟩⟩
    · rw [h2] at g2; cases g2
    · rw [h2] at g2; cases g2
    · rw [h2] at g2; cases g2; exact ⟨rfl, .inr ⟨h1, g1, h2⟩⟩
  clear hcase2 HC
  obtain ⟨rfl, hx⟩ := hx
  obtain ⟨aq, cq, rfl⟩ := hrq.shape
  have hY9 := below_alloc w8 (.cells (mcl x.k x.r x.s x.t x.m x.f (.slice aq x.p.length cq) (bstr x.n) x.v x.l) 24)
  have hN9 := rbox_new w8 x.k x.r x.s x.t x.m x.f (.slice aq x.p.length cq) (bstr x.n) x.v x.l
  have hM9 := (HM.out.below hb8).below hY9
  have HB9 := Lib.hid ((HB7.out.trans (hb8.mono HB7.out.size)).trans (hY9.mono (Nat.le_trans HB7.out.size hb8.size)))
  have htd := mtold_true (w8.alloc (.cells (mcl x.k x.r x.s x.t x.m x.f (.slice aq x.p.length cq) (bstr x.n) x.v x.l) 24)) x.k x.r x.s x.t x.m x.f ax x.p cx aq cq (bstr x.n) x.v x.l ((HRX.out.below hb8).below hY9) (hrq.below hY9)
  obtain ⟨⟨c0, c1, c2, c3, c4, c5, c6, c7, c8, c9⟩, cf⟩ := hM9.cells
  obtain ⟨⟨d0, d1, d2, d3, d4, d5, d6, d7, d8, d9⟩, df⟩ := hN9.cells
  unfold mAgg
  unfold mcl at *
  clear hq hM9 hN9 hY9 hb8 hrq HRX HM
  rcases hx with ⟨rfl, rfl, hno⟩ | ⟨rfl, rfl, hyes⟩
  · have HS : Hid (shortB zs = zs) := Lib.hid (shortB_no hno)
    clear hno
    go_wp2_with fail
    refine htd.mono ?_
    rintro e w10 ⟨rfl, hb10⟩
    have HB10 := Lib.hid (HB9.out.trans (hb10.mono HB9.out.size))
    have hsh := hshort_any (HR.out.below HB10.out) HP.out (by omega)
    clear htd hb10 c0 c1 c2 c3 c4 c5 c6 c7 c8 c9 cf d0 d1 d2 d3 d4 d5 d6 d7 d8 d9 df
    go_wp2_with fail
    refine hsh.mono ?_
    rintro e w11 ⟨v11, rfl, hr11, hb11⟩
    have HB11 := Lib.hid (HB10.out.trans (hb11.mono HB10.out.size))
    rw [HS.out] at hr11
    have hsm := same_any hr11 (HR.out.below HB11.out)
    rw [decide_eq_true rfl] at hsm
    obtain ⟨a11, k11, rfl⟩ := hr11.shape
    clear hsh hb11 hr11
    go_wp2_with fail
    refine hsm.mono ?_
    rintro e w12 ⟨rfl, hb12⟩
    have HB12 := Lib.hid (HB11.out.trans (hb12.mono HB11.out.size))
    clear hsm hb12
    go_wp2_with fail
    refine (hhawake_any _ (HT.out.below HB12.out) (by have := HW.out; have := HB12.out.size; omega)).mono ?_
    rintro e w13 ⟨rfl, hb13⟩
    go_wp2_with fail
    exact hlr_end _ rfl (HB12.out.trans (hb13.mono HB12.out.size))
  have HE := Lib.hid (shortB_of hyes)
  have hl4 : 4 ≤ zs.length := (hread_facts hbt hyes).2.2.2.2
  clear hyes
  by_cases hk : x.k = 1
  case neg =>
    have z1 : (x.k == 1) = false := by simp [hk]
    have HS : Hid (shortB zs = zs) := Lib.hid (by rw [HE.out]; unfold shortX; rw [if_neg (fun h => hk h.1)])
    clear hk
    go_wp2_with fail
    refine htd.mono ?_
    rintro e w10 ⟨rfl, hb10⟩
    have HB10 := Lib.hid (HB9.out.trans (hb10.mono HB9.out.size))
    have hsh := hshort_any (HR.out.below HB10.out) HP.out (by omega)
    clear htd hb10 c0 c1 c2 c3 c4 c5 c6 c7 c8 c9 cf d0 d1 d2 d3 d4 d5 d6 d7 d8 d9 df
    go_wp2_with fail
    refine hsh.mono ?_
    rintro e w11 ⟨v11, rfl, hr11, hb11⟩
    have HB11 := Lib.hid (HB10.out.trans (hb11.mono HB10.out.size))
    rw [HS.out] at hr11
    have hsm := same_any hr11 (HR.out.below HB11.out)
    rw [decide_eq_true rfl] at hsm
    obtain ⟨a11, k11, rfl⟩ := hr11.shape
    clear hsh hb11 hr11
    go_wp2_with fail
    refine hsm.mono ?_
    rintro e w12 ⟨rfl, hb12⟩
    have HB12 := Lib.hid (HB11.out.trans (hb12.mono HB11.out.size))
    clear hsm hb12
    go_wp2_with fail
    refine (hhawake_any _ (HT.out.below HB12.out) (by have := HW.out; have := HB12.out.size; omega)).mono ?_
    rintro e w13 ⟨rfl, hb13⟩
    go_wp2_with fail
    exact hlr_end _ rfl (HB12.out.trans (hb13.mono HB12.out.size))
  have z1 : (x.k == 1) = true := by simp [hk]
  by_cases ht : x.t = 0
  · have z2 : (x.t != 0) = false := by simp [ht]
    have HS : Hid (shortB zs = zs) := Lib.hid (by rw [HE.out]; unfold shortX; rw [if_neg (fun h => h.2 ht)])
    clear hk ht
    go_wp2_with fail
    refine htd.mono ?_
    rintro e w10 ⟨rfl, hb10⟩
    have HB10 := Lib.hid (HB9.out.trans (hb10.mono HB9.out.size))
    have hsh := hshort_any (HR.out.below HB10.out) HP.out (by omega)
    clear htd hb10 c0 c1 c2 c3 c4 c5 c6 c7 c8 c9 cf d0 d1 d2 d3 d4 d5 d6 d7 d8 d9 df
    go_wp2_with fail
    refine hsh.mono ?_
    rintro e w11 ⟨v11, rfl, hr11, hb11⟩
    have HB11 := Lib.hid (HB10.out.trans (hb11.mono HB10.out.size))
    rw [HS.out] at hr11
    have hsm := same_any hr11 (HR.out.below HB11.out)
    rw [decide_eq_true rfl] at hsm
    obtain ⟨a11, k11, rfl⟩ := hr11.shape
    clear hsh hb11 hr11
    go_wp2_with fail
    refine hsm.mono ?_
    rintro e w12 ⟨rfl, hb12⟩
    have HB12 := Lib.hid (HB11.out.trans (hb12.mono HB11.out.size))
    clear hsm hb12
    go_wp2_with fail
    refine (hhawake_any _ (HT.out.below HB12.out) (by have := HW.out; have := HB12.out.size; omega)).mono ?_
    rintro e w13 ⟨rfl, hb13⟩
    go_wp2_with fail
    exact hlr_end _ rfl (HB12.out.trans (hb13.mono HB12.out.size))
  · have z2 : (x.t != 0) = true := bne_iff_ne.2 ht
    have HS : Hid (shortB zs = zs.take (zs.length - 4)) := Lib.hid (by rw [HE.out]; unfold shortX; rw [if_pos ⟨hk, ht⟩])
    clear hk ht
    rcases HP.out with hv | ⟨b, off, n', cap', hv⟩
    · simp only [Value.slice.injEq] at hv; have := hv.2.1; omega
    simp only [Value.slice.injEq] at hv
    obtain ⟨rfl, rfl, rfl⟩ := hv
    have hn4 : (zs.length : Int) - 4 = ((zs.length - 4 : Nat) : Int) := by omega
    have hlc : zs.length ≤ cap := by
      obtain ⟨_, _, e, q1, _⟩ := HR.out
      simp only [Value.slice.injEq] at e
      obtain ⟨_, _, rfl⟩ := e
      exact q1
    go_wp2_with fail
    refine htd.mono ?_
    rintro e w10 ⟨rfl, hb10⟩
    have HB10 := Lib.hid (HB9.out.trans (hb10.mono HB9.out.size))
    have hsh := hshort_any (HR.out.below HB10.out) HP.out (by omega)
    clear htd hb10 c0 c1 c2 c3 c4 c5 c6 c7 c8 c9 cf d0 d1 d2 d3 d4 d5 d6 d7 d8 d9 df
    go_wp2_with fail
    refine hsh.mono ?_
    rintro e w11 ⟨v11, rfl, hr11, hb11⟩
    have HB11 := Lib.hid (HB10.out.trans (hb11.mono HB10.out.size))
    rw [HS.out] at hr11
    have hsm := same_any hr11 ((HR.out.below HB11.out).take (zs.length - 4) (by omega))
    rw [decide_eq_true rfl] at hsm
    obtain ⟨a11, k11, rfl⟩ := hr11.shape
    rw [List.length_take, Nat.min_eq_left (by omega)] at hsm
    clear hsh hb11 hr11
    go_wp2_with fail
    refine hsm.mono ?_
    rintro e w12 ⟨rfl, hb12⟩
    have HB12 := Lib.hid (HB11.out.trans (hb12.mono HB11.out.size))
    clear hsm hb12
    go_wp2_with fail
    refine (hhawake_any _ (HT.out.below HB12.out) (by have := HW.out; have := HB12.out.size; omega)).mono ?_
    rintro e w13 ⟨rfl, hb13⟩
    go_wp2_with fail
    exact hlr_end _ rfl (HB12.out.trans (hb13.mono HB12.out.size))
#print axioms hhreads_walk
end Go.Proofs.YtefcjggmlhoebaaDoor
namespace Go.Proofs.YtefcjggmlhoebaaDoor.HelloReads
open Go.ChangeShapes Go.WideShapes Go.ChangeAt Go.RowKit

set_option maxRecDepth 100000 in
theorem contract (H : Type) (enc : TypeId × Value → H) (W : World) (base : Nat) (args : Array Value) (ds gs : List (DataW H)) (before : List MemPlace)
    (hval0 : ∀ (j : Nat) t v, Tryd.f4.params[j]? = some t → args[j]? = some v → Value.okWide Tryd.prog W .any base t v)
    (hW : DataW.Whole enc Tryd.prog Tryd.f4.params.toList Rows.helloReadsSpec.vars false W args.toList ds gs before) (hL : laidMetH Tryd.prog Rows.helloReadsRow.laid W) :
    Calls Tryd.prog 4 args W fun e W' => ∃ v, e = .returned v ∧ Rows.helloReadsSpec.post enc Tryd.prog Tryd.f4 false true false false W args v W' := by
  have hval : ∀ (j : Nat) t v, Tryd.f4.params[j]? = some t → args[j]? = some v → Value.okWide Tryd.prog W .any base t v := hval0
  have hW' := hW
  obtain ⟨p, q, hA0, hV, rfl, hfz, hnd⟩ := hW
  have hA : DataW.TrodAll enc Tryd.prog W 0 (fun _ => true) true Tryd.f4.params.toList args.toList ds p := hA0
  rw [Tryd.params4] at hA hval
  have ht : Tab W := tab_of hL
  have hw : 1 < W.heap.size := cell_lt ht.1
  obtain ⟨v0, vs0, d0, ds0, p0, q0, hargs, rfl, rfl, h0, r0⟩ := trodAll_cons hA
  obtain ⟨rfl, rfl, rfl⟩ := trodAll_nil r0
  obtain rfl : args = #[v0] := by cases args; simp_all
  obtain ⟨rfl, rfl⟩ := trodVars_none hV
  have k0 := h0
  have lt0 : ∀ x ∈ p0, x.block < W.heap.size := by obtain ⟨m, hm⟩ := k0; exact DataW.trod_lt m _ _ _ hm
  obtain ⟨a0, len0, cap0, rfl⟩ := okWide_slice Tryd.underlying22 (hval 0 22 v0 rfl rfl)
  obtain ⟨z0, g0, rfl⟩ := rd_in h0
  refine (hhreads_walk g0 (plain_inH (hval 0 22 _ rfl rfl)) ht hw).mono fun e W' ⟨he, bel⟩ => ?_
  subst he
  exact ⟨_, rfl, _, _, _, [], _, [], hW', trodAll_mk1 (shut_bool Tryd.underlying4 _), (trodAll_cons_mk (Below.trod laidOut (by kernel_rfl) (of_decide_eq_true (by kernel_rfl)) k0 bel lt0) trodAll_mk0), rfl, bel.frame _, fun h => by cases h⟩

theorem laid_met (os : Os) : laidMet Tryd.prog Rows.helloReadsRow.laid ((laidWorld os).forCall (fun _ _ => 0) ⟨#[], #[.slice none 0 0], []⟩).memory :=
  laidMet_of_run' 8 (by kernel_rfl) (by kernel_rfl)
theorem reads (os : Os) {H : Type} (enc : TypeId × Value → H) : ∃ places, DataW.whole enc Tryd.prog ((laidWorld os).forCall (fun _ _ => 0) ⟨#[], #[.slice none 0 0], []⟩).memory Tryd.f4.params.toList Rows.helloReadsSpec.vars false #[Value.slice none 0 0].toList 8 = some ([.nil], [], places) :=
  ⟨[], by kernel_rfl⟩

set_option maxRecDepth 100000 in
theorem lifted (os : Os) (started : os.Started) (H : Type) (enc : TypeId × Value → H) (F : Stop.Interp) :
    ReturnsInHanded {} Tryd.checked os 4 .any ((OpenSpec.ofChange Rows.helloReadsSpec).preRow enc Tryd.prog Tryd.f4 Rows.helloReadsRow.domain false Rows.helloReadsRow.laid) (((OpenSpec.ofChange Rows.helloReadsSpec).at F).post enc Tryd.prog Tryd.f4 false true false false) := by
  obtain ⟨places, hx⟩ := reads os enc
  refine returnsInHanded_of_row (C := Tryd.checked) (s := OpenSpec.ofChange Rows.helloReadsSpec) own started (by kernel_rfl) Tryd.func4
    (witness_row_at (enc := enc) (C := Tryd.checked) false (laidWorld os) #[.slice none 0 0] rfl (by kernel_rfl) (by kernel_rfl) (by kernel_rfl)
      (OpenSpec.preRow_of_cond 8 hx (by kernel_rfl) (fun k hk => by cases hk) (by kernel_rfl) (laid_met os))) ?_
  intro W base args ds gs before hval hW _ _ _ hL _ _
  exact contract H enc W base args ds gs before hval hW hL

theorem said : Rows.HelloReadsSaid :=
  OpenClaim.holds_of_cond 4 Tryd.f4 rfl rfl rfl rfl rfl rfl rfl ⟨rfl, rfl, rfl, rfl, rfl⟩ rfl rfl rfl rfl rfl (by kernel_rfl) Tryd.func4 (by kernel_rfl)
    (of_decide_eq_true (by kernel_rfl)) (by unfold Func.isWrapper; first | (rw [if_pos (by decide +kernel)]; kernel_rfl) | (rw [if_neg (by decide +kernel)]; exact ⟨rfl, rfl⟩))
    (fun os started H enc _ F => by rw [OpenClaim.pre_eq_preRow]; exact lifted os started H enc F)

theorem plain (f : FuncId) (fn : Func) (hf : Tryd.pinned.checked.prog.funcNamed Rows.helloReadsRow.func = some f) (hfn : Tryd.pinned.checked.prog.funcs[f]? = some fn) :
    true = Tryd.pinned.checked.prog.looks [] ∧ ∀ (j : Nat) t, fn.params[j]? = some t → Tryd.pinned.checked.prog.wantsStandIn t = false := by
  obtain rfl : f = 4 := Option.some.inj ((show Tryd.prog.funcNamed Rows.helloReadsRow.func = some 4 by kernel_rfl).symm.trans hf) |>.symm
  obtain rfl : fn = Tryd.f4 := (Option.some.inj (Tryd.func4.symm.trans hfn)).symm
  refine ⟨by kernel_rfl, fun j t ht => ?_⟩
  rw [Tryd.params4] at ht
  have hm := Array.mem_of_getElem? ht
  have hall : ∀ t ∈ [22], Tryd.prog.wantsStandIn t = false := by
    intro t h
    simp only [List.mem_cons, List.not_mem_nil, or_false] at h
    rcases h with rfl
    · kernel_rfl
  exact hall t (by simpa using hm)

theorem card : Rows.HelloReadsCardSaid :=
  Claim7.holds_tied_plain_at .later [] _ _ _ _ said (fun _ h => by cases h) (by kernel_rfl) (fun _ h => by cases h) helloReads_row_tie rfl ⟨rfl, rfl⟩ (by kernel_rfl) rfl plain (by kernel_rfl)
#print axioms card
end Go.Proofs.YtefcjggmlhoebaaDoor.HelloReads
