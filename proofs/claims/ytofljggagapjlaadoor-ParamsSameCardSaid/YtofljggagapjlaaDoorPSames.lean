/- ParamsSame: the program's Same, told field by field: the walk. -/
import Derived.Test.YtofljggagapjlaaDoorPS3
import Derived.Test.YtofljggagapjlaaDoorPTold
import Derived.Test.YtofljggagapjlaaDoorPAwk
namespace Go.Proofs.YtofljggagapjlaaDoor
open Go Go.RowKit

theorem psameB_self (a : Pv) : psameB a a = true := by simp [psameB]
theorem psameB_comm (a b : Pv) : psameB a b = psameB b a := by
  rw [Bool.eq_iff_iff]
  unfold psameB
  simp only [Bool.and_eq_true, beq_iff_eq, decide_eq_true_eq]
  constructor <;> (rintro ⟨⟨⟨⟨⟨⟨⟨⟨⟨h1, h2⟩, h3⟩, h4⟩, h5⟩, h6⟩, h7⟩, h8⟩, h9⟩, h10⟩; exact ⟨⟨⟨⟨⟨⟨⟨⟨⟨h1.symm, h2.symm⟩, h3.symm⟩, h4.symm⟩, h5.symm⟩, h6.symm⟩, h7.symm⟩, h8.symm⟩, h9.symm⟩, h10.symm⟩)
theorem light_len' {p : Pv} (h : plightB p = true) : Small p ∧ p.l.length ≤ 100000 := by
  unfold plightB at h
  simp only [Bool.and_eq_true, decide_eq_true_eq] at h
  exact ⟨⟨by omega, by omega, by omega, by omega⟩, by omega⟩
theorem Done.drew {w0 : World} {A : Nat} {x y : Pv} {vx vy : V4} {g g' : Nat} {u u' : V4} {w : World} (h : Done w0 A x y vx vy g g' u u' w) : Done w0 A x y vx vy g g' u u' w.drew :=
  ⟨h.bel.drew, h.low, h.bb, h.bg, h.bh, h.rx.below (Below.refl _ _).drew, h.ry.below (Below.refl _ _).drew⟩
theorem Done.below {w0 : World} {A : Nat} {x y : Pv} {vx vy : V4} {g g' : Nat} {u u' : V4} {w w' : World} (h : Done w0 A x y vx vy g g' u u' w) (hb : Below w.heap.size w w') : Done w0 A x y vx vy g g' u u' w' :=
  ⟨h.bel.trans (hb.mono h.bel.size), h.low, by rw [hb.block _ (Array.getElem?_eq_some_iff.1 h.bb).1]; exact h.bb, by rw [hb.block _ (Array.getElem?_eq_some_iff.1 h.bg).1]; exact h.bg, by rw [hb.block _ (Array.getElem?_eq_some_iff.1 h.bh).1]; exact h.bh, h.rx.below hb, h.ry.below hb⟩
set_option maxRecDepth 20000 in
set_option maxHeartbeats 8000000 in
theorem psame_walk {w : World} {a b : Pv} {u5 u6 u7 u9 v5 v6 v7 v9 : Value} (h : Pr w a u5 u6 u7 u9) (h' : Pr w b v5 v6 v7 v9) (ht : Tab w) (hw : 1 < w.heap.size) :
    Calls Tryd.prog 7 #[pAgg a u5 u6 u7 u9, pAgg b v5 v6 v7 v9] w fun e w' => e = .returned (.bool true) ∧ Below w.heap.size w w' := by
  obtain ⟨a5, k5, rfl⟩ := h.g.shape
  obtain ⟨a6, k6, rfl⟩ := h.o.shape
  obtain ⟨a7, k7, rfl⟩ := h.r.shape
  obtain ⟨a9, k9, rfl⟩ := h.l.shape
  obtain ⟨b5, m5, rfl⟩ := h'.g.shape
  obtain ⟨b6, m6, rfl⟩ := h'.o.shape
  obtain ⟨b7, m7, rfl⟩ := h'.r.shape
  obtain ⟨b9, m9, rfl⟩ := h'.l.shape
  have HB := Lib.hid (below_alloc2 w (.cells (pCells a (.slice a5 a.g.length k5) (.slice a6 a.o.length k6) (.slice a7 a.r.length k7) (.slice a9 a.l.length k9)) 25) (.cells (pCells b (.slice b5 b.g.length m5) (.slice b6 b.o.length m6) (.slice b7 b.r.length m7) (.slice b9 b.l.length m9)) 25))
  have HA := Lib.hid (((below_alloc (w.alloc (.cells (pCells a (.slice a5 a.g.length k5) (.slice a6 a.o.length k6) (.slice a7 a.r.length k7) (.slice a9 a.l.length k9)) 25)) (.cells (pCells b (.slice b5 b.g.length m5) (.slice b6 b.o.length m6) (.slice b7 b.r.length m7) (.slice b9 b.l.length m9)) 25)).block w.heap.size (by simp)).trans (heap_alloc_new w (.cells (pCells a (.slice a5 a.g.length k5) (.slice a6 a.o.length k6) (.slice a7 a.r.length k7) (.slice a9 a.l.length k9)) 25)))
  have HA' := Lib.hid (heap_alloc2_new w (.cells (pCells a (.slice a5 a.g.length k5) (.slice a6 a.o.length k6) (.slice a7 a.r.length k7) (.slice a9 a.l.length k9)) 25) (.cells (pCells b (.slice b5 b.g.length m5) (.slice b6 b.o.length m6) (.slice b7 b.r.length m7) (.slice b9 b.l.length m9)) 25))
  have hLa := plight_any ((w.alloc (.cells (pCells a (.slice a5 a.g.length k5) (.slice a6 a.o.length k6) (.slice a7 a.r.length k7) (.slice a9 a.l.length k9)) 25)).alloc (.cells (pCells b (.slice b5 b.g.length m5) (.slice b6 b.o.length m6) (.slice b7 b.r.length m7) (.slice b9 b.l.length m9)) 25)) a a5 k5 a6 k6 a7 k7 a9 k9 h.g.len h.o.len h.r.len h.l.len
  have hLb := fun W => plight_any W b b5 m5 b6 m6 b7 m7 b9 m9 h'.g.len h'.o.len h'.r.len h'.l.len
  have HP := Lib.hid h
  have HP' := Lib.hid h'
  have HT := Lib.hid ht
  have HW := Lib.hid hw
  clear h h' ht hw
  cases hla : plightB a with
  | false =>
    rw [hla] at hLa
    clear hla
    go_enter Tryd.func7, Tryd.ntmps7
    go_wp2_with (go_at_call 8; with_reducible refine hLa.mono ?_; rintro e w1 ⟨rfl, hb1⟩)
    go_ret
    exact ⟨rfl, HB.out.trans (hb1.mono HB.out.size)⟩
  | true =>
    rw [hla] at hLa
    have HSA := Lib.hid (light_len' hla)
    clear hla
    cases hlb : plightB b with
    | false =>
      rw [hlb] at hLb
      clear hlb
      go_enter Tryd.func7, Tryd.ntmps7
      go_wp2_with (first
        | (go_at_call 8; with_reducible refine hLa.mono ?_; rintro e w1 ⟨rfl, hb1⟩; have B1 := HB.out.trans (hb1.mono HB.out.size); have q1 := pcells ((hb1.block (w.heap.size + 1) (by simp)).trans HA'.out))
        | (go_at_call 8; with_reducible refine (hLb _).mono ?_; rintro e w2 ⟨rfl, hb2⟩))
      go_ret
      exact ⟨rfl, B1.trans (hb2.mono B1.size)⟩
    | true =>
      rw [hlb] at hLb
      have HSB := Lib.hid (light_len' hlb)
      clear hlb
      go_enter Tryd.func7, Tryd.ntmps7
      go_wp2_with (first
        | (go_at_call 8; with_reducible refine hLa.mono ?_; rintro e w1 ⟨rfl, hb1⟩; have B1 := HB.out.trans (hb1.mono HB.out.size); have q1 := pcells ((hb1.block (w.heap.size + 1) (by simp)).trans HA'.out))
        | (go_at_call 8; with_reducible refine (hLb _).mono ?_; rintro e w2 ⟨rfl, hb2⟩))
      have B2 := B1.trans (hb2.mono B1.size)
      have l1 : w.heap.size + 1 < w1.heap.size := by have := hb1.size; simp at this; omega
      have x2 : w2.heap[w.heap.size]? = some (.cells (pCells a (.slice a5 a.g.length k5) (.slice a6 a.o.length k6) (.slice a7 a.r.length k7) (.slice a9 a.l.length k9)) 25 (0, 0)) := (hb2.block _ (by omega)).trans ((hb1.block w.heap.size (by simp; omega)).trans HA.out)
      have y2 : w2.heap[w.heap.size + 1]? = some (.cells (pCells b (.slice b5 b.g.length m5) (.slice b6 b.o.length m6) (.slice b7 b.r.length m7) (.slice b9 b.l.length m9)) 25 (0, 0)) := (hb2.block _ (by omega)).trans ((hb1.block (w.heap.size + 1) (by simp)).trans HA'.out)
      clear q1
      have hpart : Part w w.heap.size a b ⟨.slice a5 a.g.length k5, .slice a6 a.o.length k6, .slice a7 a.r.length k7, .slice a9 a.l.length k9⟩ ⟨.slice b5 b.g.length m5, .slice b6 b.o.length m6, .slice b7 b.r.length m7, .slice b9 b.l.length m9⟩ none none none none w2.drew := ⟨B2.drew, Nat.le_refl _, x2, y2, (by intro g hg; cases hg), (by intro g hg; cases hg), (by intro g hg; cases hg), (by intro g hg; cases hg), (by intro g u hg; cases hg), (by intro g u hg; cases hg), (by intro g u hg; cases hg), (by intro g u hg; cases hg), (by intro g u hg; cases hg)⟩
      obtain ⟨F, hF⟩ : ∃ F : Fr4, F = fun s5 s6 s16 s18 => ⟨#[pAgg a (.slice a5 a.g.length k5) (.slice a6 a.o.length k6) (.slice a7 a.r.length k7) (.slice a9 a.l.length k9), pAgg b (.slice b5 b.g.length m5) (.slice b6 b.o.length m6) (.slice b7 b.r.length m7) (.slice b9 b.l.length m9), .pointer (some ⟨w.heap.size, 0, none⟩), .pointer (some ⟨w.heap.size + 1, 0, none⟩), .bool false, s5, s6, pAgg a (.slice a5 a.g.length k5) (.slice a6 a.o.length k6) (.slice a7 a.r.length k7) (.slice a9 a.l.length k9), .bool true, .bool false, .bool false, pAgg b (.slice b5 b.g.length m5) (.slice b6 b.o.length m6) (.slice b7 b.r.length m7) (.slice b9 b.l.length m9), .bool true, .bool false, .bool false, pAgg a (.slice a5 a.g.length k5) (.slice a6 a.o.length k6) (.slice a7 a.r.length k7) (.slice a9 a.l.length k9), s16, pAgg b (.slice b5 b.g.length m5) (.slice b6 b.o.length m6) (.slice b7 b.r.length m7) (.slice b9 b.l.length m9), s18, undef, undef, undef, undef, undef, undef, undef, undef, undef, undef, undef, undef, undef, undef, undef, undef, undef, undef, undef, undef, undef, undef, undef, undef], []⟩ := ⟨_, rfl⟩
      have hFO : FrOk F a b ⟨.slice a5 a.g.length k5, .slice a6 a.o.length k6, .slice a7 a.r.length k7, .slice a9 a.l.length k9⟩ ⟨.slice b5 b.g.length m5, .slice b6 b.o.length m6, .slice b7 b.r.length m7, .slice b9 b.l.length m9⟩ := by
        subst hF
        exact ⟨fun _ _ _ _ _ => rfl, fun _ _ _ _ _ => rfl, fun _ _ _ _ _ => rfl, fun _ _ _ _ _ => rfl, fun _ _ _ _ => rfl, fun _ _ _ _ => rfl, fun _ _ _ _ => rfl, fun _ _ _ _ => rfl, fun _ _ _ _ => rfl, fun _ _ _ _ => rfl⟩
      refine wp_region_held_drew (S := fun w' : World => Below w.heap.size w w' ∧ w'.heap[w.heap.size]? = some (.cells (pCells a (.slice a5 a.g.length k5) (.slice a6 a.o.length k6) (.slice a7 a.r.length k7) (.slice a9 a.l.length k9)) 25 (0, 0)) ∧ w'.heap[w.heap.size + 1]? = some (.cells (pCells b (.slice b5 b.g.length m5) (.slice b6 b.o.length m6) (.slice b7 b.r.length m7) (.slice b9 b.l.length m9)) 25 (0, 0))) (by kernel_rfl) ⟨B2.drew, x2, y2⟩ (fun hHeld => ?_)
      refine wpAnyH_take (i := 0) (oi := { dst := some 15, op := Op.load 25 (Operand.tmp 2), type := 25, pos := "outright.go:39", after := #[], guard := none }) (v := ?_) rfl (by kernel_rfl) (by kernel_rfl) (by kernel_rfl) (fun _ _ _ h => h) (Or.inl ⟨by rfl, ?_⟩) (by assumption) ?_
      rotate_left
      · intro w hSw; have qa := pcells hSw.2.1; have qb := pcells hSw.2.2; go_simp; try (with_reducible rfl)
      repeat (first | simp only [Act.put] | simp only [List.setIfInBounds_toArray] | simp only [List.set_cons_zero] | simp only [List.set_cons_succ])
      refine wpAnyH_take (i := 2) (oi := { dst := some 17, op := Op.load 25 (Operand.tmp 3), type := 25, pos := "outright.go:39", after := #[], guard := none }) (v := ?_) rfl (by kernel_rfl) (by kernel_rfl) (by kernel_rfl) (fun _ _ _ h => h) (Or.inl ⟨by rfl, ?_⟩) (by assumption) ?_
      rotate_left
      · intro w hSw; have qa := pcells hSw.2.1; have qb := pcells hSw.2.2; go_simp; try (with_reducible rfl)
      repeat (first | simp only [Act.put] | simp only [List.setIfInBounds_toArray] | simp only [List.set_cons_zero] | simp only [List.set_cons_succ])
      refine wpAnyH_inv (SmE F w w.heap.size a b ⟨.slice a5 a.g.length k5, .slice a6 a.o.length k6, .slice a7 a.r.length k7, .slice a9 a.l.length k9⟩ ⟨.slice b5 b.g.length m5, .slice b6 b.o.length m6, .slice b7 b.r.length m7, .slice b9 b.l.length m9⟩) (sm_step (fun w' h0 h1 h2 => ⟨h0, h1, h2⟩) hFO HP.out HP'.out HSA.out.1 HSB.out.1) ?_ _ _ _ _ (by decide +kernel) ?_
      rotate_left
      · exact ⟨none, none, none, none, undef, undef, undef, undef, by rw [hF], hpart, by rfl, by rfl, by rfl, by rfl, by rfl, by rfl, by rfl, (by intro g hg; cases hg), (by intro g hg; cases hg), (by intro g hg; cases hg), (by intro g hg; cases hg), (fun hl => absurd hl (by decide +kernel)), (fun hl => absurd hl (by decide +kernel))⟩
      intro listed ac wx hI hr0
      obtain ⟨g, g', u, u', rfl, hd⟩ := sm_done listed ac wx hI hr0
      simp only [Exit.then]
      refine ‹∀ (a : Act) (w : World), Code.wp Tryd.prog _ _ a w → _› _ _ ?_
      obtain ⟨c5, c6, c7, c9⟩ := u
      obtain ⟨d5, d6, d7, d9⟩ := u'
      obtain ⟨c5, n5, rfl⟩ := hd.rx.g.shape
      obtain ⟨c6, n6, rfl⟩ := hd.rx.o.shape
      obtain ⟨c7, n7, rfl⟩ := hd.rx.r.shape
      obtain ⟨c9, n9, rfl⟩ := hd.rx.l.shape
      obtain ⟨d5, o5, rfl⟩ := hd.ry.g.shape
      obtain ⟨d6, o6, rfl⟩ := hd.ry.o.shape
      obtain ⟨d7, o7, rfl⟩ := hd.ry.r.shape
      obtain ⟨d9, o9, rfl⟩ := hd.ry.l.shape
      rw [hF]
      dsimp only
      clear hpart hFO hHeld hI hr0 hLa hLb hF F x2 y2 l1 hb1 hb2 B1 B2
      have hDn := hd.drew
      obtain ⟨q, hq⟩ : ∃ q, q = psameB a b := ⟨_, rfl⟩
      have HQ := Lib.hid hq
      have HQ' := Lib.hid (hq.trans (psameB_comm a b))
      clear hq
      go_wp2_with fail
      refine wp_region_held_drew (S := fun w' : World => Done w w.heap.size a b ⟨.slice a5 a.g.length k5, .slice a6 a.o.length k6, .slice a7 a.r.length k7, .slice a9 a.l.length k9⟩ ⟨.slice b5 b.g.length m5, .slice b6 b.o.length m6, .slice b7 b.r.length m7, .slice b9 b.l.length m9⟩ g g' ⟨.slice c5 a.g.length n5, .slice c6 a.o.length n6, .slice c7 a.r.length n7, .slice c9 a.l.length n9⟩ ⟨.slice d5 b.g.length o5, .slice d6 b.o.length o6, .slice d7 b.r.length o7, .slice d9 b.l.length o9⟩ w') (by kernel_rfl) hDn (fun hHeld => ?_)
      clear hHeld
      have HD := Lib.hid hDn
      clear hDn hd
      refine wpAnyH_take (i := 0) (oi := { dst := some 19, op := Op.load 27 (Operand.tmp 5), type := 27, pos := "outright.go:40", after := #[], guard := none }) (v := ?_) rfl (by kernel_rfl) (by kernel_rfl) (by kernel_rfl) (fun _ _ _ h => h) (Or.inl ⟨by rfl, ?_⟩) (by assumption) ?_
      rotate_left
      · intro w hSw; have qa := pcells hSw.bg; have qb := pcells hSw.bh; have qc := pcells hSw.bb; go_simp; try (with_reducible rfl)
      repeat (first | simp only [Act.put] | simp only [List.setIfInBounds_toArray] | simp only [List.set_cons_zero] | simp only [List.set_cons_succ])
      refine wpAnyH_take (i := 1) (oi := { dst := some 20, op := Op.load 27 (Operand.tmp 6), type := 27, pos := "outright.go:40", after := #[], guard := none }) (v := ?_) rfl (by kernel_rfl) (by kernel_rfl) (by kernel_rfl) (fun _ _ _ h => h) (Or.inl ⟨by rfl, ?_⟩) (by assumption) ?_
      rotate_left
      · intro w hSw; have qa := pcells hSw.bg; have qb := pcells hSw.bh; have qc := pcells hSw.bb; go_simp; try (with_reducible rfl)
      repeat (first | simp only [Act.put] | simp only [List.setIfInBounds_toArray] | simp only [List.set_cons_zero] | simp only [List.set_cons_succ])
      refine wpAnyH_take (i := 3) (oi := { dst := some 22, op := Op.load 27 (Operand.tmp 5), type := 27, pos := "outright.go:40", after := #[], guard := none }) (v := ?_) rfl (by kernel_rfl) (by kernel_rfl) (by kernel_rfl) (fun _ _ _ h => h) (Or.inl ⟨by rfl, ?_⟩) (by assumption) ?_
      rotate_left
      · intro w hSw; have qa := pcells hSw.bg; have qb := pcells hSw.bh; have qc := pcells hSw.bb; go_simp; try (with_reducible rfl)
      repeat (first | simp only [Act.put] | simp only [List.setIfInBounds_toArray] | simp only [List.set_cons_zero] | simp only [List.set_cons_succ])
      refine wpAnyH_take (i := 4) (oi := { dst := some 23, op := Op.load 25 (Operand.tmp 3), type := 25, pos := "outright.go:40", after := #[], guard := none }) (v := ?_) rfl (by kernel_rfl) (by kernel_rfl) (by kernel_rfl) (fun _ _ _ h => h) (Or.inl ⟨by rfl, ?_⟩) (by assumption) ?_
      rotate_left
      · intro w hSw; have qa := pcells hSw.bg; have qb := pcells hSw.bh; have qc := pcells hSw.bb; go_simp; try (with_reducible rfl)
      repeat (first | simp only [Act.put] | simp only [List.setIfInBounds_toArray] | simp only [List.set_cons_zero] | simp only [List.set_cons_succ])
      refine wpAnyH_ready (rs := [2]) (by kernel_rfl) (by simp) ?_
      refine AllReadyH.cons (o := { dst := some 21, op := Op.call { callee := Callee.value (Operand.func 19), args := #[Operand.tmp 19, Operand.tmp 20], argTypes := #[27, 27] }, type := 4, pos := "outright.go:40", after := #[{ on := 0, ground := Ground.data }, { on := 1, ground := Ground.data }], guard := none }) rfl (fun K hK => ?_) AllReadyH.nil
      go_simp
      with_reducible refine (psame_any a b c5 n5 c6 n6 c7 n7 c9 n9 d5 o5 d6 o6 d7 o7 d9 o9 HD.out.rx HD.out.ry).mono ?_
      rintro e w11 ⟨rfl, hb11⟩
      have HD11 := Lib.hid (HD.out.below hb11)
      clear hb11
      rw [← HQ.out]
      dsimp only
      refine hK.out _ _ ?_ (fun hHeld => ?_)
      · exact HD11.out
      clear hK K
      repeat (first | simp only [Act.put] | simp only [List.setIfInBounds_toArray] | simp only [List.set_cons_zero] | simp only [List.set_cons_succ])
      refine wpAnyH_ready (rs := [5]) (by kernel_rfl) (by simp) ?_
      refine AllReadyH.cons (o := { dst := some 24, op := Op.call { callee := Callee.value (Operand.func 18), args := #[Operand.tmp 22, Operand.tmp 23], argTypes := #[27, 25] }, type := 4, pos := "outright.go:40", after := #[{ on := 3, ground := Ground.data }, { on := 4, ground := Ground.data }, { on := 2, ground := Ground.chain }], guard := none }) rfl (fun K hK => ?_) AllReadyH.nil
      go_simp
      with_reducible refine (told_any HD11.out.rx (HP'.out.below HD11.out.bel) HSB.out.2).mono ?_
      rintro e w12 ⟨rfl, hb12⟩
      have HD12 := Lib.hid (HD11.out.below hb12)
      clear hb12
      rw [← HQ.out]
      dsimp only
      refine hK.out _ _ ?_ (fun hHeld => ?_)
      · exact HD12.out
      clear hK K
      repeat (first | simp only [Act.put] | simp only [List.setIfInBounds_toArray] | simp only [List.set_cons_zero] | simp only [List.set_cons_succ])
      refine wpAnyH_take (i := 6) (oi := { dst := some 25, op := Op.binOp BinOp.eql 4 (Operand.tmp 21) (Operand.tmp 24) 4, type := 4, pos := "outright.go:40", after := #[{ on := 2, ground := Ground.data }, { on := 5, ground := Ground.data }], guard := none }) (v := ?_) rfl (by kernel_rfl) (by kernel_rfl) (by kernel_rfl) (fun _ _ _ h => h) (Or.inl ⟨by rfl, ?_⟩) (by assumption) ?_
      rotate_left
      · intro w hSw; have qa := pcells hSw.bg; have qb := pcells hSw.bh; have qc := pcells hSw.bb; go_simp; try (with_reducible rfl)
      repeat (first | simp only [Act.put] | simp only [List.setIfInBounds_toArray] | simp only [List.set_cons_zero] | simp only [List.set_cons_succ])
      refine wpAnyH_take (i := 7) (oi := { dst := some 26, op := Op.move (Operand.tmp 25), type := 4, pos := "outright.go:40", after := #[{ on := 6, ground := Ground.data }, { on := 5, ground := Ground.chain }], guard := none }) (v := ?_) rfl (by kernel_rfl) (by kernel_rfl) (by kernel_rfl) (fun _ _ _ h => h) (Or.inl ⟨by rfl, ?_⟩) (by assumption) ?_
      rotate_left
      · intro w hSw; have qa := pcells hSw.bg; have qb := pcells hSw.bh; have qc := pcells hSw.bb; go_simp; try (with_reducible rfl)
      repeat (first | simp only [Act.put] | simp only [List.setIfInBounds_toArray] | simp only [List.set_cons_zero] | simp only [List.set_cons_succ])
      refine wpAnyH_take (i := 8) (oi := { dst := some 27, op := Op.load 27 (Operand.tmp 6), type := 27, pos := "outright.go:40", after := #[{ on := 7, ground := Ground.guard }], guard := some (7, true) }) (v := ?_) rfl (by kernel_rfl) (by kernel_rfl) (by kernel_rfl) (fun _ _ _ h => h) (Or.inl ⟨by rfl, ?_⟩) (by assumption) ?_
      rotate_left
      · intro w hSw; have qa := pcells hSw.bg; have qb := pcells hSw.bh; have qc := pcells hSw.bb; go_simp; try (with_reducible rfl)
      repeat (first | simp only [Act.put] | simp only [List.setIfInBounds_toArray] | simp only [List.set_cons_zero] | simp only [List.set_cons_succ])
      refine wpAnyH_take (i := 9) (oi := { dst := some 28, op := Op.load 27 (Operand.tmp 5), type := 27, pos := "outright.go:40", after := #[{ on := 7, ground := Ground.guard }], guard := some (7, true) }) (v := ?_) rfl (by kernel_rfl) (by kernel_rfl) (by kernel_rfl) (fun _ _ _ h => h) (Or.inl ⟨by rfl, ?_⟩) (by assumption) ?_
      rotate_left
      · intro w hSw; have qa := pcells hSw.bg; have qb := pcells hSw.bh; have qc := pcells hSw.bb; go_simp; try (with_reducible rfl)
      repeat (first | simp only [Act.put] | simp only [List.setIfInBounds_toArray] | simp only [List.set_cons_zero] | simp only [List.set_cons_succ])
      refine wpAnyH_take (i := 11) (oi := { dst := some 30, op := Op.load 27 (Operand.tmp 5), type := 27, pos := "outright.go:40", after := #[{ on := 7, ground := Ground.guard }], guard := some (7, true) }) (v := ?_) rfl (by kernel_rfl) (by kernel_rfl) (by kernel_rfl) (fun _ _ _ h => h) (Or.inl ⟨by rfl, ?_⟩) (by assumption) ?_
      rotate_left
      · intro w hSw; have qa := pcells hSw.bg; have qb := pcells hSw.bh; have qc := pcells hSw.bb; go_simp; try (with_reducible rfl)
      repeat (first | simp only [Act.put] | simp only [List.setIfInBounds_toArray] | simp only [List.set_cons_zero] | simp only [List.set_cons_succ])
      refine wpAnyH_take (i := 12) (oi := { dst := some 31, op := Op.load 27 (Operand.tmp 6), type := 27, pos := "outright.go:40", after := #[{ on := 7, ground := Ground.guard }], guard := some (7, true) }) (v := ?_) rfl (by kernel_rfl) (by kernel_rfl) (by kernel_rfl) (fun _ _ _ h => h) (Or.inl ⟨by rfl, ?_⟩) (by assumption) ?_
      rotate_left
      · intro w hSw; have qa := pcells hSw.bg; have qb := pcells hSw.bh; have qc := pcells hSw.bb; go_simp; try (with_reducible rfl)
      repeat (first | simp only [Act.put] | simp only [List.setIfInBounds_toArray] | simp only [List.set_cons_zero] | simp only [List.set_cons_succ])
      refine wpAnyH_ready (rs := [10]) (by kernel_rfl) (by simp) ?_
      refine AllReadyH.cons (o := { dst := some 29, op := Op.call { callee := Callee.value (Operand.func 19), args := #[Operand.tmp 27, Operand.tmp 28], argTypes := #[27, 27] }, type := 4, pos := "outright.go:40", after := #[{ on := 8, ground := Ground.data }, { on := 9, ground := Ground.data }, { on := 7, ground := Ground.chain }, { on := 7, ground := Ground.guard }], guard := some (7, true) }) rfl (fun K hK => ?_) AllReadyH.nil
      go_simp
      with_reducible refine (psame_any b a d5 o5 d6 o6 d7 o7 d9 o9 c5 n5 c6 n6 c7 n7 c9 n9 HD12.out.ry HD12.out.rx).mono ?_
      rintro e w13 ⟨rfl, hb13⟩
      have HD13 := Lib.hid (HD12.out.below hb13)
      clear hb13
      rw [← HQ'.out]
      dsimp only
      refine hK.out _ _ ?_ (fun hHeld => ?_)
      · exact HD13.out
      clear hK K
      repeat (first | simp only [Act.put] | simp only [List.setIfInBounds_toArray] | simp only [List.set_cons_zero] | simp only [List.set_cons_succ])
      refine wpAnyH_ready (rs := [13]) (by kernel_rfl) (by simp) ?_
      refine AllReadyH.cons (o := { dst := some 32, op := Op.call { callee := Callee.value (Operand.func 19), args := #[Operand.tmp 30, Operand.tmp 31], argTypes := #[27, 27] }, type := 4, pos := "outright.go:40", after := #[{ on := 11, ground := Ground.data }, { on := 12, ground := Ground.data }, { on := 10, ground := Ground.chain }, { on := 7, ground := Ground.guard }], guard := some (7, true) }) rfl (fun K hK => ?_) AllReadyH.nil
      go_simp
      with_reducible refine (psame_any a b c5 n5 c6 n6 c7 n7 c9 n9 d5 o5 d6 o6 d7 o7 d9 o9 HD13.out.rx HD13.out.ry).mono ?_
      rintro e w14 ⟨rfl, hb14⟩
      have HD14 := Lib.hid (HD13.out.below hb14)
      clear hb14
      rw [← HQ.out]
      dsimp only
      refine hK.out _ _ ?_ (fun hHeld => ?_)
      · exact HD14.out
      clear hK K
      repeat (first | simp only [Act.put] | simp only [List.setIfInBounds_toArray] | simp only [List.set_cons_zero] | simp only [List.set_cons_succ])
      refine wpAnyH_take (i := 14) (oi := { dst := some 33, op := Op.binOp BinOp.eql 4 (Operand.tmp 29) (Operand.tmp 32) 4, type := 4, pos := "outright.go:40", after := #[{ on := 10, ground := Ground.data }, { on := 13, ground := Ground.data }, { on := 7, ground := Ground.guard }], guard := some (7, true) }) (v := ?_) rfl (by kernel_rfl) (by kernel_rfl) (by kernel_rfl) (fun _ _ _ h => h) (Or.inl ⟨by rfl, ?_⟩) (by assumption) ?_
      rotate_left
      · intro w hSw; have qa := pcells hSw.bg; have qb := pcells hSw.bh; have qc := pcells hSw.bb; go_simp; try (with_reducible rfl)
      repeat (first | simp only [Act.put] | simp only [List.setIfInBounds_toArray] | simp only [List.set_cons_zero] | simp only [List.set_cons_succ])
      refine wpAnyH_take (i := 15) (oi := { dst := some 34, op := Op.pick (Operand.tmp 26) (Operand.tmp 33) (Operand.const (Value.bool false)), type := 4, pos := "outright.go:40", after := #[{ on := 7, ground := Ground.data }, { on := 14, ground := Ground.data }], guard := none }) (v := ?_) rfl (by kernel_rfl) (by kernel_rfl) (by kernel_rfl) (fun _ _ _ h => h) (Or.inl ⟨by rfl, ?_⟩) (by assumption) ?_
      rotate_left
      · intro w hSw; have qa := pcells hSw.bg; have qb := pcells hSw.bh; have qc := pcells hSw.bb; go_simp; try (with_reducible rfl)
      repeat (first | simp only [Act.put] | simp only [List.setIfInBounds_toArray] | simp only [List.set_cons_zero] | simp only [List.set_cons_succ])
      refine wpAnyH_take (i := 16) (oi := { dst := some 35, op := Op.move (Operand.tmp 34), type := 4, pos := "outright.go:40", after := #[{ on := 15, ground := Ground.data }, { on := 13, ground := Ground.chain }], guard := none }) (v := ?_) rfl (by kernel_rfl) (by kernel_rfl) (by kernel_rfl) (fun _ _ _ h => h) (Or.inl ⟨by rfl, ?_⟩) (by assumption) ?_
      rotate_left
      · intro w hSw; have qa := pcells hSw.bg; have qb := pcells hSw.bh; have qc := pcells hSw.bb; go_simp; try (with_reducible rfl)
      repeat (first | simp only [Act.put] | simp only [List.setIfInBounds_toArray] | simp only [List.set_cons_zero] | simp only [List.set_cons_succ])
      refine wpAnyH_take (i := 17) (oi := { dst := some 36, op := Op.load 27 (Operand.tmp 5), type := 27, pos := "outright.go:40", after := #[{ on := 16, ground := Ground.guard }], guard := some (16, true) }) (v := ?_) rfl (by kernel_rfl) (by kernel_rfl) (by kernel_rfl) (fun _ _ _ h => h) (Or.inl ⟨by rfl, ?_⟩) (by assumption) ?_
      rotate_left
      · intro w hSw; have qa := pcells hSw.bg; have qb := pcells hSw.bh; have qc := pcells hSw.bb; go_simp; try (with_reducible rfl)
      repeat (first | simp only [Act.put] | simp only [List.setIfInBounds_toArray] | simp only [List.set_cons_zero] | simp only [List.set_cons_succ])
      refine wpAnyH_take (i := 18) (oi := { dst := some 37, op := Op.load 27 (Operand.tmp 5), type := 27, pos := "outright.go:40", after := #[{ on := 16, ground := Ground.guard }], guard := some (16, true) }) (v := ?_) rfl (by kernel_rfl) (by kernel_rfl) (by kernel_rfl) (fun _ _ _ h => h) (Or.inl ⟨by rfl, ?_⟩) (by assumption) ?_
      rotate_left
      · intro w hSw; have qa := pcells hSw.bg; have qb := pcells hSw.bh; have qc := pcells hSw.bb; go_simp; try (with_reducible rfl)
      repeat (first | simp only [Act.put] | simp only [List.setIfInBounds_toArray] | simp only [List.set_cons_zero] | simp only [List.set_cons_succ])
      refine wpAnyH_ready (rs := [19]) (by kernel_rfl) (by simp) ?_
      refine AllReadyH.cons (o := { dst := some 38, op := Op.call { callee := Callee.value (Operand.func 19), args := #[Operand.tmp 36, Operand.tmp 37], argTypes := #[27, 27] }, type := 4, pos := "outright.go:40", after := #[{ on := 17, ground := Ground.data }, { on := 18, ground := Ground.data }, { on := 16, ground := Ground.chain }, { on := 16, ground := Ground.guard }], guard := some (16, true) }) rfl (fun K hK => ?_) AllReadyH.nil
      go_simp
      with_reducible refine (psame_any a a c5 n5 c6 n6 c7 n7 c9 n9 c5 n5 c6 n6 c7 n7 c9 n9 HD14.out.rx HD14.out.rx).mono ?_
      rintro e w15 ⟨rfl, hb15⟩
      have HD15 := Lib.hid (HD14.out.below hb15)
      clear hb15
      rw [psameB_self]
      dsimp only
      refine hK.out _ _ ?_ (fun hHeld => ?_)
      · exact HD15.out
      clear hK K
      repeat (first | simp only [Act.put] | simp only [List.setIfInBounds_toArray] | simp only [List.set_cons_zero] | simp only [List.set_cons_succ])
      refine wpAnyH_take (i := 20) (oi := { dst := some 39, op := Op.pick (Operand.tmp 35) (Operand.tmp 38) (Operand.const (Value.bool false)), type := 4, pos := "outright.go:40", after := #[{ on := 16, ground := Ground.data }, { on := 19, ground := Ground.data }], guard := none }) (v := ?_) rfl (by kernel_rfl) (by kernel_rfl) (by kernel_rfl) (fun _ _ _ h => h) (Or.inl ⟨by rfl, ?_⟩) (by assumption) ?_
      rotate_left
      · intro w hSw; have qa := pcells hSw.bg; have qb := pcells hSw.bh; have qc := pcells hSw.bb; go_simp; try (with_reducible rfl)
      repeat (first | simp only [Act.put] | simp only [List.setIfInBounds_toArray] | simp only [List.set_cons_zero] | simp only [List.set_cons_succ])
      refine wpAnyH_take (i := 21) (oi := { dst := some 40, op := Op.move (Operand.tmp 39), type := 4, pos := "outright.go:40", after := #[{ on := 20, ground := Ground.data }, { on := 19, ground := Ground.chain }], guard := none }) (v := ?_) rfl (by kernel_rfl) (by kernel_rfl) (by kernel_rfl) (fun _ _ _ h => h) (Or.inl ⟨by rfl, ?_⟩) (by assumption) ?_
      rotate_left
      · intro w hSw; have qa := pcells hSw.bg; have qb := pcells hSw.bh; have qc := pcells hSw.bb; go_simp; try (with_reducible rfl)
      repeat (first | simp only [Act.put] | simp only [List.setIfInBounds_toArray] | simp only [List.set_cons_zero] | simp only [List.set_cons_succ])
      refine wpAnyH_ready (rs := [22]) (by kernel_rfl) (by simp) ?_
      refine AllReadyH.cons (o := { dst := some 41, op := Op.call { callee := Callee.value (Operand.func 13), args := #[], argTypes := #[] }, type := 4, pos := "outright.go:40", after := #[{ on := 21, ground := Ground.chain }, { on := 21, ground := Ground.guard }], guard := some (21, true) }) rfl (fun K hK => ?_) AllReadyH.nil
      go_simp
      with_reducible refine (pawake_any _ (HT.out.below HD15.out.bel) (Nat.lt_of_lt_of_le HW.out HD15.out.bel.size)).mono ?_
      rintro e w16 ⟨rfl, hb16⟩
      have HD16 := Lib.hid (HD15.out.below hb16)
      clear hb16
      dsimp only
      refine hK.out _ _ ?_ (fun hHeld => ?_)
      · exact HD16.out
      clear hK K
      repeat (first | simp only [Act.put] | simp only [List.setIfInBounds_toArray] | simp only [List.set_cons_zero] | simp only [List.set_cons_succ])
      refine wpAnyH_take (i := 23) (oi := { dst := some 42, op := Op.pick (Operand.tmp 40) (Operand.tmp 41) (Operand.const (Value.bool false)), type := 4, pos := "outright.go:40", after := #[{ on := 21, ground := Ground.data }, { on := 22, ground := Ground.data }], guard := none }) (v := ?_) rfl (by kernel_rfl) (by kernel_rfl) (by kernel_rfl) (fun _ _ _ h => h) (Or.inl ⟨by rfl, ?_⟩) (by assumption) ?_
      rotate_left
      · intro w hSw; have qa := pcells hSw.bg; have qb := pcells hSw.bh; have qc := pcells hSw.bb; go_simp; try (with_reducible rfl)
      repeat (first | simp only [Act.put] | simp only [List.setIfInBounds_toArray] | simp only [List.set_cons_zero] | simp only [List.set_cons_succ])
      refine wpAnyH_ready (rs := [24]) (by kernel_rfl) (by simp) ?_
      refine AllReadyH.cons (o := { dst := some 4, op := Op.assign (Operand.tmp 42), type := 4, pos := "outright.go:40", after := #[{ on := 23, ground := Ground.data }, { on := 22, ground := Ground.chain }, { on := 0, ground := Ground.phase }, { on := 1, ground := Ground.phase }, { on := 2, ground := Ground.phase }, { on := 3, ground := Ground.phase }, { on := 4, ground := Ground.phase }, { on := 5, ground := Ground.phase }, { on := 6, ground := Ground.phase }, { on := 7, ground := Ground.phase }, { on := 8, ground := Ground.phase }, { on := 9, ground := Ground.phase }, { on := 10, ground := Ground.phase }, { on := 11, ground := Ground.phase }, { on := 12, ground := Ground.phase }, { on := 13, ground := Ground.phase }, { on := 14, ground := Ground.phase }, { on := 15, ground := Ground.phase }, { on := 16, ground := Ground.phase }, { on := 17, ground := Ground.phase }, { on := 18, ground := Ground.phase }, { on := 19, ground := Ground.phase }, { on := 20, ground := Ground.phase }, { on := 21, ground := Ground.phase }, { on := 22, ground := Ground.phase }, { on := 23, ground := Ground.phase }], guard := none }) rfl (fun K hK => ?_) AllReadyH.nil
      go_simp
      refine hK.out _ _ HD16.out (fun _ => ?_)
      clear hK K
      repeat (first | simp only [Act.put] | simp only [List.setIfInBounds_toArray] | simp only [List.set_cons_zero] | simp only [List.set_cons_succ])
      refine wpAnyH_done (by kernel_rfl) ?_ _
      go_wp2_with fail
      go_ret
      exact ⟨rfl, HD16.out.bel⟩
end Go.Proofs.YtofljggagapjlaaDoor
