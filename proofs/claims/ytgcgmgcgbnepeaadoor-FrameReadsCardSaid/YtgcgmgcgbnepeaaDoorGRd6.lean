/- frame.Read: ack. -/
import Derived.Test.YtgcgmgcgbnepeaaDoorGRd5
namespace Go.Proofs.YtgcgmgcgbnepeaaDoor
open Go Go.RowKit

theorem gtk_no {zs : List Int} {k : Int} {t : Nat} {w0 w : World} {R B lo : Nat} {w' : World} (hk : Kq R B w w') (h : gBody zs k t = none) : Gtk zs k t w0 w R B lo (errPanic 3) w' := .inl ⟨rfl, hk, h⟩
theorem gbody2 {zs : List Int} {t : Nat} : gBody zs 2 t = match gAck zs t with | some (l, t) => some (⟨2, 0, l, 0, [], 0⟩, t) | none => none := by
  simp [gBody]
  cases gAck zs t <;> rfl
theorem gbody2_none {zs : List Int} {t : Nat} (h : gAck zs t = none) : gBody zs 2 t = none := by rw [gbody2, h]
theorem gbody2_some {zs : List Int} {t t' : Nat} {l : List Sp} (h : gAck zs t = some (l, t')) : gBody zs 2 t = some (⟨2, 0, l, 0, [], 0⟩, t') := by rw [gbody2, h]
set_option maxRecDepth 20000 in
set_option maxHeartbeats 8000000 in
theorem does_ack {zs : List Int} {t : Nat} {w0 w : World} {R B lo : Nat} (hlo : lo = w.heap.size) (h : Gst zs 2 t w0 w R B lo) :
    Calls Tryd.prog 54 #[.pointer (some ⟨R, 0, none⟩)] w (Gtk zs 2 t w0 w R B lo) := by
  have HH := Lib.hid h
  have HLO := Lib.hid hlo
  obtain ⟨k1, k2, k3⟩ := h.kb
  obtain ⟨o1, o2, o3⟩ := h.g.ord
  obtain ⟨c0, c1, c2, c3, c4, c5, c6, cf⟩ := h.g.cells
  cases hv : gVar zs t with
  | none =>
    have hr := gnum_no h.fq h.byt hv
    have HG : Hid (gBody zs 2 t = none) := Lib.hid (gbody2_none (by simp [gAck, hv]))
    clear h c1 c2 c3 c4 c5 c6 hv hlo
    go_enter Tryd.func54, Tryd.ntmps54
    go_wp2_with (go_at_call 62; refine hr.mono ?_; rintro e w1 ⟨he, hb1⟩; rw [errPanic] at he; subst he)
    exact ⟨rfl, gtk_no (Kq.r hb1) HG.out⟩
  | some x =>
    obtain ⟨to, t1⟩ := x
    have hr := gnum_yes h.fq h.byt hv
    have HB := Lib.hid (gvar_bd h.byt hv)
    have HV := Lib.hid hv
    clear h c1 c2 c3 c4 c5 c6 hv hlo
    go_enter Tryd.func54, Tryd.ntmps54
    go_wp2_with fail
    refine hr.mono ?_
    rintro e w1 ⟨rfl, hF1, hb1⟩
    have hG1 := HH.out.g.keep hb1 (by omega) (by omega)
    obtain ⟨d0, _, _, _, _, _, _, df⟩ := hG1.cells
    have HG1 := Lib.hid hG1
    have HK1 := Lib.hid (Kq.r (R := R) hb1)
    clear c0 cf hr hb1 hG1
    cases hv1 : gVar zs t1 with
    | none =>
      have hr1 := gnum_no hF1 HH.out.byt hv1
      have HG : Hid (gBody zs 2 t = none) := Lib.hid (gbody2_none (by simp [gAck, HV.out, hv1]))
      clear hv1 hF1
      go_wp2_with (go_at_call 62; refine hr1.mono ?_; rintro e w2 ⟨he, hb2⟩; rw [errPanic] at he; subst he)
      exact ⟨rfl, gtk_no (HK1.out.trans (Kq.r hb2)) HG.out⟩
    | some x =>
      obtain ⟨more, t2⟩ := x
      have hr1 := gnum_yes hF1 HH.out.byt hv1
      have HB1 := Lib.hid (gvar_bd HH.out.byt hv1)
      have HV1 := Lib.hid hv1
      clear hv1 hF1
      go_wp2_with fail
      refine hr1.mono ?_
      rintro e w2 ⟨rfl, hF2, hb2⟩
      have hG2 := HG1.out.keep hb2 (by omega) (by omega)
      have HK2 := Lib.hid (HK1.out.trans (Kq.r hb2))
      have hsp := span_any (to := to) hG2 rfl hF2 HH.out.byt HH.out.lo (by simp)
      have hKl := Kl.of HK2.out o3
      have HKL := Lib.hid hKl
      clear d0 df hr1 hb2 hG2 hF2 hKl
      go_wp2_with fail
      refine hsp.mono ?_
      rintro e w3 (⟨he, hk3, hg3⟩ | ⟨n, t3, sv3, rfl, hg3, hG3, hF3, hk3⟩)
      · rw [errPanic] at he
        subst he
        have HX := Lib.hid (gbody2_none (show gAck zs t = none by
          simp only [gAck, HV.out, HV1.out, hg3]
          split <;> rfl))
        have HK3 := Lib.hid ((HKL.out.trans hk3).kq HLO.out)
        clear hsp hk3 hg3
        go_wp2_with fail
        exact ⟨rfl, gtk_no HK3.out HX.out⟩
      · have hst := ack_init HV.out HV1.out hg3 HB.out.1 (gvar_bd HH.out.byt hg3).1
        have hbt3 := gvar_bd HH.out.byt hg3
        have HST0 := Lib.hid hst
        have HG3 := Lib.hid hG3
        have HF3 := Lib.hid hF3
        have HK3 := Lib.hid (HKL.out.trans hk3)
        have HT3 := Lib.hid (show 1 ≤ t3 ∧ t3 ≤ zs.length from ⟨by have := hbt3.2.1; omega, hbt3.2.2⟩)
        have hm0 := HB1.out.1.1
        have hm1 := HB1.out.1.2
        clear hsp hst hG3 hF3 hk3 hg3 hbt3
        go_wp2_with fail
        go_loopw [19] (fun i wr => ∃ (j : Nat) (S : List Sp) (sv : Value) (tj : Nat), i = .int .i64 j ∧ (j : Int) ≤ more ∧ Hid (AckSt zs t more j S tj) ∧ Hid (Gq wr R B lo ⟨2, 0, S, 0, [], 0⟩ sv (.slice none 0 0)) ∧ Hid (Fq w0 wr B (zs.drop tj) tj 3) ∧ Hid (S.length ≤ tj ∧ tj ≤ zs.length) ∧ Hid (Kl R B lo w wr)) (fun i _ => more.toNat - (intOf i).toNat)
        case atStart => exact ⟨0, _, sv3, t3, rfl, by omega, HST0.out |> Lib.hid, Lib.hid HG3.out, Lib.hid HF3.out, Lib.hid ⟨by simp; exact HT3.out.1, HT3.out.2⟩, Lib.hid HK3.out⟩
        case round =>
          obtain ⟨j, S, sv, tj, rfl, hj, hst, hG, hF, hT, hK⟩ := hrel
          by_cases hlt : (j : Int) < more
          · have hSl : S.length = j + 1 := hst.out.1
            have hj2 : j < 1200 := by have := hT.out; have := HH.out.len; omega
            obtain ⟨c0, _, _, c3, _, _, _, cf⟩ := hG.out.cells
            have hrs := (Rs.of_own hG.out.sp).1
            obtain ⟨bb, off, cap, hsv, hbb, hat⟩ := hrs.at (by simp; omega)
            subst hsv
            obtain ⟨x1, x2⟩ := hat j (by simp; omega)
            have HSL := Lib.hid hSl
            have hRl := hG.out.lt
            simp only at c3 x1 x2
            rw [hSl] at c3
            generalize hX1 : (S.getD j (0, 0)).1 = y1 at *
            generalize hX2 : (S.getD j (0, 0)).2 = y2 at *
            have HX1 := Lib.hid hX1
            have e1 : IntKind.i64.wrap (j : Int) = (j : Int) := wrap_id (by omega)
            have hj3 : (j : Int) < (j : Int) + 1 := by omega
            clear hrs hat hSl hX1 hX2
            go_wp2_with fail
            have hb9 := (drewN_below wr 1).trans (below_alloc (wr.drewN 1) (.cells #[.int .i64 0, .int .i64 0] 56))
            have c3' := keepT hb9 hRl c3
            have x1' := keepT hb9 hbb x1
            have x2' := keepT hb9 hbb x2
            refine wp_region_end 15 (fun w' => w'.cell? ⟨R, 3, none⟩ = some (.slice (some ⟨bb, off, none⟩) (j + 1) cap) ∧ w'.cell? ⟨bb, off + j * 2, none⟩ = some (.int .i64 y1) ∧ w'.cell? ⟨bb, off + j * 2 + 1, none⟩ = some (.int .i64 y2)) (by kernel_rfl) ?_
            refine wpAnyE_take [0] (i := 0) (oi := { dst := some 21, op := Op.move (Operand.tmp 0), type := 79, pos := "reader.go:57", after := #[], guard := none }) (v := ?_) rfl (by kernel_rfl) (by kernel_rfl) (by kernel_rfl) (by kernel_rfl) rfl rfl (by kernel_rfl) (by kernel_rfl) (fun _ _ _ h => h) (Or.inl ⟨by rfl, ?_⟩) (by exact ⟨c3, x1, x2⟩) ?_
            rotate_left
            · intro w hSw; (try dsimp only at hSw); go_simp; try (with_reducible rfl)
            repeat (first | simp only [Act.put] | simp only [List.setIfInBounds_toArray] | simp only [List.set_cons_zero] | simp only [List.set_cons_succ])
            refine wpAnyE_take [1] (i := 1) (oi := { dst := some 22, op := Op.nilCheck (Operand.tmp 21), type := 0, pos := "reader.go:57", after := #[{ on := 0, ground := Ground.data }], guard := none }) (v := ?_) rfl (by kernel_rfl) (by kernel_rfl) (by kernel_rfl) (by kernel_rfl) rfl rfl (by kernel_rfl) (by kernel_rfl) (fun _ _ _ h => h) (Or.inl ⟨by rfl, ?_⟩) (by exact ⟨c3, x1, x2⟩) ?_
            rotate_left
            · intro w hSw; (try dsimp only at hSw); go_simp; try (with_reducible rfl)
            repeat (first | simp only [Act.put] | simp only [List.setIfInBounds_toArray] | simp only [List.set_cons_zero] | simp only [List.set_cons_succ])
            refine wpAnyE_take [2] (i := 2) (oi := { dst := some 23, op := Op.fieldAddr 64 (Operand.tmp 22) 1, type := 0, pos := "reader.go:57", after := #[{ on := 1, ground := Ground.data }], guard := none }) (v := ?_) rfl (by kernel_rfl) (by kernel_rfl) (by kernel_rfl) (by kernel_rfl) rfl rfl (by kernel_rfl) (by kernel_rfl) (fun _ _ _ h => h) (Or.inl ⟨by rfl, ?_⟩) (by exact ⟨c3, x1, x2⟩) ?_
            rotate_left
            · intro w hSw; (try dsimp only at hSw); go_simp; try (with_reducible rfl)
            repeat (first | simp only [Act.put] | simp only [List.setIfInBounds_toArray] | simp only [List.set_cons_zero] | simp only [List.set_cons_succ])
            refine wpAnyE_take [3] (i := 3) (oi := { dst := some 24, op := Op.fieldAddr 29 (Operand.tmp 23) 2, type := 0, pos := "reader.go:57", after := #[{ on := 2, ground := Ground.data }], guard := none }) (v := ?_) rfl (by kernel_rfl) (by kernel_rfl) (by kernel_rfl) (by kernel_rfl) rfl rfl (by kernel_rfl) (by kernel_rfl) (fun _ _ _ h => h) (Or.inl ⟨by rfl, ?_⟩) (by exact ⟨c3, x1, x2⟩) ?_
            rotate_left
            · intro w hSw; (try dsimp only at hSw); go_simp; try (with_reducible rfl)
            repeat (first | simp only [Act.put] | simp only [List.setIfInBounds_toArray] | simp only [List.set_cons_zero] | simp only [List.set_cons_succ])
            refine wpAnyE_take [4] (i := 4) (oi := { dst := some 25, op := Op.load 25 (Operand.tmp 24), type := 25, pos := "reader.go:57", after := #[{ on := 3, ground := Ground.data }], guard := none }) (v := ?_) rfl (by kernel_rfl) (by kernel_rfl) (by kernel_rfl) (by kernel_rfl) rfl rfl (by kernel_rfl) (by kernel_rfl) (fun _ _ _ h => h) (Or.inl ⟨by rfl, ?_⟩) (by exact ⟨c3, x1, x2⟩) ?_
            rotate_left
            · intro w hSw; (try dsimp only at hSw); go_simp; try (with_reducible rfl)
            repeat (first | simp only [Act.put] | simp only [List.setIfInBounds_toArray] | simp only [List.set_cons_zero] | simp only [List.set_cons_succ])
            refine wpAnyE_take [5] (i := 5) (oi := { dst := some 26, op := Op.move (Operand.tmp 0), type := 79, pos := "reader.go:57", after := #[], guard := none }) (v := ?_) rfl (by kernel_rfl) (by kernel_rfl) (by kernel_rfl) (by kernel_rfl) rfl rfl (by kernel_rfl) (by kernel_rfl) (fun _ _ _ h => h) (Or.inl ⟨by rfl, ?_⟩) (by exact ⟨c3, x1, x2⟩) ?_
            rotate_left
            · intro w hSw; (try dsimp only at hSw); go_simp; try (with_reducible rfl)
            repeat (first | simp only [Act.put] | simp only [List.setIfInBounds_toArray] | simp only [List.set_cons_zero] | simp only [List.set_cons_succ])
            refine wpAnyE_take [6] (i := 6) (oi := { dst := some 27, op := Op.nilCheck (Operand.tmp 26), type := 0, pos := "reader.go:57", after := #[{ on := 5, ground := Ground.data }], guard := none }) (v := ?_) rfl (by kernel_rfl) (by kernel_rfl) (by kernel_rfl) (by kernel_rfl) rfl rfl (by kernel_rfl) (by kernel_rfl) (fun _ _ _ h => h) (Or.inl ⟨by rfl, ?_⟩) (by exact ⟨c3, x1, x2⟩) ?_
            rotate_left
            · intro w hSw; (try dsimp only at hSw); go_simp; try (with_reducible rfl)
            repeat (first | simp only [Act.put] | simp only [List.setIfInBounds_toArray] | simp only [List.set_cons_zero] | simp only [List.set_cons_succ])
            refine wpAnyE_take [7] (i := 7) (oi := { dst := some 28, op := Op.fieldAddr 64 (Operand.tmp 27) 1, type := 0, pos := "reader.go:57", after := #[{ on := 6, ground := Ground.data }], guard := none }) (v := ?_) rfl (by kernel_rfl) (by kernel_rfl) (by kernel_rfl) (by kernel_rfl) rfl rfl (by kernel_rfl) (by kernel_rfl) (fun _ _ _ h => h) (Or.inl ⟨by rfl, ?_⟩) (by exact ⟨c3, x1, x2⟩) ?_
            rotate_left
            · intro w hSw; (try dsimp only at hSw); go_simp; try (with_reducible rfl)
            repeat (first | simp only [Act.put] | simp only [List.setIfInBounds_toArray] | simp only [List.set_cons_zero] | simp only [List.set_cons_succ])
            refine wpAnyE_take [8] (i := 8) (oi := { dst := some 29, op := Op.fieldAddr 29 (Operand.tmp 28) 2, type := 0, pos := "reader.go:57", after := #[{ on := 7, ground := Ground.data }], guard := none }) (v := ?_) rfl (by kernel_rfl) (by kernel_rfl) (by kernel_rfl) (by kernel_rfl) rfl rfl (by kernel_rfl) (by kernel_rfl) (fun _ _ _ h => h) (Or.inl ⟨by rfl, ?_⟩) (by exact ⟨c3, x1, x2⟩) ?_
            rotate_left
            · intro w hSw; (try dsimp only at hSw); go_simp; try (with_reducible rfl)
            repeat (first | simp only [Act.put] | simp only [List.setIfInBounds_toArray] | simp only [List.set_cons_zero] | simp only [List.set_cons_succ])
            refine wpAnyE_take [9] (i := 9) (oi := { dst := some 30, op := Op.load 25 (Operand.tmp 29), type := 25, pos := "reader.go:57", after := #[{ on := 8, ground := Ground.data }], guard := none }) (v := ?_) rfl (by kernel_rfl) (by kernel_rfl) (by kernel_rfl) (by kernel_rfl) rfl rfl (by kernel_rfl) (by kernel_rfl) (fun _ _ _ h => h) (Or.inl ⟨by rfl, ?_⟩) (by exact ⟨c3, x1, x2⟩) ?_
            rotate_left
            · intro w hSw; (try dsimp only at hSw); go_simp; try (with_reducible rfl)
            repeat (first | simp only [Act.put] | simp only [List.setIfInBounds_toArray] | simp only [List.set_cons_zero] | simp only [List.set_cons_succ])
            refine wpAnyE_take [10] (i := 10) (oi := { dst := some 31, op := Op.call { callee := Callee.builtin Builtin.len, args := #[Operand.tmp 30], argTypes := #[25] }, type := 3, pos := "reader.go:57", after := #[{ on := 9, ground := Ground.data }], guard := none }) (v := ?_) rfl (by kernel_rfl) (by kernel_rfl) (by kernel_rfl) (by kernel_rfl) rfl rfl (by kernel_rfl) (by kernel_rfl) (fun _ _ _ h => h) (Or.inl ⟨by rfl, ?_⟩) (by exact ⟨c3, x1, x2⟩) ?_
            rotate_left
            · intro w hSw; (try dsimp only at hSw); go_simp; try (with_reducible rfl)
            repeat (first | simp only [Act.put] | simp only [List.setIfInBounds_toArray] | simp only [List.set_cons_zero] | simp only [List.set_cons_succ])
            refine wpAnyE_take [11] (i := 11) (oi := { dst := some 32, op := Op.binOp BinOp.sub 3 (Operand.tmp 31) (Operand.const (Value.int IntKind.i64 1)) 3, type := 3, pos := "reader.go:57", after := #[{ on := 10, ground := Ground.data }], guard := none }) (v := ?_) rfl (by kernel_rfl) (by kernel_rfl) (by kernel_rfl) (by kernel_rfl) rfl rfl (by kernel_rfl) (by kernel_rfl) (fun _ _ _ h => h) (Or.inl ⟨by rfl, ?_⟩) (by exact ⟨c3, x1, x2⟩) ?_
            rotate_left
            · intro w hSw; (try dsimp only at hSw); go_simp; try (with_reducible rfl)
            repeat (first | simp only [Act.put] | simp only [List.setIfInBounds_toArray] | simp only [List.set_cons_zero] | simp only [List.set_cons_succ])
            refine wpAnyE_take [12] (i := 12) (oi := { dst := some 33, op := Op.indexAddr 25 (Operand.tmp 25) (Operand.tmp 32), type := 0, pos := "reader.go:57", after := #[{ on := 4, ground := Ground.data }, { on := 11, ground := Ground.data }], guard := none }) (v := ?_) rfl (by kernel_rfl) (by kernel_rfl) (by kernel_rfl) (by kernel_rfl) rfl rfl (by kernel_rfl) (by kernel_rfl) (fun _ _ _ h => h) (Or.inl ⟨by rfl, ?_⟩) (by exact ⟨c3, x1, x2⟩) ?_
            rotate_left
            · intro w hSw; (try dsimp only at hSw); go_simp; try (with_reducible rfl)
            repeat (first | simp only [Act.put] | simp only [List.setIfInBounds_toArray] | simp only [List.set_cons_zero] | simp only [List.set_cons_succ])
            refine wpAnyE_take [13] (i := 13) (oi := { dst := some 34, op := Op.load 56 (Operand.tmp 33), type := 56, pos := "reader.go:57", after := #[{ on := 12, ground := Ground.data }], guard := none }) (v := ?_) rfl (by kernel_rfl) (by kernel_rfl) (by kernel_rfl) (by kernel_rfl) rfl rfl (by kernel_rfl) (by kernel_rfl) (fun _ _ _ h => h) (Or.inl ⟨by rfl, ?_⟩) (by exact ⟨c3, x1, x2⟩) ?_
            rotate_left
            · intro w hSw; (try dsimp only at hSw); go_simp; try (with_reducible rfl)
            repeat (first | simp only [Act.put] | simp only [List.setIfInBounds_toArray] | simp only [List.set_cons_zero] | simp only [List.set_cons_succ])
            refine wpAnyE_one (i := 14) (o := { dst := some 4, op := Op.alloc 56, type := 0, pos := "reader.go:57", after := #[], guard := none }) (by kernel_rfl) rfl (fun K hK => ?_)
            go_simp
            refine hK.out _ _ (fun hL => ?_) ?_
            · exact ⟨c3', x1', x2'⟩
            clear hK K
            repeat (first | simp only [Act.put] | simp only [List.setIfInBounds_toArray] | simp only [List.set_cons_zero] | simp only [List.set_cons_succ])
            refine wpAnyE_one (i := 15) (o := { dst := none, op := Op.store 56 (Operand.tmp 4) (Operand.tmp 34), type := 0, pos := "reader.go:57", after := #[{ on := 14, ground := Ground.data }, { on := 13, ground := Ground.data }, { on := 0, ground := Ground.phase }, { on := 1, ground := Ground.phase }, { on := 2, ground := Ground.phase }, { on := 3, ground := Ground.phase }, { on := 4, ground := Ground.phase }, { on := 5, ground := Ground.phase }, { on := 6, ground := Ground.phase }, { on := 7, ground := Ground.phase }, { on := 8, ground := Ground.phase }, { on := 9, ground := Ground.phase }, { on := 10, ground := Ground.phase }, { on := 11, ground := Ground.phase }, { on := 12, ground := Ground.phase }, { on := 13, ground := Ground.phase }, { on := 14, ground := Ground.phase }], guard := none }) (by kernel_rfl) rfl (fun K hK => ?_)
            go_simp
            refine hK.out _ _ (fun hL => absurd hL (by decide)) ?_
            clear hK K
            repeat (first | simp only [Act.put] | simp only [List.setIfInBounds_toArray] | simp only [List.set_cons_zero] | simp only [List.set_cons_succ])
            refine wpAnyE_done (by kernel_rfl) ?_ _
            have hbW : Below wr.heap.size wr (wr.alloc (.cells #[.int .i64 y1, .int .i64 y2] 56)).drew := (below_alloc wr _).drew
            have hGW := (hG.out.below (below_alloc wr (.cells #[.int .i64 y1, .int .i64 y2] 56))).drew
            have hFW := (hF.out.keep (below_alloc wr (.cells #[.int .i64 y1, .int .i64 y2] 56))).drew
            have q0 : (wr.alloc (.cells #[.int .i64 y1, .int .i64 y2] 56)).drew.cell? ⟨wr.heap.size, 0, none⟩ = some (.int .i64 y1) := (cell_of_row _ wr.heap.size 0 _ _ (0, 0) (heap_alloc_new wr (.cells #[.int .i64 y1, .int .i64 y2] 56))).trans rfl
            have hWl : wr.heap.size < (wr.alloc (.cells #[.int .i64 y1, .int .i64 y2] 56)).drew.heap.size := by simp
            clear hb9 c0 c3 cf x1 x2 c3' x1' x2' e1
            generalize (wr.alloc (.cells #[.int .i64 y1, .int .i64 y2] 56)).drew = W at *
            obtain ⟨d0, _, _, _, _, _, _, df⟩ := hGW.cells
            have HGW := Lib.hid hGW.drew
            have HKW := Lib.hid (hK.out.trans (Kl.below ((hbW.drew).mono hG.out.ord.2.2)))
            have hls : lo ≤ wr.heap.size := hG.out.ord.2.2
            clear hGW
            cases hgp : gVar zs tj with
            | none =>
              have hn := gnum_no hFW.drew HH.out.byt hgp
              have HX := Lib.hid (fun (hm : more < 32) => hst.out.none1 hlt hgp hm)
              clear hgp hFW
              go_wp2_with fail
              go_region_dies
              all_goals go_wp2_with (go_at_call 62; refine hn.mono ?_; rintro e w4 ⟨he, hb4⟩; rw [errPanic] at he; subst he)
              all_goals exact ⟨rfl, gtk_no ((HKW.out.trans (Kl.of (Kq.r hb4) HGW.out.ord.2.2)).kq HLO.out) (gbody2_none (by by_cases hm : more < 32 <;> first | exact HX.out hm | exact gack_big HV.out HV1.out hm))⟩
            | some x =>
              obtain ⟨gp, tg⟩ := x
              have hn := gnum_yes hFW.drew HH.out.byt hgp
              have hbg := gvar_bd HH.out.byt hgp
              clear hFW
              go_wp2_with fail
              refine wp_region_end 10 (fun w' => w'.cell? ⟨R, 0, none⟩ = some (.pointer (some ⟨B, 0, none⟩)) ∧ w'.cell? ⟨wr.heap.size, 0, none⟩ = some (.int .i64 y1)) (by kernel_rfl) ?_
              refine wpAnyE_take [0] (i := 0) (oi := { dst := some 35, op := Op.move (Operand.tmp 0), type := 79, pos := "reader.go:58", after := #[], guard := none }) (v := ?_) rfl (by kernel_rfl) (by kernel_rfl) (by kernel_rfl) (by kernel_rfl) rfl rfl (by kernel_rfl) (by kernel_rfl) (fun _ _ _ h => h) (Or.inl ⟨by rfl, ?_⟩) (by exact ⟨d0, q0⟩) ?_
              rotate_left
              · intro w hSw; (try dsimp only at hSw); go_simp; try (with_reducible rfl)
              repeat (first | simp only [Act.put] | simp only [List.setIfInBounds_toArray] | simp only [List.set_cons_zero] | simp only [List.set_cons_succ])
              refine wpAnyE_take [9, 8, 2, 1] (i := 1) (oi := { dst := some 36, op := Op.fieldAddr 56 (Operand.tmp 4) 0, type := 0, pos := "reader.go:58", after := #[], guard := none }) (v := ?_) rfl (by kernel_rfl) (by kernel_rfl) (by kernel_rfl) (by kernel_rfl) rfl rfl (by kernel_rfl) (by kernel_rfl) (fun _ _ _ h => h) (Or.inl ⟨by rfl, ?_⟩) (by exact ⟨d0, q0⟩) ?_
              rotate_left
              · intro w hSw; (try dsimp only at hSw); go_simp; try (with_reducible rfl)
              repeat (first | simp only [Act.put] | simp only [List.setIfInBounds_toArray] | simp only [List.set_cons_zero] | simp only [List.set_cons_succ])
              refine wpAnyE_take [9, 8, 2] (i := 2) (oi := { dst := some 37, op := Op.load 3 (Operand.tmp 36), type := 3, pos := "reader.go:58", after := #[{ on := 1, ground := Ground.data }], guard := none }) (v := ?_) rfl (by kernel_rfl) (by kernel_rfl) (by kernel_rfl) (by kernel_rfl) rfl rfl (by kernel_rfl) (by kernel_rfl) (fun _ _ _ h => h) (Or.inl ⟨by rfl, ?_⟩) (by exact ⟨d0, q0⟩) ?_
              rotate_left
              · intro w hSw; (try dsimp only at hSw); go_simp; try (with_reducible rfl)
              repeat (first | simp only [Act.put] | simp only [List.setIfInBounds_toArray] | simp only [List.set_cons_zero] | simp only [List.set_cons_succ])
              refine wpAnyE_take [7, 6, 5, 4, 3] (i := 3) (oi := { dst := some 38, op := Op.move (Operand.tmp 0), type := 79, pos := "reader.go:58", after := #[], guard := none }) (v := ?_) rfl (by kernel_rfl) (by kernel_rfl) (by kernel_rfl) (by kernel_rfl) rfl rfl (by kernel_rfl) (by kernel_rfl) (fun _ _ _ h => h) (Or.inl ⟨by rfl, ?_⟩) (by exact ⟨d0, q0⟩) ?_
              rotate_left
              · intro w hSw; (try dsimp only at hSw); go_simp; try (with_reducible rfl)
              repeat (first | simp only [Act.put] | simp only [List.setIfInBounds_toArray] | simp only [List.set_cons_zero] | simp only [List.set_cons_succ])
              refine wpAnyE_take [7, 6, 5, 4] (i := 4) (oi := { dst := some 39, op := Op.nilCheck (Operand.tmp 38), type := 0, pos := "reader.go:58", after := #[{ on := 3, ground := Ground.data }], guard := none }) (v := ?_) rfl (by kernel_rfl) (by kernel_rfl) (by kernel_rfl) (by kernel_rfl) rfl rfl (by kernel_rfl) (by kernel_rfl) (fun _ _ _ h => h) (Or.inl ⟨by rfl, ?_⟩) (by exact ⟨d0, q0⟩) ?_
              rotate_left
              · intro w hSw; (try dsimp only at hSw); go_simp; try (with_reducible rfl)
              repeat (first | simp only [Act.put] | simp only [List.setIfInBounds_toArray] | simp only [List.set_cons_zero] | simp only [List.set_cons_succ])
              refine wpAnyE_take [7, 6, 5] (i := 5) (oi := { dst := some 40, op := Op.fieldAddr 64 (Operand.tmp 39) 0, type := 0, pos := "reader.go:58", after := #[{ on := 4, ground := Ground.data }], guard := none }) (v := ?_) rfl (by kernel_rfl) (by kernel_rfl) (by kernel_rfl) (by kernel_rfl) rfl rfl (by kernel_rfl) (by kernel_rfl) (fun _ _ _ h => h) (Or.inl ⟨by rfl, ?_⟩) (by exact ⟨d0, q0⟩) ?_
              rotate_left
              · intro w hSw; (try dsimp only at hSw); go_simp; try (with_reducible rfl)
              repeat (first | simp only [Act.put] | simp only [List.setIfInBounds_toArray] | simp only [List.set_cons_zero] | simp only [List.set_cons_succ])
              refine wpAnyE_take [7, 6] (i := 6) (oi := { dst := some 41, op := Op.load 61 (Operand.tmp 40), type := 61, pos := "reader.go:58", after := #[{ on := 5, ground := Ground.data }], guard := none }) (v := ?_) rfl (by kernel_rfl) (by kernel_rfl) (by kernel_rfl) (by kernel_rfl) rfl rfl (by kernel_rfl) (by kernel_rfl) (fun _ _ _ h => h) (Or.inl ⟨by rfl, ?_⟩) (by exact ⟨d0, q0⟩) ?_
              rotate_left
              · intro w hSw; (try dsimp only at hSw); go_simp; try (with_reducible rfl)
              repeat (first | simp only [Act.put] | simp only [List.setIfInBounds_toArray] | simp only [List.set_cons_zero] | simp only [List.set_cons_succ])
              refine wpAnyE_one (i := 7) (o := { dst := some 42, op := Op.call { callee := Callee.value (Operand.func 62), args := #[Operand.tmp 41], argTypes := #[61] }, type := 3, pos := "reader.go:58", after := #[{ on := 6, ground := Ground.data }], guard := none }) (by kernel_rfl) rfl (fun K hK => ?_)
              go_simp
              refine hn.mono ?_
              rintro e w4 ⟨rfl, hF4, hb4⟩
              have hG4 := HGW.out.keep hb4 (by omega) (by omega)
              have d0' := hG4.cells.1
              have q0' : w4.cell? ⟨wr.heap.size, 0, none⟩ = some (.int .i64 y1) := (World.cell?_of_block (w := W.drew) (hb4.block wr.heap.size hWl (by omega))).trans q0
              have hsp := span_any (to := IntKind.i64.wrap (IntKind.i64.wrap (y1 - gp) - 2)) hG4 rfl hF4 HH.out.byt HH.out.lo (by simp only; have := hT.out; have := HH.out.len; omega)
              refine hK.out _ _ (fun hL => ?_) ?_
              · exact ⟨d0', q0'⟩
              clear hK K
              repeat (first | simp only [Act.put] | simp only [List.setIfInBounds_toArray] | simp only [List.set_cons_zero] | simp only [List.set_cons_succ])
              refine wpAnyE_take [9, 8] (i := 8) (oi := { dst := some 43, op := Op.binOp BinOp.sub 3 (Operand.tmp 37) (Operand.tmp 42) 3, type := 3, pos := "reader.go:58", after := #[{ on := 2, ground := Ground.data }, { on := 7, ground := Ground.data }], guard := none }) (v := ?_) rfl (by kernel_rfl) (by kernel_rfl) (by kernel_rfl) (by kernel_rfl) rfl rfl (by kernel_rfl) (by kernel_rfl) (fun _ _ _ h => h) (Or.inl ⟨by rfl, ?_⟩) (by exact ⟨d0', q0'⟩) ?_
              rotate_left
              · intro w hSw; (try dsimp only at hSw); go_simp; try (with_reducible rfl)
              repeat (first | simp only [Act.put] | simp only [List.setIfInBounds_toArray] | simp only [List.set_cons_zero] | simp only [List.set_cons_succ])
              refine wpAnyE_take [9] (i := 9) (oi := { dst := some 44, op := Op.binOp BinOp.sub 3 (Operand.tmp 43) (Operand.const (Value.int IntKind.i64 2)) 3, type := 3, pos := "reader.go:58", after := #[{ on := 8, ground := Ground.data }], guard := none }) (v := ?_) rfl (by kernel_rfl) (by kernel_rfl) (by kernel_rfl) (by kernel_rfl) rfl rfl (by kernel_rfl) (by kernel_rfl) (fun _ _ _ h => h) (Or.inl ⟨by rfl, ?_⟩) (by exact ⟨d0', q0'⟩) ?_
              rotate_left
              · intro w hSw; (try dsimp only at hSw); go_simp; try (with_reducible rfl)
              repeat (first | simp only [Act.put] | simp only [List.setIfInBounds_toArray] | simp only [List.set_cons_zero] | simp only [List.set_cons_succ])
              refine wpAnyE_one (i := 10) (o := { dst := some 45, op := Op.call { callee := Callee.value (Operand.func 63), args := #[Operand.tmp 35, Operand.tmp 44], argTypes := #[79, 3] }, type := 0, pos := "reader.go:58", after := #[{ on := 0, ground := Ground.data }, { on := 9, ground := Ground.data }, { on := 7, ground := Ground.chain }], guard := none }) (by kernel_rfl) rfl (fun K hK => ?_)
              go_simp
              refine hsp.mono ?_
              rintro e w5 (⟨he, hk5, hg5⟩ | ⟨n5, t5, sv5, rfl, hg5, hG5, hF5, hk5⟩)
              · rw [errPanic] at he
                subst he
                have HX := Lib.hid (fun (hm : more < 32) => hst.out.none2 (by omega) hgp hg5 hm)
                have HK5 := Lib.hid ((HKW.out.trans ((Kl.of (Kq.r hb4) HGW.out.ord.2.2).trans hk5)).kq HLO.out)
                exact ⟨rfl, gtk_no HK5.out (gbody2_none (by by_cases hm : more < 32 <;> first | exact HX.out hm | exact gack_big HV.out HV1.out hm))⟩
              refine hK.out _ _ (fun hL => absurd hL (by decide)) ?_
              clear hK K
              repeat (first | simp only [Act.put] | simp only [List.setIfInBounds_toArray] | simp only [List.set_cons_zero] | simp only [List.set_cons_succ])
              refine wpAnyE_done (by kernel_rfl) ?_ _

              go_wp2_with fail
              have hst5 := hst.out.step hlt hgp hg5 hbg.1 (gvar_bd HH.out.byt hg5).1
              rw [HX1.out] at hst5
              have hb5 := gvar_bd HH.out.byt hg5
              have hT5 := hT.out
              go_roundw
              case rel => exact ⟨j + 1, _, sv5, t5, by go_num, by omega, Lib.hid hst5, Lib.hid hG5, Lib.hid hF5, Lib.hid ⟨by simp; omega, hb5.2.2⟩, Lib.hid (HKW.out.trans ((Kl.of (Kq.r hb4) HGW.out.ord.2.2).trans hk5))⟩
              case measure => simp [intOf]; omega
          · have hjm : (j : Int) = more := by omega
            have HF := Lib.hid (hst.out.fin hjm)
            go_wp2_with fail
            go_end0
            refine .inr ⟨_, _, _, tj, rfl, hG.out, hF.out, hK.out.kq HLO.out, fun hr => gbody2_some (HF.out.1 hr), fun hr => gbody2_none ?_⟩
            by_cases hm : more < 32
            · exact HF.out.2 hr hm
            · exact gack_big HV.out HV1.out hm
#print axioms does_ack
end Go.Proofs.YtgcgmgcgbnepeaaDoor
