/- frame.Read: crypto. -/
import Derived.Test.YtgcgmgcgbnepeaaDoorGRd2
namespace Go.Proofs.YtgcgmgcgbnepeaaDoor
open Go Go.RowKit

theorem Fq.drew {w0 w : World} {B : Nat} {rest : List Int} {t : Nat} {short : Int} (h : Fq w0 w B rest t short) : Fq w0 w.drew B rest t short := ⟨h.bel.drew, h.lo, h.sum, h.box⟩
theorem gbody6 {zs : List Int} {t t1 t2 : Nat} {a n : Int} (h1 : gVar zs t = some (a, t1)) (h2 : gVar zs t1 = some (n, t2)) :
    gBody zs 6 t = match gBytes zs n.toNat t2 with | some (l, t) => if a ≤ 1048576 ∧ 1 ≤ l.length ∧ l.length ≤ 1000 then some (⟨6, 0, [], a, l, 0⟩, t) else none | none => none := by
  simp [gBody, h1, h2]
  cases gBytes zs n.toNat t2 <;> rfl
set_option maxRecDepth 20000 in
set_option maxHeartbeats 4000000 in
theorem does_crypto {zs : List Int} {t : Nat} {w0 w : World} {R B lo : Nat} (h : Gst zs 6 t w0 w R B lo) :
    Calls Tryd.prog 55 #[.pointer (some ⟨R, 0, none⟩)] w (Gtk zs 6 t w0 w R B lo) := by
  have HH := Lib.hid h
  obtain ⟨c0, c1, c2, c3, c4, c5, c6, cf⟩ := h.g.cells
  cases hv : gVar zs t with
  | none =>
    have hr := gnum_no h.fq h.byt hv
    have HG : Hid (gBody zs 6 t = none) := Lib.hid (by simp [gBody, hv])
    clear h c1 c2 c3 c4 c5 c6 hv
    go_enter Tryd.func55, Tryd.ntmps55
    go_wp2_with (go_at_call 62; refine hr.mono ?_; rintro e w1 ⟨he, hb1⟩; rw [errPanic] at he; subst he)
    exact ⟨rfl, .inl ⟨rfl, Kq.r hb1, HG.out⟩⟩
  | some x =>
    obtain ⟨a, t1⟩ := x
    have hr := gnum_yes h.fq h.byt hv
    have HB := Lib.hid (gvar_bd h.byt hv)
    have HV := Lib.hid hv
    clear h c1 c2 c3 c4 c5 c6 hv
    go_enter Tryd.func55, Tryd.ntmps55
    go_wp2_with (go_at_call 62; refine hr.mono ?_; rintro e w1 ⟨rfl, hF1, hb1⟩; have hG := gq_num HH.out.g hb1 hF1 (Nat.le_of_lt HB.out.2.1); obtain ⟨c0, c1, c2, c3, c4, c5, c6, cf⟩ := hG.cells)
    obtain ⟨k1, k2, k3⟩ := HH.out.kb
    have hG1 := hG.seta a
    have hF2 := fq_set (i := 4) (x := .int .i64 a) hF1 k3 k1
    have hK1 : Kq R B w (w1.setCell ⟨R, 4, none⟩ (.int .i64 a)) := (Kq.r hb1).trans (Kq.l (But.set _ R 4 _))
    generalize w1.setCell ⟨R, 4, none⟩ (.int .i64 a) = w2 at *
    have HK1 := Lib.hid hK1
    have HG1 := Lib.hid hG1
    clear c0 c1 c2 c3 c4 c5 c6 cf hr hG hF1 hb1 hK1
    obtain ⟨d0, _, _, _, _, _, _, df⟩ := hG1.cells
    clear hG1
    have d0' : w2.drew.cell? ⟨R, 0, none⟩ = some (.pointer (some ⟨B, 0, none⟩)) := d0
    cases hv : gVar zs t1 with
    | none =>
      have hr := gnum_no hF2.drew HH.out.byt hv
      have HG : Hid (gBody zs 6 t = none) := Lib.hid (by simp [gBody, HV.out, hv])
      clear hv hF2
      go_wp2_with fail
      go_region_dies
      all_goals go_wp2_with (go_at_call 62; refine hr.mono ?_; rintro e w3 ⟨he, hb3⟩; rw [errPanic] at he; subst he)
      all_goals exact ⟨rfl, .inl ⟨rfl, HK1.out.trans ((Kq.r (But.drewN 1)).trans (Kq.r hb3)), HG.out⟩⟩
    | some x =>
      obtain ⟨n, t2⟩ := x
      have hr := gnum_yes hF2.drew HH.out.byt hv
      have HB2 := Lib.hid (gvar_bd HH.out.byt hv)
      have HBD := Lib.hid (gbody6 HV.out hv)
      have hn : n = (n.toNat : Int) := by have := HB2.out.1.1; omega
      have HN := Lib.hid hn
      clear hv hF2 hn
      cases hb : gBytes zs n.toNat t2 with
      | none =>
        have HG : Hid (gBody zs 6 t = none) := Lib.hid (HBD.out.trans (by rw [hb]))
        have hrb := fun (w3 : World) (hF : Fq w0 w3 B (zs.drop t2) t2 3) => gbytes_no hF hb
        rw [← HN.out] at hrb
        clear hb
        go_wp2_with fail
        refine wp_region_held_drew (S := fun w' => w'.cell? ⟨R, 0, none⟩ = some (.pointer (some ⟨B, 0, none⟩))) (by kernel_rfl) d0 (fun _ => ?_)
        refine wpAnyH_take (i := 0) (oi := { dst := some 11, op := Op.move (Operand.tmp 0), type := 79, pos := "reader.go:69", after := #[], guard := none }) (v := ?_) rfl (by kernel_rfl) (by kernel_rfl) (by kernel_rfl) (fun _ _ _ h => h) (Or.inl ⟨by rfl, ?_⟩) (by assumption) ?_
        rotate_left
        · intro w hSw; (try dsimp only at hSw); go_simp; try (with_reducible rfl)
        repeat (first | simp only [Act.put] | simp only [List.setIfInBounds_toArray] | simp only [List.set_cons_zero] | simp only [List.set_cons_succ])
        refine wpAnyH_take (i := 1) (oi := { dst := some 12, op := Op.move (Operand.tmp 0), type := 79, pos := "reader.go:69", after := #[], guard := none }) (v := ?_) rfl (by kernel_rfl) (by kernel_rfl) (by kernel_rfl) (fun _ _ _ h => h) (Or.inl ⟨by rfl, ?_⟩) (by assumption) ?_
        rotate_left
        · intro w hSw; (try dsimp only at hSw); go_simp; try (with_reducible rfl)
        repeat (first | simp only [Act.put] | simp only [List.setIfInBounds_toArray] | simp only [List.set_cons_zero] | simp only [List.set_cons_succ])
        refine wpAnyH_take (i := 2) (oi := { dst := some 13, op := Op.nilCheck (Operand.tmp 12), type := 0, pos := "reader.go:69", after := #[{ on := 1, ground := Ground.data }], guard := none }) (v := ?_) rfl (by kernel_rfl) (by kernel_rfl) (by kernel_rfl) (fun _ _ _ h => h) (Or.inl ⟨by rfl, ?_⟩) (by assumption) ?_
        rotate_left
        · intro w hSw; (try dsimp only at hSw); go_simp; try (with_reducible rfl)
        repeat (first | simp only [Act.put] | simp only [List.setIfInBounds_toArray] | simp only [List.set_cons_zero] | simp only [List.set_cons_succ])
        refine wpAnyH_take (i := 3) (oi := { dst := some 14, op := Op.fieldAddr 64 (Operand.tmp 13) 0, type := 0, pos := "reader.go:69", after := #[{ on := 2, ground := Ground.data }], guard := none }) (v := ?_) rfl (by kernel_rfl) (by kernel_rfl) (by kernel_rfl) (fun _ _ _ h => h) (Or.inl ⟨by rfl, ?_⟩) (by assumption) ?_
        rotate_left
        · intro w hSw; (try dsimp only at hSw); go_simp; try (with_reducible rfl)
        repeat (first | simp only [Act.put] | simp only [List.setIfInBounds_toArray] | simp only [List.set_cons_zero] | simp only [List.set_cons_succ])
        refine wpAnyH_take (i := 4) (oi := { dst := some 15, op := Op.load 61 (Operand.tmp 14), type := 61, pos := "reader.go:69", after := #[{ on := 3, ground := Ground.data }], guard := none }) (v := ?_) rfl (by kernel_rfl) (by kernel_rfl) (by kernel_rfl) (fun _ _ _ h => h) (Or.inl ⟨by rfl, ?_⟩) (by assumption) ?_
        rotate_left
        · intro w hSw; (try dsimp only at hSw); go_simp; try (with_reducible rfl)
        repeat (first | simp only [Act.put] | simp only [List.setIfInBounds_toArray] | simp only [List.set_cons_zero] | simp only [List.set_cons_succ])
        refine wpAnyH_take (i := 5) (oi := { dst := some 16, op := Op.move (Operand.tmp 0), type := 79, pos := "reader.go:69", after := #[], guard := none }) (v := ?_) rfl (by kernel_rfl) (by kernel_rfl) (by kernel_rfl) (fun _ _ _ h => h) (Or.inl ⟨by rfl, ?_⟩) (by assumption) ?_
        rotate_left
        · intro w hSw; (try dsimp only at hSw); go_simp; try (with_reducible rfl)
        repeat (first | simp only [Act.put] | simp only [List.setIfInBounds_toArray] | simp only [List.set_cons_zero] | simp only [List.set_cons_succ])
        refine wpAnyH_take (i := 6) (oi := { dst := some 17, op := Op.nilCheck (Operand.tmp 16), type := 0, pos := "reader.go:69", after := #[{ on := 5, ground := Ground.data }], guard := none }) (v := ?_) rfl (by kernel_rfl) (by kernel_rfl) (by kernel_rfl) (fun _ _ _ h => h) (Or.inl ⟨by rfl, ?_⟩) (by assumption) ?_
        rotate_left
        · intro w hSw; (try dsimp only at hSw); go_simp; try (with_reducible rfl)
        repeat (first | simp only [Act.put] | simp only [List.setIfInBounds_toArray] | simp only [List.set_cons_zero] | simp only [List.set_cons_succ])
        refine wpAnyH_take (i := 7) (oi := { dst := some 18, op := Op.fieldAddr 64 (Operand.tmp 17) 0, type := 0, pos := "reader.go:69", after := #[{ on := 6, ground := Ground.data }], guard := none }) (v := ?_) rfl (by kernel_rfl) (by kernel_rfl) (by kernel_rfl) (fun _ _ _ h => h) (Or.inl ⟨by rfl, ?_⟩) (by assumption) ?_
        rotate_left
        · intro w hSw; (try dsimp only at hSw); go_simp; try (with_reducible rfl)
        repeat (first | simp only [Act.put] | simp only [List.setIfInBounds_toArray] | simp only [List.set_cons_zero] | simp only [List.set_cons_succ])
        refine wpAnyH_take (i := 8) (oi := { dst := some 19, op := Op.load 61 (Operand.tmp 18), type := 61, pos := "reader.go:69", after := #[{ on := 7, ground := Ground.data }], guard := none }) (v := ?_) rfl (by kernel_rfl) (by kernel_rfl) (by kernel_rfl) (fun _ _ _ h => h) (Or.inl ⟨by rfl, ?_⟩) (by assumption) ?_
        rotate_left
        · intro w hSw; (try dsimp only at hSw); go_simp; try (with_reducible rfl)
        repeat (first | simp only [Act.put] | simp only [List.setIfInBounds_toArray] | simp only [List.set_cons_zero] | simp only [List.set_cons_succ])
        refine wpAnyH_ready (rs := [9]) (by kernel_rfl) (by simp) ?_
        refine AllReadyH.cons (o := { dst := some 20, op := Op.call { callee := Callee.value (Operand.func 62), args := #[Operand.tmp 19], argTypes := #[61] }, type := 3, pos := "reader.go:69", after := #[{ on := 8, ground := Ground.data }], guard := none }) rfl (fun K hK => ?_) AllReadyH.nil
        go_simp
        refine hr.mono ?_
        rintro e w3 ⟨rfl, hF3, hb3⟩
        have hg3 := (HG1.out.drew).keep hb3 (Ne.symm k1) k2
        have e0 := hg3.cells.1
        refine hK.out _ _ ?_ (fun hHeld => ?_)
        · exact e0
        clear hK K
        repeat (first | simp only [Act.put] | simp only [List.setIfInBounds_toArray] | simp only [List.set_cons_zero] | simp only [List.set_cons_succ])
        refine wpAnyH_ready (rs := [10]) (by kernel_rfl) (by simp) ?_
        refine AllReadyH.cons (o := { dst := some 21, op := Op.call { callee := Callee.value (Operand.func 64), args := #[Operand.tmp 15, Operand.tmp 20], argTypes := #[61, 3] }, type := 26, pos := "reader.go:69", after := #[{ on := 4, ground := Ground.data }, { on := 9, ground := Ground.data }, { on := 9, ground := Ground.chain }], guard := none }) rfl (fun K hK => ?_) AllReadyH.nil
        go_simp
        refine (hrb _ hF3).mono ?_
        rintro e w4 ⟨he, hb4⟩
        rw [errPanic] at he
        subst he
        exact ⟨rfl, .inl ⟨rfl, HK1.out.trans ((Kq.r (But.drewN 1)).trans ((Kq.r hb3).trans (Kq.r hb4))), HG.out⟩⟩
      | some x =>
        obtain ⟨l, t3⟩ := x
        have HG : Hid (gBody zs 6 t = if a ≤ 1048576 ∧ 1 ≤ l.length ∧ l.length ≤ 1000 then some (⟨6, 0, [], a, l, 0⟩, t3) else none) := Lib.hid (HBD.out.trans (by rw [hb]))
        have hrb := fun (w3 : World) (hF : Fq w0 w3 B (zs.drop t2) t2 3) => gbytes_yes hF hb
        rw [← HN.out] at hrb
        clear hb
        go_wp2_with fail
        go_region_with (first
          | (go_at_call 62; refine hr.mono ?_; rintro e w3 ⟨rfl, hF3, hb3⟩; have hg3 := (HG1.out.drew).keep hb3 (Ne.symm k1) k2; have e0 := hg3.cells.1)
          | (go_at_call 64; refine (hrb _ hF3).mono ?_; rintro e w4 ⟨v4, rfl, ⟨hv4, hp4⟩, hF4, hb4⟩; have hg4 := hg3.keep hb4 (Ne.symm k1) k2; obtain ⟨e0, e1, e2, e3, e4, e5, e6, ef⟩ := hg4.cells; obtain ⟨a4, n4, q4, rfl⟩ : ∃ a n c, v4 = .slice a n c := (by obtain ⟨x, y, h⟩ := hv4.rd.shape; exact ⟨_, _, _, h⟩)))
        all_goals go_wp2_with fail
        all_goals go_end0
        all_goals
          have hra4 : Ra lo w4 (.slice a4 n4 q4) l := hv4.mono (by have := hg3.ord; omega)
          have hgf := hg4.setd hra4 hp4
          refine .inr ⟨_, _, _, t3, rfl, hgf, fq_set hF4 k3 k1, HK1.out.trans (((Kq.r (But.drewN 1)).trans ((Kq.r hb3).trans (Kq.r hb4))).trans (Kq.l (But.set _ R 5 _))), fun hr => ?_, fun hr => ?_⟩
          · simp [rightB, bareB] at hr
            rw [HG.out, if_pos ⟨hr.2.1, hr.2.2.1, hr.2.2.2⟩]
          · rw [HG.out]
            refine if_neg fun hc => ?_
            have h0 := HB.out.1.1
            have e : rightB ⟨6, 0, [], a, l, 0⟩ = true := by simp [rightB, bareB]; exact ⟨h0, hc.1, hc.2.1, hc.2.2⟩
            exact absurd (e.symm.trans hr) (by decide)
#print axioms does_crypto
end Go.Proofs.YtgcgmgcgbnepeaaDoor
