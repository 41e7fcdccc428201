/- hello.Read: flag, shares, mac, ticket, params, name. -/
import Derived.Test.YtefcjggmlhoebaaDoorHRd2
import Derived.Test.YtefcjggmlhoebaaDoorEnd
namespace Go.Proofs.YtefcjggmlhoebaaDoor
open Go Go.RowKit

theorem Hq.ap {w : World} {R B lo : Nat} {x : Hm} {pv : Value} (h : Hq w R B lo x pv) : R ≠ B ∧ B ≠ R ∧ B < lo := by
  obtain ⟨o1, o2, _⟩ := h.ord
  omega
set_option maxRecDepth 20000 in
set_option maxHeartbeats 2000000 in
theorem hflag_m {zs : List Int} {t : Nat} {w0 w : World} {R B lo : Nat} {x : Hm} {pv : Value} (g : Hq w R B lo x pv) (hF : Fq w0 w B (zs.drop t) t 3) (hbt : Byt zs) (hlo : w0.heap.size ≤ B) :
    Calls Tryd.prog 87 #[.pointer (some ⟨R, 0, none⟩)] w (Hdo zs w0 w R B lo ((hFlag zs t).map fun y => ({ x with f := y.1 }, y.2))) := by
  have HG := Lib.hid g
  have HBT := Lib.hid hbt
  obtain ⟨a1, a2, a3⟩ := g.ap
  have hRR : w0.heap.size ≤ R := by obtain ⟨o1, _, _⟩ := g.ord; omega
  have hc := hbit_m g hF hbt
  clear g hF hbt
  go_enter Tryd.func87, Tryd.ntmps87
  go_wp2_with fail
  refine hc.mono ?_
  rintro e w1 (⟨he, hb1, hn⟩ | ⟨b, rfl, hv, hF1, hb1⟩)
  · rw [errPanic] at he
    subst he
    go_wp2_with fail
    exact ⟨rfl, .inl ⟨rfl, Kq.r hb1, by rw [hn]; rfl⟩⟩
  · have HG1 := Lib.hid (HG.out.keep hb1 a1 a3)
    obtain ⟨c0, ⟨c1, c2, c3, c4, c5, c6, c7, c8, c9, c10⟩, cf⟩ := HG1.out.cells
    go_wp2_with fail
    go_end0
    exact .inr ⟨_, _, _, rfl, by rw [hv]; rfl, HG1.out.setf b, fq_set hF1 hRR a2, (Kq.r hb1).trans (Kq.l (But.set _ R _ _))⟩
set_option maxRecDepth 20000 in
set_option maxHeartbeats 2000000 in
theorem hmac_m {zs : List Int} {t : Nat} {w0 w : World} {R B lo : Nat} {x : Hm} {pv : Value} (g : Hq w R B lo x pv) (hF : Fq w0 w B (zs.drop t) t 3) (hbt : Byt zs) (hlo : w0.heap.size ≤ B) :
    Calls Tryd.prog 79 #[.pointer (some ⟨R, 0, none⟩)] w (Hdo zs w0 w R B lo ((gTerm zs t).map fun y => ({ x with m := y.1 }, y.2))) := by
  have HG := Lib.hid g
  have HBT := Lib.hid hbt
  obtain ⟨a1, a2, a3⟩ := g.ap
  have hRR : w0.heap.size ≤ R := by obtain ⟨o1, _, _⟩ := g.ord; omega
  have hc := hterm_m g hF
  clear g hF hbt
  go_enter Tryd.func79, Tryd.ntmps79
  go_wp2_with fail
  refine hc.mono ?_
  rintro e w1 (⟨he, hb1, hn⟩ | ⟨b, rfl, hv, hF1, hb1⟩)
  · rw [errPanic] at he
    subst he
    go_wp2_with fail
    exact ⟨rfl, .inl ⟨rfl, Kq.r hb1, by rw [hn]; rfl⟩⟩
  · have HG1 := Lib.hid (HG.out.keep hb1 a1 a3)
    obtain ⟨c0, ⟨c1, c2, c3, c4, c5, c6, c7, c8, c9, c10⟩, cf⟩ := HG1.out.cells
    go_wp2_with fail
    go_end0
    exact .inr ⟨_, _, _, rfl, by rw [hv]; rfl, HG1.out.setm b, fq_set hF1 hRR a2, (Kq.r hb1).trans (Kq.l (But.set _ R _ _))⟩
def hShares (zs : List Int) (t : Nat) (x : Hm) : Option (Hm × Nat) := match gTerm zs t with
  | some (r, t) => (match gTerm zs t with | some (s, t) => some ({ x with r := r, s := s }, t) | none => none)
  | none => none
set_option maxRecDepth 20000 in
set_option maxHeartbeats 2000000 in
theorem hshares_m {zs : List Int} {t : Nat} {w0 w : World} {R B lo : Nat} {x : Hm} {pv : Value} (g : Hq w R B lo x pv) (hF : Fq w0 w B (zs.drop t) t 3) (hbt : Byt zs) (hlo : w0.heap.size ≤ B) :
    Calls Tryd.prog 86 #[.pointer (some ⟨R, 0, none⟩)] w (Hdo zs w0 w R B lo (hShares zs t x)) := by
  have HG := Lib.hid g
  have HBT := Lib.hid hbt
  obtain ⟨a1, a2, a3⟩ := g.ap
  have hRR : w0.heap.size ≤ R := by obtain ⟨o1, _, _⟩ := g.ord; omega
  have hc := hterm_m g hF
  clear g hF hbt
  go_enter Tryd.func86, Tryd.ntmps86
  go_wp2_with fail
  refine hc.mono ?_
  rintro e w1 (⟨he, hb1, hn⟩ | ⟨b, rfl, hv, hF1, hb1⟩)
  · rw [errPanic] at he
    subst he
    go_wp2_with fail
    exact ⟨rfl, .inl ⟨rfl, Kq.r hb1, by unfold hShares; rw [hn]⟩⟩
  · have HG1 := Lib.hid (HG.out.keep hb1 a1 a3)
    obtain ⟨c0, ⟨c1, c2, c3, c4, c5, c6, c7, c8, c9, c10⟩, cf⟩ := HG1.out.cells
    have HG2 := Lib.hid (HG1.out.setr b)
    have HK2 := Lib.hid ((Kq.r (R := R) hb1).trans (Kq.l (But.set w1 R 2 (.int .i64 b))))
    have hF2 := fq_set (i := 2) (x := .int .i64 b) hF1 hRR a2
    have hc2 := hterm_m HG2.out hF2
    clear hc hF1 hF2 hb1
    go_wp2_with fail
    refine hc2.mono ?_
    rintro e w3 (⟨he, hb3, hn⟩ | ⟨b3, rfl, hv3, hF3, hb3⟩)
    · rw [errPanic] at he
      subst he
      go_wp2_with fail
      exact ⟨rfl, .inl ⟨rfl, HK2.out.trans (Kq.r hb3), by unfold hShares; rw [hv]; simp only; rw [hn]⟩⟩
    · have HG3 := Lib.hid (HG2.out.keep hb3 a1 a3)
      clear c0 c1 c2 c3 c4 c5 c6 c7 c8 c9 c10 cf
      obtain ⟨c0, ⟨c1, c2, c3, c4, c5, c6, c7, c8, c9, c10⟩, cf⟩ := HG3.out.cells
      go_wp2_with fail
      go_end0
      exact .inr ⟨_, _, _, rfl, by unfold hShares; rw [hv]; simp only; rw [hv3], HG3.out.sets b3, fq_set hF3 hRR a2, (HK2.out.trans (Kq.r hb3)).trans (Kq.l (But.set _ R _ _))⟩
def hTick (zs : List Int) (t : Nat) (x : Hm) : Option (Hm × Nat) := match gTerm zs t with
  | some (r, t) => (match gVar zs t with | some (s, t) => some ({ x with t := r, l := s }, t) | none => none)
  | none => none
set_option maxRecDepth 20000 in
set_option maxHeartbeats 2000000 in
theorem htick_m {zs : List Int} {t : Nat} {w0 w : World} {R B lo : Nat} {x : Hm} {pv : Value} (g : Hq w R B lo x pv) (hF : Fq w0 w B (zs.drop t) t 3) (hbt : Byt zs) (hlo : w0.heap.size ≤ B) :
    Calls Tryd.prog 76 #[.pointer (some ⟨R, 0, none⟩)] w (Hdo zs w0 w R B lo (hTick zs t x)) := by
  have HG := Lib.hid g
  have HBT := Lib.hid hbt
  obtain ⟨a1, a2, a3⟩ := g.ap
  have hRR : w0.heap.size ≤ R := by obtain ⟨o1, _, _⟩ := g.ord; omega
  have hc := hterm_m g hF
  clear g hF hbt
  go_enter Tryd.func76, Tryd.ntmps76
  go_wp2_with fail
  refine hc.mono ?_
  rintro e w1 (⟨he, hb1, hn⟩ | ⟨b, rfl, hv, hF1, hb1⟩)
  · rw [errPanic] at he
    subst he
    go_wp2_with fail
    exact ⟨rfl, .inl ⟨rfl, Kq.r hb1, by unfold hTick; rw [hn]⟩⟩
  · have HG1 := Lib.hid (HG.out.keep hb1 a1 a3)
    obtain ⟨c0, ⟨c1, c2, c3, c4, c5, c6, c7, c8, c9, c10⟩, cf⟩ := HG1.out.cells
    have HG2 := Lib.hid (HG1.out.sett b)
    have HK2 := Lib.hid ((Kq.r (R := R) hb1).trans (Kq.l (But.set w1 R 4 (.int .i64 b))))
    have hF2 := fq_set (i := 4) (x := .int .i64 b) hF1 hRR a2
    obtain ⟨e0, _, ef⟩ := HG2.out.cells
    cases hv2 : gVar zs (t + 4) with
    | none =>
      have hc2 := gnum_no hF2 HBT.out hv2
      clear hc hF1 hF2 hb1
      go_wp2_with fail
      refine hc2.mono ?_
      rintro e w3 ⟨he, hb3⟩
      rw [errPanic] at he
      subst he
      go_wp2_with fail
      exact ⟨rfl, .inl ⟨rfl, HK2.out.trans (Kq.r hb3), by unfold hTick; rw [hv]; simp only; rw [hv2]⟩⟩
    | some y =>
      obtain ⟨n, t2⟩ := y
      have hc2 := gnum_yes hF2 HBT.out hv2
      clear hc hF1 hF2 hb1
      go_wp2_with fail
      refine hc2.mono ?_
      rintro e w3 ⟨rfl, hF3, hb3⟩
      have HG3 := Lib.hid (HG2.out.keep hb3 a1 a3)
      clear c0 c1 c2 c3 c4 c5 c6 c7 c8 c9 c10 cf e0 ef
      obtain ⟨c0, ⟨c1, c2, c3, c4, c5, c6, c7, c8, c9, c10⟩, cf⟩ := HG3.out.cells
      go_wp2_with fail
      go_end0
      exact .inr ⟨_, _, _, rfl, by unfold hTick; rw [hv]; simp only; rw [hv2], HG3.out.setl n, fq_set hF3 hRR a2, (HK2.out.trans (Kq.r hb3)).trans (Kq.l (But.set _ R _ _))⟩
set_option maxRecDepth 20000 in
set_option maxHeartbeats 2000000 in
theorem hparams_m {zs : List Int} {t : Nat} {w0 w : World} {R B lo : Nat} {x : Hm} {pv : Value} (g : Hq w R B lo x pv) (hF : Fq w0 w B (zs.drop t) t 3) (hbt : Byt zs) (hlo : w0.heap.size ≤ B) :
    Calls Tryd.prog 90 #[.pointer (some ⟨R, 0, none⟩)] w (Hdo zs w0 w R B lo ((hGive zs t).map fun y => ({ x with p := y.1 }, y.2))) := by
  have HG := Lib.hid g
  have HBT := Lib.hid hbt
  obtain ⟨a1, a2, a3⟩ := g.ap
  have hRR : w0.heap.size ≤ R := by obtain ⟨o1, _, _⟩ := g.ord; omega
  have hw : lo ≤ w.heap.size := g.ord.2.2
  have hFd : Fq w0 w.drew B (zs.drop t) t 3 := hF.but (R := R) (But.drewN 1) hRR a2
  cases hv : gVar zs t with
  | none =>
    have hcn := gnum_no hFd HBT.out hv
    have HN : Hid (hGive zs t = none) := Lib.hid (by unfold hGive; rw [hv])
    clear g hF hbt hFd hv
    go_enter Tryd.func90, Tryd.ntmps90
    go_wp2_with fail
    refine wp_region_end 14 (fun w' => w'.cell? ⟨R, 0, none⟩ = some (.pointer (some ⟨B, 0, none⟩))) (by kernel_rfl) ?_
    have HG0 : Hid (Hq w.drew R B lo x pv) := Lib.hid ⟨HG.out.box, ⟨HG.out.d.rd, HG.out.d.far⟩, HG.out.pl, HG.out.ord⟩
    have hc0 := HG0.out.cells.1
    refine wpAnyE_take [0] (i := 0) (oi := { dst := some 2, op := Op.move (Operand.tmp 0), type := 88, pos := "reader.go:86", after := #[], guard := none }) (v := ?_) rfl (by kernel_rfl) (by kernel_rfl) (by kernel_rfl) (by kernel_rfl) rfl rfl (by kernel_rfl) (by kernel_rfl) (fun _ _ _ h => h) (Or.inl ⟨by rfl, ?_⟩) (by exact hc0) ?_
    rotate_left
    · intro w hSw; (try dsimp only at hSw); have r0 := hSw; go_simp; try (with_reducible rfl)
    repeat (first | simp only [Act.put] | simp only [List.setIfInBounds_toArray] | simp only [List.set_cons_zero] | simp only [List.set_cons_succ])
    refine wpAnyE_take [1] (i := 1) (oi := { dst := some 3, op := Op.move (Operand.tmp 0), type := 88, pos := "reader.go:86", after := #[], guard := none }) (v := ?_) rfl (by kernel_rfl) (by kernel_rfl) (by kernel_rfl) (by kernel_rfl) rfl rfl (by kernel_rfl) (by kernel_rfl) (fun _ _ _ h => h) (Or.inl ⟨by rfl, ?_⟩) (by exact hc0) ?_
    rotate_left
    · intro w hSw; (try dsimp only at hSw); have r0 := hSw; go_simp; try (with_reducible rfl)
    repeat (first | simp only [Act.put] | simp only [List.setIfInBounds_toArray] | simp only [List.set_cons_zero] | simp only [List.set_cons_succ])
    refine wpAnyE_take [2] (i := 2) (oi := { dst := some 4, op := Op.nilCheck (Operand.tmp 3), type := 0, pos := "reader.go:86", after := #[{ on := 1, ground := Ground.data }], guard := none }) (v := ?_) rfl (by kernel_rfl) (by kernel_rfl) (by kernel_rfl) (by kernel_rfl) rfl rfl (by kernel_rfl) (by kernel_rfl) (fun _ _ _ h => h) (Or.inl ⟨by rfl, ?_⟩) (by exact hc0) ?_
    rotate_left
    · intro w hSw; (try dsimp only at hSw); have r0 := hSw; go_simp; try (with_reducible rfl)
    repeat (first | simp only [Act.put] | simp only [List.setIfInBounds_toArray] | simp only [List.set_cons_zero] | simp only [List.set_cons_succ])
    refine wpAnyE_take [3] (i := 3) (oi := { dst := some 5, op := Op.fieldAddr 59 (Operand.tmp 4) 0, type := 0, pos := "reader.go:86", after := #[{ on := 2, ground := Ground.data }], guard := none }) (v := ?_) rfl (by kernel_rfl) (by kernel_rfl) (by kernel_rfl) (by kernel_rfl) rfl rfl (by kernel_rfl) (by kernel_rfl) (fun _ _ _ h => h) (Or.inl ⟨by rfl, ?_⟩) (by exact hc0) ?_
    rotate_left
    · intro w hSw; (try dsimp only at hSw); have r0 := hSw; go_simp; try (with_reducible rfl)
    repeat (first | simp only [Act.put] | simp only [List.setIfInBounds_toArray] | simp only [List.set_cons_zero] | simp only [List.set_cons_succ])
    refine wpAnyE_take [4] (i := 4) (oi := { dst := some 6, op := Op.load 56 (Operand.tmp 5), type := 56, pos := "reader.go:86", after := #[{ on := 3, ground := Ground.data }], guard := none }) (v := ?_) rfl (by kernel_rfl) (by kernel_rfl) (by kernel_rfl) (by kernel_rfl) rfl rfl (by kernel_rfl) (by kernel_rfl) (fun _ _ _ h => h) (Or.inl ⟨by rfl, ?_⟩) (by exact hc0) ?_
    rotate_left
    · intro w hSw; (try dsimp only at hSw); have r0 := hSw; go_simp; try (with_reducible rfl)
    repeat (first | simp only [Act.put] | simp only [List.setIfInBounds_toArray] | simp only [List.set_cons_zero] | simp only [List.set_cons_succ])
    refine wpAnyE_take [5] (i := 5) (oi := { dst := some 7, op := Op.move (Operand.tmp 0), type := 88, pos := "reader.go:86", after := #[], guard := none }) (v := ?_) rfl (by kernel_rfl) (by kernel_rfl) (by kernel_rfl) (by kernel_rfl) rfl rfl (by kernel_rfl) (by kernel_rfl) (fun _ _ _ h => h) (Or.inl ⟨by rfl, ?_⟩) (by exact hc0) ?_
    rotate_left
    · intro w hSw; (try dsimp only at hSw); have r0 := hSw; go_simp; try (with_reducible rfl)
    repeat (first | simp only [Act.put] | simp only [List.setIfInBounds_toArray] | simp only [List.set_cons_zero] | simp only [List.set_cons_succ])
    refine wpAnyE_take [6] (i := 6) (oi := { dst := some 8, op := Op.nilCheck (Operand.tmp 7), type := 0, pos := "reader.go:86", after := #[{ on := 5, ground := Ground.data }], guard := none }) (v := ?_) rfl (by kernel_rfl) (by kernel_rfl) (by kernel_rfl) (by kernel_rfl) rfl rfl (by kernel_rfl) (by kernel_rfl) (fun _ _ _ h => h) (Or.inl ⟨by rfl, ?_⟩) (by exact hc0) ?_
    rotate_left
    · intro w hSw; (try dsimp only at hSw); have r0 := hSw; go_simp; try (with_reducible rfl)
    repeat (first | simp only [Act.put] | simp only [List.setIfInBounds_toArray] | simp only [List.set_cons_zero] | simp only [List.set_cons_succ])
    refine wpAnyE_take [7] (i := 7) (oi := { dst := some 9, op := Op.fieldAddr 59 (Operand.tmp 8) 0, type := 0, pos := "reader.go:86", after := #[{ on := 6, ground := Ground.data }], guard := none }) (v := ?_) rfl (by kernel_rfl) (by kernel_rfl) (by kernel_rfl) (by kernel_rfl) rfl rfl (by kernel_rfl) (by kernel_rfl) (fun _ _ _ h => h) (Or.inl ⟨by rfl, ?_⟩) (by exact hc0) ?_
    rotate_left
    · intro w hSw; (try dsimp only at hSw); have r0 := hSw; go_simp; try (with_reducible rfl)
    repeat (first | simp only [Act.put] | simp only [List.setIfInBounds_toArray] | simp only [List.set_cons_zero] | simp only [List.set_cons_succ])
    refine wpAnyE_take [8] (i := 8) (oi := { dst := some 10, op := Op.load 56 (Operand.tmp 9), type := 56, pos := "reader.go:86", after := #[{ on := 7, ground := Ground.data }], guard := none }) (v := ?_) rfl (by kernel_rfl) (by kernel_rfl) (by kernel_rfl) (by kernel_rfl) rfl rfl (by kernel_rfl) (by kernel_rfl) (fun _ _ _ h => h) (Or.inl ⟨by rfl, ?_⟩) (by exact hc0) ?_
    rotate_left
    · intro w hSw; (try dsimp only at hSw); have r0 := hSw; go_simp; try (with_reducible rfl)
    repeat (first | simp only [Act.put] | simp only [List.setIfInBounds_toArray] | simp only [List.set_cons_zero] | simp only [List.set_cons_succ])
    refine wpAnyE_one (i := 9) (o := { dst := some 11, op := Op.call { callee := Callee.value (Operand.func 83), args := #[Operand.tmp 10], argTypes := #[56] }, type := 3, pos := "reader.go:86", after := #[{ on := 8, ground := Ground.data }], guard := none }) (by kernel_rfl) rfl (fun K hK => ?_)
    go_simp
    refine hcn.mono ?_
    rintro e w1 ⟨he, hb1⟩
    rw [errPanic] at he
    subst he
    exact ⟨rfl, .inl ⟨rfl, (Kq.r (But.drewN 1)).trans (Kq.r hb1), by rw [HN.out]; rfl⟩⟩
  | some y =>
    obtain ⟨n, t1⟩ := y
    have hcn := gnum_yes hFd HBT.out hv
    obtain ⟨m, rfl⟩ : ∃ m : Nat, n = m := ⟨n.toNat, by have := (gvar_bd HBT.out hv).1.1; omega⟩
    cases hv2 : gBytes zs m t1 with
    | none =>
      have hb2 := fun (w1 : World) (hF1 : Fq w0 w1 B (zs.drop t1) t1 3) => gbytes_no hF1 hv2
      have HN : Hid (hGive zs t = none) := Lib.hid (by unfold hGive; rw [hv]; simp only [Int.toNat_natCast]; rw [hv2])
      clear g hF hbt hFd hv hv2
      go_enter Tryd.func90, Tryd.ntmps90
      go_wp2_with fail
      refine wp_region_end 14 (fun w' => w'.cell? ⟨R, 0, none⟩ = some (.pointer (some ⟨B, 0, none⟩))) (by kernel_rfl) ?_
      have HG0 : Hid (Hq w.drew R B lo x pv) := Lib.hid ⟨HG.out.box, ⟨HG.out.d.rd, HG.out.d.far⟩, HG.out.pl, HG.out.ord⟩
      have hc0 := HG0.out.cells.1
      refine wpAnyE_take [0] (i := 0) (oi := { dst := some 2, op := Op.move (Operand.tmp 0), type := 88, pos := "reader.go:86", after := #[], guard := none }) (v := ?_) rfl (by kernel_rfl) (by kernel_rfl) (by kernel_rfl) (by kernel_rfl) rfl rfl (by kernel_rfl) (by kernel_rfl) (fun _ _ _ h => h) (Or.inl ⟨by rfl, ?_⟩) (by exact hc0) ?_
      rotate_left
      · intro w hSw; (try dsimp only at hSw); have r0 := hSw; go_simp; try (with_reducible rfl)
      repeat (first | simp only [Act.put] | simp only [List.setIfInBounds_toArray] | simp only [List.set_cons_zero] | simp only [List.set_cons_succ])
      refine wpAnyE_take [1] (i := 1) (oi := { dst := some 3, op := Op.move (Operand.tmp 0), type := 88, pos := "reader.go:86", after := #[], guard := none }) (v := ?_) rfl (by kernel_rfl) (by kernel_rfl) (by kernel_rfl) (by kernel_rfl) rfl rfl (by kernel_rfl) (by kernel_rfl) (fun _ _ _ h => h) (Or.inl ⟨by rfl, ?_⟩) (by exact hc0) ?_
      rotate_left
      · intro w hSw; (try dsimp only at hSw); have r0 := hSw; go_simp; try (with_reducible rfl)
      repeat (first | simp only [Act.put] | simp only [List.setIfInBounds_toArray] | simp only [List.set_cons_zero] | simp only [List.set_cons_succ])
      refine wpAnyE_take [2] (i := 2) (oi := { dst := some 4, op := Op.nilCheck (Operand.tmp 3), type := 0, pos := "reader.go:86", after := #[{ on := 1, ground := Ground.data }], guard := none }) (v := ?_) rfl (by kernel_rfl) (by kernel_rfl) (by kernel_rfl) (by kernel_rfl) rfl rfl (by kernel_rfl) (by kernel_rfl) (fun _ _ _ h => h) (Or.inl ⟨by rfl, ?_⟩) (by exact hc0) ?_
      rotate_left
      · intro w hSw; (try dsimp only at hSw); have r0 := hSw; go_simp; try (with_reducible rfl)
      repeat (first | simp only [Act.put] | simp only [List.setIfInBounds_toArray] | simp only [List.set_cons_zero] | simp only [List.set_cons_succ])
      refine wpAnyE_take [3] (i := 3) (oi := { dst := some 5, op := Op.fieldAddr 59 (Operand.tmp 4) 0, type := 0, pos := "reader.go:86", after := #[{ on := 2, ground := Ground.data }], guard := none }) (v := ?_) rfl (by kernel_rfl) (by kernel_rfl) (by kernel_rfl) (by kernel_rfl) rfl rfl (by kernel_rfl) (by kernel_rfl) (fun _ _ _ h => h) (Or.inl ⟨by rfl, ?_⟩) (by exact hc0) ?_
      rotate_left
      · intro w hSw; (try dsimp only at hSw); have r0 := hSw; go_simp; try (with_reducible rfl)
      repeat (first | simp only [Act.put] | simp only [List.setIfInBounds_toArray] | simp only [List.set_cons_zero] | simp only [List.set_cons_succ])
      refine wpAnyE_take [4] (i := 4) (oi := { dst := some 6, op := Op.load 56 (Operand.tmp 5), type := 56, pos := "reader.go:86", after := #[{ on := 3, ground := Ground.data }], guard := none }) (v := ?_) rfl (by kernel_rfl) (by kernel_rfl) (by kernel_rfl) (by kernel_rfl) rfl rfl (by kernel_rfl) (by kernel_rfl) (fun _ _ _ h => h) (Or.inl ⟨by rfl, ?_⟩) (by exact hc0) ?_
      rotate_left
      · intro w hSw; (try dsimp only at hSw); have r0 := hSw; go_simp; try (with_reducible rfl)
      repeat (first | simp only [Act.put] | simp only [List.setIfInBounds_toArray] | simp only [List.set_cons_zero] | simp only [List.set_cons_succ])
      refine wpAnyE_take [5] (i := 5) (oi := { dst := some 7, op := Op.move (Operand.tmp 0), type := 88, pos := "reader.go:86", after := #[], guard := none }) (v := ?_) rfl (by kernel_rfl) (by kernel_rfl) (by kernel_rfl) (by kernel_rfl) rfl rfl (by kernel_rfl) (by kernel_rfl) (fun _ _ _ h => h) (Or.inl ⟨by rfl, ?_⟩) (by exact hc0) ?_
      rotate_left
      · intro w hSw; (try dsimp only at hSw); have r0 := hSw; go_simp; try (with_reducible rfl)
      repeat (first | simp only [Act.put] | simp only [List.setIfInBounds_toArray] | simp only [List.set_cons_zero] | simp only [List.set_cons_succ])
      refine wpAnyE_take [6] (i := 6) (oi := { dst := some 8, op := Op.nilCheck (Operand.tmp 7), type := 0, pos := "reader.go:86", after := #[{ on := 5, ground := Ground.data }], guard := none }) (v := ?_) rfl (by kernel_rfl) (by kernel_rfl) (by kernel_rfl) (by kernel_rfl) rfl rfl (by kernel_rfl) (by kernel_rfl) (fun _ _ _ h => h) (Or.inl ⟨by rfl, ?_⟩) (by exact hc0) ?_
      rotate_left
      · intro w hSw; (try dsimp only at hSw); have r0 := hSw; go_simp; try (with_reducible rfl)
      repeat (first | simp only [Act.put] | simp only [List.setIfInBounds_toArray] | simp only [List.set_cons_zero] | simp only [List.set_cons_succ])
      refine wpAnyE_take [7] (i := 7) (oi := { dst := some 9, op := Op.fieldAddr 59 (Operand.tmp 8) 0, type := 0, pos := "reader.go:86", after := #[{ on := 6, ground := Ground.data }], guard := none }) (v := ?_) rfl (by kernel_rfl) (by kernel_rfl) (by kernel_rfl) (by kernel_rfl) rfl rfl (by kernel_rfl) (by kernel_rfl) (fun _ _ _ h => h) (Or.inl ⟨by rfl, ?_⟩) (by exact hc0) ?_
      rotate_left
      · intro w hSw; (try dsimp only at hSw); have r0 := hSw; go_simp; try (with_reducible rfl)
      repeat (first | simp only [Act.put] | simp only [List.setIfInBounds_toArray] | simp only [List.set_cons_zero] | simp only [List.set_cons_succ])
      refine wpAnyE_take [8] (i := 8) (oi := { dst := some 10, op := Op.load 56 (Operand.tmp 9), type := 56, pos := "reader.go:86", after := #[{ on := 7, ground := Ground.data }], guard := none }) (v := ?_) rfl (by kernel_rfl) (by kernel_rfl) (by kernel_rfl) (by kernel_rfl) rfl rfl (by kernel_rfl) (by kernel_rfl) (fun _ _ _ h => h) (Or.inl ⟨by rfl, ?_⟩) (by exact hc0) ?_
      rotate_left
      · intro w hSw; (try dsimp only at hSw); have r0 := hSw; go_simp; try (with_reducible rfl)
      repeat (first | simp only [Act.put] | simp only [List.setIfInBounds_toArray] | simp only [List.set_cons_zero] | simp only [List.set_cons_succ])
      refine wpAnyE_one (i := 9) (o := { dst := some 11, op := Op.call { callee := Callee.value (Operand.func 83), args := #[Operand.tmp 10], argTypes := #[56] }, type := 3, pos := "reader.go:86", after := #[{ on := 8, ground := Ground.data }], guard := none }) (by kernel_rfl) rfl (fun K hK => ?_)
      go_simp
      refine hcn.mono ?_
      rintro e w1 ⟨rfl, hF1, hb1⟩
      have HG1 := Lib.hid (HG0.out.keep hb1 a1 a3)
      have hc1 := HG1.out.cells.1
      refine hK.out _ _ (fun hL => ?_) ?_
      · exact hc1
      clear hK K
      repeat (first | simp only [Act.put] | simp only [List.setIfInBounds_toArray] | simp only [List.set_cons_zero] | simp only [List.set_cons_succ])
      refine wpAnyE_one (i := 10) (o := { dst := some 12, op := Op.call { callee := Callee.value (Operand.func 84), args := #[Operand.tmp 6, Operand.tmp 11], argTypes := #[56, 3] }, type := 22, pos := "reader.go:86", after := #[{ on := 4, ground := Ground.data }, { on := 9, ground := Ground.data }, { on := 9, ground := Ground.chain }], guard := none }) (by kernel_rfl) rfl (fun K hK => ?_)
      go_simp
      refine (hb2 _ hF1).mono ?_
      rintro e w2 ⟨he, hb3⟩
      rw [errPanic] at he
      subst he
      exact ⟨rfl, .inl ⟨rfl, ((Kq.r (But.drewN 1)).trans (Kq.r hb1)).trans (Kq.r hb3), by rw [HN.out]; rfl⟩⟩
    | some y2 =>
      obtain ⟨l, t2⟩ := y2
      have hb2 := fun (w1 : World) (hF1 : Fq w0 w1 B (zs.drop t1) t1 3) => gbytes_yes hF1 hv2
      have HN : Hid (hGive zs t = some (l, t2)) := Lib.hid (by unfold hGive; rw [hv]; simp only [Int.toNat_natCast]; rw [hv2])
      clear g hF hbt hFd hv hv2
      go_enter Tryd.func90, Tryd.ntmps90
      go_wp2_with fail
      refine wp_region_end 14 (fun w' => w'.cell? ⟨R, 0, none⟩ = some (.pointer (some ⟨B, 0, none⟩))) (by kernel_rfl) ?_
      have HG0 : Hid (Hq w.drew R B lo x pv) := Lib.hid ⟨HG.out.box, ⟨HG.out.d.rd, HG.out.d.far⟩, HG.out.pl, HG.out.ord⟩
      have hc0 := HG0.out.cells.1
      refine wpAnyE_take [0] (i := 0) (oi := { dst := some 2, op := Op.move (Operand.tmp 0), type := 88, pos := "reader.go:86", after := #[], guard := none }) (v := ?_) rfl (by kernel_rfl) (by kernel_rfl) (by kernel_rfl) (by kernel_rfl) rfl rfl (by kernel_rfl) (by kernel_rfl) (fun _ _ _ h => h) (Or.inl ⟨by rfl, ?_⟩) (by exact hc0) ?_
      rotate_left
      · intro w hSw; (try dsimp only at hSw); have r0 := hSw; go_simp; try (with_reducible rfl)
      repeat (first | simp only [Act.put] | simp only [List.setIfInBounds_toArray] | simp only [List.set_cons_zero] | simp only [List.set_cons_succ])
      refine wpAnyE_take [1] (i := 1) (oi := { dst := some 3, op := Op.move (Operand.tmp 0), type := 88, pos := "reader.go:86", after := #[], guard := none }) (v := ?_) rfl (by kernel_rfl) (by kernel_rfl) (by kernel_rfl) (by kernel_rfl) rfl rfl (by kernel_rfl) (by kernel_rfl) (fun _ _ _ h => h) (Or.inl ⟨by rfl, ?_⟩) (by exact hc0) ?_
      rotate_left
      · intro w hSw; (try dsimp only at hSw); have r0 := hSw; go_simp; try (with_reducible rfl)
      repeat (first | simp only [Act.put] | simp only [List.setIfInBounds_toArray] | simp only [List.set_cons_zero] | simp only [List.set_cons_succ])
      refine wpAnyE_take [2] (i := 2) (oi := { dst := some 4, op := Op.nilCheck (Operand.tmp 3), type := 0, pos := "reader.go:86", after := #[{ on := 1, ground := Ground.data }], guard := none }) (v := ?_) rfl (by kernel_rfl) (by kernel_rfl) (by kernel_rfl) (by kernel_rfl) rfl rfl (by kernel_rfl) (by kernel_rfl) (fun _ _ _ h => h) (Or.inl ⟨by rfl, ?_⟩) (by exact hc0) ?_
      rotate_left
      · intro w hSw; (try dsimp only at hSw); have r0 := hSw; go_simp; try (with_reducible rfl)
      repeat (first | simp only [Act.put] | simp only [List.setIfInBounds_toArray] | simp only [List.set_cons_zero] | simp only [List.set_cons_succ])
      refine wpAnyE_take [3] (i := 3) (oi := { dst := some 5, op := Op.fieldAddr 59 (Operand.tmp 4) 0, type := 0, pos := "reader.go:86", after := #[{ on := 2, ground := Ground.data }], guard := none }) (v := ?_) rfl (by kernel_rfl) (by kernel_rfl) (by kernel_rfl) (by kernel_rfl) rfl rfl (by kernel_rfl) (by kernel_rfl) (fun _ _ _ h => h) (Or.inl ⟨by rfl, ?_⟩) (by exact hc0) ?_
      rotate_left
      · intro w hSw; (try dsimp only at hSw); have r0 := hSw; go_simp; try (with_reducible rfl)
      repeat (first | simp only [Act.put] | simp only [List.setIfInBounds_toArray] | simp only [List.set_cons_zero] | simp only [List.set_cons_succ])
      refine wpAnyE_take [4] (i := 4) (oi := { dst := some 6, op := Op.load 56 (Operand.tmp 5), type := 56, pos := "reader.go:86", after := #[{ on := 3, ground := Ground.data }], guard := none }) (v := ?_) rfl (by kernel_rfl) (by kernel_rfl) (by kernel_rfl) (by kernel_rfl) rfl rfl (by kernel_rfl) (by kernel_rfl) (fun _ _ _ h => h) (Or.inl ⟨by rfl, ?_⟩) (by exact hc0) ?_
      rotate_left
      · intro w hSw; (try dsimp only at hSw); have r0 := hSw; go_simp; try (with_reducible rfl)
      repeat (first | simp only [Act.put] | simp only [List.setIfInBounds_toArray] | simp only [List.set_cons_zero] | simp only [List.set_cons_succ])
      refine wpAnyE_take [5] (i := 5) (oi := { dst := some 7, op := Op.move (Operand.tmp 0), type := 88, pos := "reader.go:86", after := #[], guard := none }) (v := ?_) rfl (by kernel_rfl) (by kernel_rfl) (by kernel_rfl) (by kernel_rfl) rfl rfl (by kernel_rfl) (by kernel_rfl) (fun _ _ _ h => h) (Or.inl ⟨by rfl, ?_⟩) (by exact hc0) ?_
      rotate_left
      · intro w hSw; (try dsimp only at hSw); have r0 := hSw; go_simp; try (with_reducible rfl)
      repeat (first | simp only [Act.put] | simp only [List.setIfInBounds_toArray] | simp only [List.set_cons_zero] | simp only [List.set_cons_succ])
      refine wpAnyE_take [6] (i := 6) (oi := { dst := some 8, op := Op.nilCheck (Operand.tmp 7), type := 0, pos := "reader.go:86", after := #[{ on := 5, ground := Ground.data }], guard := none }) (v := ?_) rfl (by kernel_rfl) (by kernel_rfl) (by kernel_rfl) (by kernel_rfl) rfl rfl (by kernel_rfl) (by kernel_rfl) (fun _ _ _ h => h) (Or.inl ⟨by rfl, ?_⟩) (by exact hc0) ?_
      rotate_left
      · intro w hSw; (try dsimp only at hSw); have r0 := hSw; go_simp; try (with_reducible rfl)
      repeat (first | simp only [Act.put] | simp only [List.setIfInBounds_toArray] | simp only [List.set_cons_zero] | simp only [List.set_cons_succ])
      refine wpAnyE_take [7] (i := 7) (oi := { dst := some 9, op := Op.fieldAddr 59 (Operand.tmp 8) 0, type := 0, pos := "reader.go:86", after := #[{ on := 6, ground := Ground.data }], guard := none }) (v := ?_) rfl (by kernel_rfl) (by kernel_rfl) (by kernel_rfl) (by kernel_rfl) rfl rfl (by kernel_rfl) (by kernel_rfl) (fun _ _ _ h => h) (Or.inl ⟨by rfl, ?_⟩) (by exact hc0) ?_
      rotate_left
      · intro w hSw; (try dsimp only at hSw); have r0 := hSw; go_simp; try (with_reducible rfl)
      repeat (first | simp only [Act.put] | simp only [List.setIfInBounds_toArray] | simp only [List.set_cons_zero] | simp only [List.set_cons_succ])
      refine wpAnyE_take [8] (i := 8) (oi := { dst := some 10, op := Op.load 56 (Operand.tmp 9), type := 56, pos := "reader.go:86", after := #[{ on := 7, ground := Ground.data }], guard := none }) (v := ?_) rfl (by kernel_rfl) (by kernel_rfl) (by kernel_rfl) (by kernel_rfl) rfl rfl (by kernel_rfl) (by kernel_rfl) (fun _ _ _ h => h) (Or.inl ⟨by rfl, ?_⟩) (by exact hc0) ?_
      rotate_left
      · intro w hSw; (try dsimp only at hSw); have r0 := hSw; go_simp; try (with_reducible rfl)
      repeat (first | simp only [Act.put] | simp only [List.setIfInBounds_toArray] | simp only [List.set_cons_zero] | simp only [List.set_cons_succ])
      refine wpAnyE_one (i := 9) (o := { dst := some 11, op := Op.call { callee := Callee.value (Operand.func 83), args := #[Operand.tmp 10], argTypes := #[56] }, type := 3, pos := "reader.go:86", after := #[{ on := 8, ground := Ground.data }], guard := none }) (by kernel_rfl) rfl (fun K hK => ?_)
      go_simp
      refine hcn.mono ?_
      rintro e w1 ⟨rfl, hF1, hb1⟩
      have HG1 := Lib.hid (HG0.out.keep hb1 a1 a3)
      have hc1 := HG1.out.cells.1
      refine hK.out _ _ (fun hL => ?_) ?_
      · exact hc1
      clear hK K
      repeat (first | simp only [Act.put] | simp only [List.setIfInBounds_toArray] | simp only [List.set_cons_zero] | simp only [List.set_cons_succ])
      refine wpAnyE_one (i := 10) (o := { dst := some 12, op := Op.call { callee := Callee.value (Operand.func 84), args := #[Operand.tmp 6, Operand.tmp 11], argTypes := #[56, 3] }, type := 22, pos := "reader.go:86", after := #[{ on := 4, ground := Ground.data }, { on := 9, ground := Ground.data }, { on := 9, ground := Ground.chain }], guard := none }) (by kernel_rfl) rfl (fun K hK => ?_)
      go_simp
      refine (hb2 _ hF1).mono ?_
      rintro e w2 ⟨v2, rfl, ⟨hv2, hp2⟩, hF2, hb3⟩
      have HG2 := Lib.hid (HG1.out.keep hb3 a1 a3)
      have hra : Ra lo w2 v2 l := hv2.mono (by have := hb1.size; simp at this; omega)
      have hc2 := HG2.out.cells.1
      obtain ⟨av, cv, rfl⟩ := hv2.rd.shape
      have HRA := Lib.hid (And.intro hra hp2)
      clear hv2 hp2 hra
      refine hK.out _ _ (fun hL => ?_) ?_
      · exact hc2
      clear hK K
      repeat (first | simp only [Act.put] | simp only [List.setIfInBounds_toArray] | simp only [List.set_cons_zero] | simp only [List.set_cons_succ])
      refine wpAnyE_take [13, 12, 11] (i := 11) (oi := { dst := some 13, op := Op.nilCheck (Operand.tmp 2), type := 0, pos := "reader.go:86", after := #[{ on := 0, ground := Ground.data }, { on := 0, ground := Ground.phase }, { on := 1, ground := Ground.phase }, { on := 2, ground := Ground.phase }, { on := 3, ground := Ground.phase }, { on := 4, ground := Ground.phase }, { on := 5, ground := Ground.phase }, { on := 6, ground := Ground.phase }, { on := 7, ground := Ground.phase }, { on := 8, ground := Ground.phase }, { on := 9, ground := Ground.phase }, { on := 10, ground := Ground.phase }], guard := none }) (v := ?_) rfl (by kernel_rfl) (by kernel_rfl) (by kernel_rfl) (by kernel_rfl) rfl rfl (by kernel_rfl) (by kernel_rfl) (fun _ _ _ h => h) (Or.inl ⟨by rfl, ?_⟩) (by exact hc2) ?_
      rotate_left
      · intro w hSw; (try dsimp only at hSw); have r0 := hSw; go_simp; try (with_reducible rfl)
      repeat (first | simp only [Act.put] | simp only [List.setIfInBounds_toArray] | simp only [List.set_cons_zero] | simp only [List.set_cons_succ])
      refine wpAnyE_take [13, 12] (i := 12) (oi := { dst := some 14, op := Op.fieldAddr 59 (Operand.tmp 13) 1, type := 0, pos := "reader.go:86", after := #[{ on := 11, ground := Ground.data }, { on := 0, ground := Ground.phase }, { on := 1, ground := Ground.phase }, { on := 2, ground := Ground.phase }, { on := 3, ground := Ground.phase }, { on := 4, ground := Ground.phase }, { on := 5, ground := Ground.phase }, { on := 6, ground := Ground.phase }, { on := 7, ground := Ground.phase }, { on := 8, ground := Ground.phase }, { on := 9, ground := Ground.phase }, { on := 10, ground := Ground.phase }], guard := none }) (v := ?_) rfl (by kernel_rfl) (by kernel_rfl) (by kernel_rfl) (by kernel_rfl) rfl rfl (by kernel_rfl) (by kernel_rfl) (fun _ _ _ h => h) (Or.inl ⟨by rfl, ?_⟩) (by exact hc2) ?_
      rotate_left
      · intro w hSw; (try dsimp only at hSw); have r0 := hSw; go_simp; try (with_reducible rfl)
      repeat (first | simp only [Act.put] | simp only [List.setIfInBounds_toArray] | simp only [List.set_cons_zero] | simp only [List.set_cons_succ])
      refine wpAnyE_take [13] (i := 13) (oi := { dst := some 15, op := Op.fieldAddr 28 (Operand.tmp 14) 6, type := 0, pos := "reader.go:86", after := #[{ on := 12, ground := Ground.data }, { on := 0, ground := Ground.phase }, { on := 1, ground := Ground.phase }, { on := 2, ground := Ground.phase }, { on := 3, ground := Ground.phase }, { on := 4, ground := Ground.phase }, { on := 5, ground := Ground.phase }, { on := 6, ground := Ground.phase }, { on := 7, ground := Ground.phase }, { on := 8, ground := Ground.phase }, { on := 9, ground := Ground.phase }, { on := 10, ground := Ground.phase }], guard := none }) (v := ?_) rfl (by kernel_rfl) (by kernel_rfl) (by kernel_rfl) (by kernel_rfl) rfl rfl (by kernel_rfl) (by kernel_rfl) (fun _ _ _ h => h) (Or.inl ⟨by rfl, ?_⟩) (by exact hc2) ?_
      rotate_left
      · intro w hSw; (try dsimp only at hSw); have r0 := hSw; go_simp; try (with_reducible rfl)
      repeat (first | simp only [Act.put] | simp only [List.setIfInBounds_toArray] | simp only [List.set_cons_zero] | simp only [List.set_cons_succ])
      refine wpAnyE_one (i := 14) (o := { dst := none, op := Op.store 22 (Operand.tmp 15) (Operand.tmp 12), type := 0, pos := "reader.go:86", after := #[{ on := 13, ground := Ground.data }, { on := 10, ground := Ground.data }, { on := 10, ground := Ground.chain }, { on := 0, ground := Ground.phase }, { on := 1, ground := Ground.phase }, { on := 2, ground := Ground.phase }, { on := 3, ground := Ground.phase }, { on := 4, ground := Ground.phase }, { on := 5, ground := Ground.phase }, { on := 6, ground := Ground.phase }, { on := 7, ground := Ground.phase }, { on := 8, ground := Ground.phase }, { on := 9, ground := Ground.phase }, { on := 10, ground := Ground.phase }], guard := none }) (by kernel_rfl) rfl (fun K hK => ?_)
      obtain ⟨c0, ⟨c1, c2, c3, c4, c5, c6, c7, c8, c9, c10⟩, cf⟩ := HG2.out.cells
      go_simp
      refine hK.out _ _ (fun hL => absurd hL (by decide)) ?_
      clear hK K
      repeat (first | simp only [Act.put] | simp only [List.setIfInBounds_toArray] | simp only [List.set_cons_zero] | simp only [List.set_cons_succ])
      refine wpAnyE_done (by kernel_rfl) ?_ _
      go_wp2_with fail
      go_end0
      exact .inr ⟨_, _, _, rfl, by rw [HN.out]; rfl, HG2.out.setp HRA.out.1 HRA.out.2, fq_set hF2 hRR a2, (((Kq.r (But.drewN 1)).trans (Kq.r hb1)).trans (Kq.r hb3)).trans (Kq.l (But.set _ R _ _))⟩
set_option maxRecDepth 20000 in
set_option maxHeartbeats 2000000 in
theorem hname_m {zs : List Int} {t : Nat} {w0 w : World} {R B lo : Nat} {x : Hm} {pv : Value} (g : Hq w R B lo x pv) (hF : Fq w0 w B (zs.drop t) t 3) (hbt : Byt zs) (hlo : w0.heap.size ≤ B) :
    Calls Tryd.prog 78 #[.pointer (some ⟨R, 0, none⟩)] w (Hdo zs w0 w R B lo (some ({ x with n := zs.drop t }, max t zs.length))) := by
  have HG := Lib.hid g
  have HBT := Lib.hid hbt
  obtain ⟨a1, a2, a3⟩ := g.ap
  have hRR : w0.heap.size ≤ R := by obtain ⟨o1, _, _⟩ := g.ord; omega
  have hFd : Fq w0 w.drew B (zs.drop t) t 3 := hF.but (R := R) (But.drewN 1) hRR a2
  have hleft := left_q hFd
  have hg : gBytes zs (zs.drop t).length t = some (zs.drop t, t + (zs.drop t).length) := by unfold gBytes; rw [if_neg (by omega), List.take_of_length_le (Nat.le_refl _)]
  have hb2 := fun (w1 : World) (hF1 : Fq w0 w1 B (zs.drop t) t 3) => gbytes_yes hF1 hg
  have hmx : t + (zs.drop t).length = max t zs.length := by simp; omega
  rw [hmx] at hb2
  simp only [List.length_drop] at hb2
  clear g hF hbt hg hmx
  go_enter Tryd.func78, Tryd.ntmps78
  go_wp2_with fail
  refine wp_region_end 15 (fun w' => w'.cell? ⟨R, 0, none⟩ = some (.pointer (some ⟨B, 0, none⟩))) (by kernel_rfl) ?_
  have HG0 : Hid (Hq w.drew R B lo x pv) := Lib.hid ⟨HG.out.box, ⟨HG.out.d.rd, HG.out.d.far⟩, HG.out.pl, HG.out.ord⟩
  have hc0 := HG0.out.cells.1
  refine wpAnyE_take [0] (i := 0) (oi := { dst := some 2, op := Op.move (Operand.tmp 0), type := 88, pos := "reader.go:74", after := #[], guard := none }) (v := ?_) rfl (by kernel_rfl) (by kernel_rfl) (by kernel_rfl) (by kernel_rfl) rfl rfl (by kernel_rfl) (by kernel_rfl) (fun _ _ _ h => h) (Or.inl ⟨by rfl, ?_⟩) (by exact hc0) ?_
  rotate_left
  · intro w hSw; (try dsimp only at hSw); have r0 := hSw; go_simp; try (with_reducible rfl)
  repeat (first | simp only [Act.put] | simp only [List.setIfInBounds_toArray] | simp only [List.set_cons_zero] | simp only [List.set_cons_succ])
  refine wpAnyE_take [1] (i := 1) (oi := { dst := some 3, op := Op.move (Operand.tmp 0), type := 88, pos := "reader.go:74", after := #[], guard := none }) (v := ?_) rfl (by kernel_rfl) (by kernel_rfl) (by kernel_rfl) (by kernel_rfl) rfl rfl (by kernel_rfl) (by kernel_rfl) (fun _ _ _ h => h) (Or.inl ⟨by rfl, ?_⟩) (by exact hc0) ?_
  rotate_left
  · intro w hSw; (try dsimp only at hSw); have r0 := hSw; go_simp; try (with_reducible rfl)
  repeat (first | simp only [Act.put] | simp only [List.setIfInBounds_toArray] | simp only [List.set_cons_zero] | simp only [List.set_cons_succ])
  refine wpAnyE_take [2] (i := 2) (oi := { dst := some 4, op := Op.nilCheck (Operand.tmp 3), type := 0, pos := "reader.go:74", after := #[{ on := 1, ground := Ground.data }], guard := none }) (v := ?_) rfl (by kernel_rfl) (by kernel_rfl) (by kernel_rfl) (by kernel_rfl) rfl rfl (by kernel_rfl) (by kernel_rfl) (fun _ _ _ h => h) (Or.inl ⟨by rfl, ?_⟩) (by exact hc0) ?_
  rotate_left
  · intro w hSw; (try dsimp only at hSw); have r0 := hSw; go_simp; try (with_reducible rfl)
  repeat (first | simp only [Act.put] | simp only [List.setIfInBounds_toArray] | simp only [List.set_cons_zero] | simp only [List.set_cons_succ])
  refine wpAnyE_take [3] (i := 3) (oi := { dst := some 5, op := Op.fieldAddr 59 (Operand.tmp 4) 0, type := 0, pos := "reader.go:74", after := #[{ on := 2, ground := Ground.data }], guard := none }) (v := ?_) rfl (by kernel_rfl) (by kernel_rfl) (by kernel_rfl) (by kernel_rfl) rfl rfl (by kernel_rfl) (by kernel_rfl) (fun _ _ _ h => h) (Or.inl ⟨by rfl, ?_⟩) (by exact hc0) ?_
  rotate_left
  · intro w hSw; (try dsimp only at hSw); have r0 := hSw; go_simp; try (with_reducible rfl)
  repeat (first | simp only [Act.put] | simp only [List.setIfInBounds_toArray] | simp only [List.set_cons_zero] | simp only [List.set_cons_succ])
  refine wpAnyE_take [4] (i := 4) (oi := { dst := some 6, op := Op.load 56 (Operand.tmp 5), type := 56, pos := "reader.go:74", after := #[{ on := 3, ground := Ground.data }], guard := none }) (v := ?_) rfl (by kernel_rfl) (by kernel_rfl) (by kernel_rfl) (by kernel_rfl) rfl rfl (by kernel_rfl) (by kernel_rfl) (fun _ _ _ h => h) (Or.inl ⟨by rfl, ?_⟩) (by exact hc0) ?_
  rotate_left
  · intro w hSw; (try dsimp only at hSw); have r0 := hSw; go_simp; try (with_reducible rfl)
  repeat (first | simp only [Act.put] | simp only [List.setIfInBounds_toArray] | simp only [List.set_cons_zero] | simp only [List.set_cons_succ])
  refine wpAnyE_take [5] (i := 5) (oi := { dst := some 7, op := Op.move (Operand.tmp 0), type := 88, pos := "reader.go:74", after := #[], guard := none }) (v := ?_) rfl (by kernel_rfl) (by kernel_rfl) (by kernel_rfl) (by kernel_rfl) rfl rfl (by kernel_rfl) (by kernel_rfl) (fun _ _ _ h => h) (Or.inl ⟨by rfl, ?_⟩) (by exact hc0) ?_
  rotate_left
  · intro w hSw; (try dsimp only at hSw); have r0 := hSw; go_simp; try (with_reducible rfl)
  repeat (first | simp only [Act.put] | simp only [List.setIfInBounds_toArray] | simp only [List.set_cons_zero] | simp only [List.set_cons_succ])
  refine wpAnyE_take [6] (i := 6) (oi := { dst := some 8, op := Op.nilCheck (Operand.tmp 7), type := 0, pos := "reader.go:74", after := #[{ on := 5, ground := Ground.data }], guard := none }) (v := ?_) rfl (by kernel_rfl) (by kernel_rfl) (by kernel_rfl) (by kernel_rfl) rfl rfl (by kernel_rfl) (by kernel_rfl) (fun _ _ _ h => h) (Or.inl ⟨by rfl, ?_⟩) (by exact hc0) ?_
  rotate_left
  · intro w hSw; (try dsimp only at hSw); have r0 := hSw; go_simp; try (with_reducible rfl)
  repeat (first | simp only [Act.put] | simp only [List.setIfInBounds_toArray] | simp only [List.set_cons_zero] | simp only [List.set_cons_succ])
  refine wpAnyE_take [7] (i := 7) (oi := { dst := some 9, op := Op.fieldAddr 59 (Operand.tmp 8) 0, type := 0, pos := "reader.go:74", after := #[{ on := 6, ground := Ground.data }], guard := none }) (v := ?_) rfl (by kernel_rfl) (by kernel_rfl) (by kernel_rfl) (by kernel_rfl) rfl rfl (by kernel_rfl) (by kernel_rfl) (fun _ _ _ h => h) (Or.inl ⟨by rfl, ?_⟩) (by exact hc0) ?_
  rotate_left
  · intro w hSw; (try dsimp only at hSw); have r0 := hSw; go_simp; try (with_reducible rfl)
  repeat (first | simp only [Act.put] | simp only [List.setIfInBounds_toArray] | simp only [List.set_cons_zero] | simp only [List.set_cons_succ])
  refine wpAnyE_take [8] (i := 8) (oi := { dst := some 10, op := Op.load 56 (Operand.tmp 9), type := 56, pos := "reader.go:74", after := #[{ on := 7, ground := Ground.data }], guard := none }) (v := ?_) rfl (by kernel_rfl) (by kernel_rfl) (by kernel_rfl) (by kernel_rfl) rfl rfl (by kernel_rfl) (by kernel_rfl) (fun _ _ _ h => h) (Or.inl ⟨by rfl, ?_⟩) (by exact hc0) ?_
  rotate_left
  · intro w hSw; (try dsimp only at hSw); have r0 := hSw; go_simp; try (with_reducible rfl)
  repeat (first | simp only [Act.put] | simp only [List.setIfInBounds_toArray] | simp only [List.set_cons_zero] | simp only [List.set_cons_succ])
  refine wpAnyE_one (i := 9) (o := { dst := some 11, op := Op.call { callee := Callee.value (Operand.func 62), args := #[Operand.tmp 10], argTypes := #[56] }, type := 3, pos := "reader.go:74", after := #[{ on := 8, ground := Ground.data }], guard := none }) (by kernel_rfl) rfl (fun K hK => ?_)
  go_simp
  refine hleft.mono ?_
  rintro e w1 ⟨rfl, rfl⟩
  refine hK.out _ _ (fun hL => ?_) ?_
  · exact hc0
  clear hK K
  repeat (first | simp only [Act.put] | simp only [List.setIfInBounds_toArray] | simp only [List.set_cons_zero] | simp only [List.set_cons_succ])
  refine wpAnyE_one (i := 10) (o := { dst := some 12, op := Op.call { callee := Callee.value (Operand.func 84), args := #[Operand.tmp 6, Operand.tmp 11], argTypes := #[56, 3] }, type := 22, pos := "reader.go:74", after := #[{ on := 4, ground := Ground.data }, { on := 9, ground := Ground.data }, { on := 9, ground := Ground.chain }], guard := none }) (by kernel_rfl) rfl (fun K hK => ?_)
  go_simp
  refine (hb2 _ hFd).mono ?_
  rintro e w2 ⟨v2, rfl, ⟨hv2, hp2⟩, hF2, hb3⟩
  have HG2 := Lib.hid (HG0.out.keep hb3 a1 a3)
  have hcv := conv_any hv2.rd
  have hc2 := HG2.out.cells.1
  obtain ⟨av, cv, rfl⟩ := hv2.rd.shape
  simp only [List.length_drop] at hcv
  clear hv2 hp2
  refine hK.out _ _ (fun hL => ?_) ?_
  · exact hc2
  clear hK K
  repeat (first | simp only [Act.put] | simp only [List.setIfInBounds_toArray] | simp only [List.set_cons_zero] | simp only [List.set_cons_succ])
  refine wpAnyE_one (i := 11) (o := { dst := some 13, op := Op.convert 22 9 (Operand.tmp 12), type := 9, pos := "reader.go:74", after := #[{ on := 10, ground := Ground.data }], guard := none }) (by kernel_rfl) rfl (fun K hK => ?_)
  go_simp
  refine hK.out _ _ (fun hL => ?_) ?_
  · exact hc2
  clear hK K
  repeat (first | simp only [Act.put] | simp only [List.setIfInBounds_toArray] | simp only [List.set_cons_zero] | simp only [List.set_cons_succ])
  refine wpAnyE_take [14, 13, 12] (i := 12) (oi := { dst := some 14, op := Op.nilCheck (Operand.tmp 2), type := 0, pos := "reader.go:74", after := #[{ on := 0, ground := Ground.data }, { on := 0, ground := Ground.phase }, { on := 1, ground := Ground.phase }, { on := 2, ground := Ground.phase }, { on := 3, ground := Ground.phase }, { on := 4, ground := Ground.phase }, { on := 5, ground := Ground.phase }, { on := 6, ground := Ground.phase }, { on := 7, ground := Ground.phase }, { on := 8, ground := Ground.phase }, { on := 9, ground := Ground.phase }, { on := 10, ground := Ground.phase }, { on := 11, ground := Ground.phase }], guard := none }) (v := ?_) rfl (by kernel_rfl) (by kernel_rfl) (by kernel_rfl) (by kernel_rfl) rfl rfl (by kernel_rfl) (by kernel_rfl) (fun _ _ _ h => h) (Or.inl ⟨by rfl, ?_⟩) (by exact hc2) ?_
  rotate_left
  · intro w hSw; (try dsimp only at hSw); have r0 := hSw; go_simp; try (with_reducible rfl)
  repeat (first | simp only [Act.put] | simp only [List.setIfInBounds_toArray] | simp only [List.set_cons_zero] | simp only [List.set_cons_succ])
  refine wpAnyE_take [14, 13] (i := 13) (oi := { dst := some 15, op := Op.fieldAddr 59 (Operand.tmp 14) 1, type := 0, pos := "reader.go:74", after := #[{ on := 12, ground := Ground.data }, { on := 0, ground := Ground.phase }, { on := 1, ground := Ground.phase }, { on := 2, ground := Ground.phase }, { on := 3, ground := Ground.phase }, { on := 4, ground := Ground.phase }, { on := 5, ground := Ground.phase }, { on := 6, ground := Ground.phase }, { on := 7, ground := Ground.phase }, { on := 8, ground := Ground.phase }, { on := 9, ground := Ground.phase }, { on := 10, ground := Ground.phase }, { on := 11, ground := Ground.phase }], guard := none }) (v := ?_) rfl (by kernel_rfl) (by kernel_rfl) (by kernel_rfl) (by kernel_rfl) rfl rfl (by kernel_rfl) (by kernel_rfl) (fun _ _ _ h => h) (Or.inl ⟨by rfl, ?_⟩) (by exact hc2) ?_
  rotate_left
  · intro w hSw; (try dsimp only at hSw); have r0 := hSw; go_simp; try (with_reducible rfl)
  repeat (first | simp only [Act.put] | simp only [List.setIfInBounds_toArray] | simp only [List.set_cons_zero] | simp only [List.set_cons_succ])
  refine wpAnyE_take [14] (i := 14) (oi := { dst := some 16, op := Op.fieldAddr 28 (Operand.tmp 15) 7, type := 0, pos := "reader.go:74", after := #[{ on := 13, ground := Ground.data }, { on := 0, ground := Ground.phase }, { on := 1, ground := Ground.phase }, { on := 2, ground := Ground.phase }, { on := 3, ground := Ground.phase }, { on := 4, ground := Ground.phase }, { on := 5, ground := Ground.phase }, { on := 6, ground := Ground.phase }, { on := 7, ground := Ground.phase }, { on := 8, ground := Ground.phase }, { on := 9, ground := Ground.phase }, { on := 10, ground := Ground.phase }, { on := 11, ground := Ground.phase }], guard := none }) (v := ?_) rfl (by kernel_rfl) (by kernel_rfl) (by kernel_rfl) (by kernel_rfl) rfl rfl (by kernel_rfl) (by kernel_rfl) (fun _ _ _ h => h) (Or.inl ⟨by rfl, ?_⟩) (by exact hc2) ?_
  rotate_left
  · intro w hSw; (try dsimp only at hSw); have r0 := hSw; go_simp; try (with_reducible rfl)
  repeat (first | simp only [Act.put] | simp only [List.setIfInBounds_toArray] | simp only [List.set_cons_zero] | simp only [List.set_cons_succ])
  refine wpAnyE_one (i := 15) (o := { dst := none, op := Op.store 9 (Operand.tmp 16) (Operand.tmp 13), type := 0, pos := "reader.go:74", after := #[{ on := 14, ground := Ground.data }, { on := 11, ground := Ground.data }, { on := 10, ground := Ground.chain }, { on := 0, ground := Ground.phase }, { on := 1, ground := Ground.phase }, { on := 2, ground := Ground.phase }, { on := 3, ground := Ground.phase }, { on := 4, ground := Ground.phase }, { on := 5, ground := Ground.phase }, { on := 6, ground := Ground.phase }, { on := 7, ground := Ground.phase }, { on := 8, ground := Ground.phase }, { on := 9, ground := Ground.phase }, { on := 10, ground := Ground.phase }, { on := 11, ground := Ground.phase }], guard := none }) (by kernel_rfl) rfl (fun K hK => ?_)
  obtain ⟨c0, ⟨c1, c2, c3, c4, c5, c6, c7, c8, c9, c10⟩, cf⟩ := HG2.out.cells
  go_simp
  refine hK.out _ _ (fun hL => absurd hL (by decide)) ?_
  clear hK K
  repeat (first | simp only [Act.put] | simp only [List.setIfInBounds_toArray] | simp only [List.set_cons_zero] | simp only [List.set_cons_succ])
  refine wpAnyE_done (by kernel_rfl) ?_ _
  go_wp2_with fail
  go_end0
  exact .inr ⟨_, _, _, rfl, rfl, HG2.out.setn (zs.drop t), fq_set hF2 hRR a2, ((Kq.r (But.drewN 1)).trans (Kq.r hb3)).trans (Kq.l (But.set _ R _ _))⟩
#print axioms hshares_m
#print axioms hparams_m
#print axioms hname_m
end Go.Proofs.YtefcjggmlhoebaaDoor
