/- ParamsBack: what is written is read as it was: the walk. -/
import Derived.Test.YtmglhlfjddgllaaDoorPAgain
import Derived.Test.YtmglhlfjddgllaaDoorPTold
import Derived.Test.YtmglhlfjddgllaaDoorPOf
namespace Go.Proofs.YtmglhlfjddgllaaDoor
open Go Go.RowKit

theorem psameB_self (a : Pv) : psameB a a = true := by simp [psameB]
theorem light_len {p : Pv} (h : plightB p = true) : p.g.length ≤ 50 ∧ p.o.length ≤ 50 ∧ p.r.length ≤ 50 ∧ p.l.length ≤ 30 := by
  unfold plightB at h
  simp only [Bool.and_eq_true, decide_eq_true_eq] at h
  exact ⟨h.1.1.1, h.1.1.2, h.1.2, h.2⟩
theorem wr_len (p : Pv) (h : rightP p = false) : wrP p = [] := by unfold wrP; rw [h]; rfl
theorem enc_len8 (n : Int) : (enc n).length ≤ 8 := by have := enc_len n; omega
theorem bytes_len {p : Pv} (h : rightP p = true) : (bytesP p).length ≤ 500 ∧ 0 < (bytesP p).length := by
  unfold rightP at h
  simp only [Bool.and_eq_true] at h
  obtain ⟨_, _, hg, ho, hr, _, hl⟩ := h
  have h1 := name_len hg
  have h2 := name_len ho
  have h3 := name_len hr
  have hll : p.l.length ≤ 16 := by
    unfold versB at hl
    simp only [decide_eq_true_eq] at hl
    exact hl.1
  have hv := vers_len p.c p.l
  have f0 := field_len 0 p.g
  have f15 := field_len 15 p.o
  have f16 := field_len 16 p.r
  have f1 := field_len 1 (enc p.i)
  have f4 := field_len 4 (enc p.d)
  have f17 := field_len 17 (versP p.c p.l)
  have e1 := enc_len8 p.i
  have e4 := enc_len8 p.d
  have q17 : (versP p.c p.l).length ≤ (fieldB 17 (versP p.c p.l)).length := by unfold fieldB; rw [List.length_append]; omega
  have hif : ∀ (b : Bool) (l : List Int) (k : Nat), l.length ≤ k → (if b then l else []).length ≤ k := by
    intro b l k hk
    cases b
    · exact Nat.zero_le _
    · exact hk
  have i0 := hif p.hg _ _ f0
  have i15 := hif p.ho _ _ f15
  have i16 := hif p.hr _ _ f16
  unfold bytesP
  simp only [List.length_append]
  refine ⟨?_, ?_⟩ <;> omega
theorem resP_write {p : Pv} (h : rightP p = true) : resP (wrP p) = (p, 0) ∧ 0 < (wrP p).length ∧ (wrP p).length ≤ 500 := by
  have hw : wrP p = bytesP p := by unfold wrP; rw [if_pos h]
  have hl := bytes_len h
  refine ⟨?_, by rw [hw]; exact hl.2, by rw [hw]; exact hl.1⟩
  unfold resP
  rw [if_neg (by rw [hw]; omega), read_write h]
theorem Tb.drew' {w0 : World} {A B : Nat} {ca cb : Array Value} {w : World} (h : Tb w0 A B ca cb w) : Tb w0 A B ca cb w.drew := ⟨h.bel.drew, h.ba, h.bb⟩
theorem own_plain5 {w : World} {base : Nat} {v : Value} {n : Nat} {xs : List Value} (h : w.ownsRow base 5 1 v n xs) : Plain v := by
  rcases h.2 with ⟨rfl, _⟩ | ⟨g, cap, cur, rfl, _⟩
  · exact Or.inl rfl
  · exact Or.inr ⟨_, _, _, _, rfl⟩
set_option maxRecDepth 20000 in
set_option maxHeartbeats 8000000 in
theorem pback_walk {w : World} {p : Pv} {v5 v6 v7 v9 : Value} (h : Pr w p v5 v6 v7 v9) (ht : Tab w) (hw : 1 < w.heap.size) :
    Calls Tryd.prog 5 #[pAgg p v5 v6 v7 v9] w fun e w' => e = .returned (.bool true) ∧ Below w.heap.size w w' := by
  obtain ⟨a5, k5, rfl⟩ := h.g.shape
  obtain ⟨a6, k6, rfl⟩ := h.o.shape
  obtain ⟨a7, k7, rfl⟩ := h.r.shape
  obtain ⟨a9, k9, rfl⟩ := h.l.shape
  have hB0 := below_alloc w (.cells (pCells p (.slice a5 p.g.length k5) (.slice a6 p.o.length k6) (.slice a7 p.r.length k7) (.slice a9 p.l.length k9)) 25)
  have hX0 := heap_alloc_new w (.cells (pCells p (.slice a5 p.g.length k5) (.slice a6 p.o.length k6) (.slice a7 p.r.length k7) (.slice a9 p.l.length k9)) 25)
  have hL := plight_any (w.alloc (.cells (pCells p (.slice a5 p.g.length k5) (.slice a6 p.o.length k6) (.slice a7 p.r.length k7) (.slice a9 p.l.length k9)) 25)) p a5 k5 a6 k6 a7 k7 a9 k9 h.g.len h.o.len h.r.len h.l.len
  have HB0 := Lib.hid hB0
  have HX0 := Lib.hid hX0
  have HP := Lib.hid h
  have HT := Lib.hid ht
  have HWW := Lib.hid hw
  cases hlt : plightB p with
  | false =>
    rw [hlt] at hL
    clear h ht hw hB0 hX0 hlt
    go_enter Tryd.func5, Tryd.ntmps5
    go_wp2_with (go_at_call 8; refine hL.mono ?_; rintro e w1 ⟨rfl, hb1⟩)
    go_ret
    exact ⟨rfl, HB0.out.trans (hb1.mono HB0.out.size)⟩
  | true =>
    rw [hlt] at hL
    have HLL := Lib.hid (light_len hlt)
    clear h ht hw hB0 hX0 hlt
    go_enter Tryd.func5, Tryd.ntmps5
    go_wp2_with (first
      | (go_at_call 8; refine hL.mono ?_; rintro e w1 ⟨rfl, hb1⟩; have B1 := HB0.out.trans (hb1.mono HB0.out.size); have hx1 := (hb1.block w.heap.size (by simp)).trans HX0.out; have q1 := pcells hx1)
      | (go_at_call 9; refine (of_any (HP.out.below B1) (by have := HLL.out; omega) (by have := HLL.out; omega) (by have := HLL.out; omega) (by have := HLL.out; omega)).mono ?_; rintro e w2 ⟨u5, u6, u7, u9, rfl, hu, hb2⟩; obtain ⟨b5, m5, rfl⟩ := hu.g.shape; obtain ⟨b6, m6, rfl⟩ := hu.o.shape; obtain ⟨b7, m7, rfl⟩ := hu.r.shape; obtain ⟨b9, m9, rfl⟩ := hu.l.shape; have B2 := B1.trans (hb2.mono B1.size); have hwr := write_any hu (HT.out.below B2) (by have := HWW.out; have := B2.size; omega); unfold pAgg at hwr; have hx2 := (hb2.block w.heap.size (by have := hb1.size; simp at this; omega)).trans hx1))
    clear q1 hL hx1
    cases hr : rightP p with
    | false =>
      rw [wr_len p hr] at hwr
      clear hr
      go_wp2_with (first
        | (go_at_call 10; refine hwr.mono ?_; rintro e w3 ⟨v3, rfl, o3, _, b3⟩; obtain ⟨a3, c3, rfl⟩ := own_shape o3; have B3 := B2.trans (b3.mono B2.size))
        | (go_at_call 13; refine (pawake_any _ (HT.out.below B3) (by have := B3.size; have := HWW.out; omega)).mono ?_; rintro e y9 ⟨rfl, b9'⟩))
      go_ret
      exact ⟨rfl, B3.trans (b9'.mono B3.size)⟩
    | true =>
      obtain ⟨hres, hpos, hle⟩ := resP_write hr
      have HRES := Lib.hid hres
      generalize wrP p = zb at *
      clear hr hres
      go_wp2_with (first
        | (go_at_call 10; refine hwr.mono ?_; rintro e w3 ⟨v3, rfl, o3, hz3, b3⟩; have hp3 := own_plain5 o3; have hr3 := (Rd.of_own o3 hz3).1; obtain ⟨a3, c3, rfl⟩ := own_shape o3; have B3 := B2.trans (b3.mono B2.size); have hrd := pread_any hr3 hp3 (by omega); unfold RPost at hrd; rw [HRES.out] at hrd; dsimp only at hrd; have hx3 := (b3.block w.heap.size (by have := B2.size; have := hb1.size; have := hb2.size; simp at *; omega)).trans hx2)
        | (go_at_call 16; refine hrd.mono ?_; rintro e w4 ⟨y5, y6, y7, y9, rfl, hy, b4⟩; obtain ⟨c5, n5, rfl⟩ := hy.g.shape; obtain ⟨c6, n6, rfl⟩ := hy.o.shape; obtain ⟨c7, n7, rfl⟩ := hy.r.shape; obtain ⟨c9, n9, rfl⟩ := hy.l.shape; unfold pAgg))
      have B4 := B3.trans (b4.mono B3.size)
      have hx4 := (b4.block w.heap.size (by have := B3.size; have := hb1.size; have := hb2.size; have := b3.size; simp at *; omega)).trans hx3
      have hY := below_alloc w4 (.cells (pCells p (.slice c5 p.g.length n5) (.slice c6 p.o.length n6) (.slice c7 p.r.length n7) (.slice c9 p.l.length n9)) 27)
      have hYx := heap_alloc_new w4 (.cells (pCells p (.slice c5 p.g.length n5) (.slice c6 p.o.length n6) (.slice c7 p.r.length n7) (.slice c9 p.l.length n9)) 27)
      have hx5 := (hY.block w.heap.size (by have := (Array.getElem?_eq_some_iff.1 hx4).1; omega)).trans hx4
      have hTb : Tb (w4.alloc (.cells (pCells p (.slice c5 p.g.length n5) (.slice c6 p.o.length n6) (.slice c7 p.r.length n7) (.slice c9 p.l.length n9)) 27)) w4.heap.size w.heap.size (pCells p (.slice c5 p.g.length n5) (.slice c6 p.o.length n6) (.slice c7 p.r.length n7) (.slice c9 p.l.length n9)) (pCells p (.slice a5 p.g.length k5) (.slice a6 p.o.length k6) (.slice a7 p.r.length k7) (.slice a9 p.l.length k9)) (w4.alloc (.cells (pCells p (.slice c5 p.g.length n5) (.slice c6 p.o.length n6) (.slice c7 p.r.length n7) (.slice c9 p.l.length n9)) 27)) := ⟨Below.refl _ _, hYx, hx5⟩
      have HY := Lib.hid (hy.below hY)
      have HB5 := Lib.hid (B4.trans (hY.mono B4.size))
      clear hwr hrd hy hx2 hx3 hx4 hx5 hY hYx hb1 hb2 b3 b4 B1 B2 B3 B4 o3 hz3 hp3 hr3 hu
      dsimp only [pCells] at hTb HY HB5
      generalize w4.alloc (.cells #[.int .i64 p.i, .int .i64 p.d, .bool p.hg, .bool p.ho, .bool p.hr, .slice c5 p.g.length n5, .slice c6 p.o.length n6, .slice c7 p.r.length n7, .int .i64 p.c, .slice c9 p.l.length n9] 27) = W5 at *
      generalize w4.heap.size = X at *
      refine wp_region_held_drew (S := fun w' : World => Tb W5 X w.heap.size (pCells p (.slice c5 p.g.length n5) (.slice c6 p.o.length n6) (.slice c7 p.r.length n7) (.slice c9 p.l.length n9)) (pCells p (.slice a5 p.g.length k5) (.slice a6 p.o.length k6) (.slice a7 p.r.length k7) (.slice a9 p.l.length k9)) w') (by kernel_rfl) hTb.drew' (fun hHeld => ?_)
      clear hHeld
      have HD := Lib.hid hTb.drew'
      clear hTb
      refine wpAnyH_take (i := 0) (oi := { dst := some 21, op := Op.move (Operand.tmp 5), type := 34, pos := "outright.go:19", after := #[], guard := none }) (v := ?_) rfl (by kernel_rfl) (by kernel_rfl) (by kernel_rfl) (fun _ _ _ h => h) (Or.inl ⟨by rfl, ?_⟩) (by assumption) ?_
      rotate_left
      · intro w hSw; have qa := pcells hSw.ba; have qb := pcells hSw.bb; go_simp; try (with_reducible rfl)
      repeat (first | simp only [Act.put] | simp only [List.setIfInBounds_toArray] | simp only [List.set_cons_zero] | simp only [List.set_cons_succ])
      refine wpAnyH_take (i := 1) (oi := { dst := some 22, op := Op.binOp BinOp.eql 34 (Operand.tmp 21) (Operand.const (Value.int IntKind.i64 0)) 34, type := 4, pos := "outright.go:19", after := #[{ on := 0, ground := Ground.data }], guard := none }) (v := ?_) rfl (by kernel_rfl) (by kernel_rfl) (by kernel_rfl) (fun _ _ _ h => h) (Or.inl ⟨by rfl, ?_⟩) (by assumption) ?_
      rotate_left
      · intro w hSw; have qa := pcells hSw.ba; have qb := pcells hSw.bb; go_simp; try (with_reducible rfl)
      repeat (first | simp only [Act.put] | simp only [List.setIfInBounds_toArray] | simp only [List.set_cons_zero] | simp only [List.set_cons_succ])
      refine wpAnyH_take (i := 2) (oi := { dst := some 23, op := Op.move (Operand.tmp 22), type := 4, pos := "outright.go:19", after := #[{ on := 1, ground := Ground.data }], guard := none }) (v := ?_) rfl (by kernel_rfl) (by kernel_rfl) (by kernel_rfl) (fun _ _ _ h => h) (Or.inl ⟨by rfl, ?_⟩) (by assumption) ?_
      rotate_left
      · intro w hSw; have qa := pcells hSw.ba; have qb := pcells hSw.bb; go_simp; try (with_reducible rfl)
      repeat (first | simp only [Act.put] | simp only [List.setIfInBounds_toArray] | simp only [List.set_cons_zero] | simp only [List.set_cons_succ])
      refine wpAnyH_take (i := 3) (oi := { dst := some 24, op := Op.load 27 (Operand.tmp 4), type := 27, pos := "outright.go:19", after := #[{ on := 2, ground := Ground.guard }], guard := some (2, true) }) (v := ?_) rfl (by kernel_rfl) (by kernel_rfl) (by kernel_rfl) (fun _ _ _ h => h) (Or.inl ⟨by rfl, ?_⟩) (by assumption) ?_
      rotate_left
      · intro w hSw; have qa := pcells hSw.ba; have qb := pcells hSw.bb; go_simp; try (with_reducible rfl)
      repeat (first | simp only [Act.put] | simp only [List.setIfInBounds_toArray] | simp only [List.set_cons_zero] | simp only [List.set_cons_succ])
      refine wpAnyH_take (i := 4) (oi := { dst := some 25, op := Op.load 25 (Operand.tmp 1), type := 25, pos := "outright.go:19", after := #[{ on := 2, ground := Ground.guard }], guard := some (2, true) }) (v := ?_) rfl (by kernel_rfl) (by kernel_rfl) (by kernel_rfl) (fun _ _ _ h => h) (Or.inl ⟨by rfl, ?_⟩) (by assumption) ?_
      rotate_left
      · intro w hSw; have qa := pcells hSw.ba; have qb := pcells hSw.bb; go_simp; try (with_reducible rfl)
      repeat (first | simp only [Act.put] | simp only [List.setIfInBounds_toArray] | simp only [List.set_cons_zero] | simp only [List.set_cons_succ])
      refine wpAnyH_ready (rs := [5]) (by kernel_rfl) (by simp) ?_
      refine AllReadyH.cons (o := { dst := some 26, op := Op.call { callee := Callee.value (Operand.func 18), args := #[Operand.tmp 24, Operand.tmp 25], argTypes := #[27, 25] }, type := 4, pos := "outright.go:19", after := #[{ on := 3, ground := Ground.data }, { on := 4, ground := Ground.data }, { on := 2, ground := Ground.chain }, { on := 2, ground := Ground.guard }], guard := some (2, true) }) rfl (fun K hK => ?_) AllReadyH.nil
      go_simp
      with_reducible refine (told_any (HY.out.below HD.out.bel) (HP.out.below (HB5.out.trans (HD.out.bel.mono HB5.out.size))) (by have := HLL.out; omega)).mono ?_
      rintro e w12 ⟨rfl, hb12⟩
      have HD12 := Lib.hid (HD.out.below hb12)
      clear hb12
      rw [psameB_self]
      dsimp only
      refine hK.out _ _ ?_ (fun hHeld => ?_)
      · exact HD12.out
      clear hK K
      repeat (first | simp only [Act.put] | simp only [List.setIfInBounds_toArray] | simp only [List.set_cons_zero] | simp only [List.set_cons_succ])
      refine wpAnyH_take (i := 6) (oi := { dst := some 27, op := Op.pick (Operand.tmp 23) (Operand.tmp 26) (Operand.const (Value.bool false)), type := 4, pos := "outright.go:19", after := #[{ on := 2, ground := Ground.data }, { on := 5, ground := Ground.data }], guard := none }) (v := ?_) rfl (by kernel_rfl) (by kernel_rfl) (by kernel_rfl) (fun _ _ _ h => h) (Or.inl ⟨by rfl, ?_⟩) (by assumption) ?_
      rotate_left
      · intro w hSw; have qa := pcells hSw.ba; have qb := pcells hSw.bb; go_simp; try (with_reducible rfl)
      repeat (first | simp only [Act.put] | simp only [List.setIfInBounds_toArray] | simp only [List.set_cons_zero] | simp only [List.set_cons_succ])
      refine wpAnyH_take (i := 7) (oi := { dst := some 28, op := Op.move (Operand.tmp 27), type := 4, pos := "outright.go:19", after := #[{ on := 6, ground := Ground.data }, { on := 5, ground := Ground.chain }], guard := none }) (v := ?_) rfl (by kernel_rfl) (by kernel_rfl) (by kernel_rfl) (fun _ _ _ h => h) (Or.inl ⟨by rfl, ?_⟩) (by assumption) ?_
      rotate_left
      · intro w hSw; have qa := pcells hSw.ba; have qb := pcells hSw.bb; go_simp; try (with_reducible rfl)
      repeat (first | simp only [Act.put] | simp only [List.setIfInBounds_toArray] | simp only [List.set_cons_zero] | simp only [List.set_cons_succ])
      refine wpAnyH_take (i := 8) (oi := { dst := some 29, op := Op.load 27 (Operand.tmp 4), type := 27, pos := "outright.go:19", after := #[{ on := 7, ground := Ground.guard }], guard := some (7, true) }) (v := ?_) rfl (by kernel_rfl) (by kernel_rfl) (by kernel_rfl) (fun _ _ _ h => h) (Or.inl ⟨by rfl, ?_⟩) (by assumption) ?_
      rotate_left
      · intro w hSw; have qa := pcells hSw.ba; have qb := pcells hSw.bb; go_simp; try (with_reducible rfl)
      repeat (first | simp only [Act.put] | simp only [List.setIfInBounds_toArray] | simp only [List.set_cons_zero] | simp only [List.set_cons_succ])
      refine wpAnyH_take (i := 9) (oi := { dst := some 30, op := Op.load 25 (Operand.tmp 1), type := 25, pos := "outright.go:19", after := #[{ on := 7, ground := Ground.guard }], guard := some (7, true) }) (v := ?_) rfl (by kernel_rfl) (by kernel_rfl) (by kernel_rfl) (fun _ _ _ h => h) (Or.inl ⟨by rfl, ?_⟩) (by assumption) ?_
      rotate_left
      · intro w hSw; have qa := pcells hSw.ba; have qb := pcells hSw.bb; go_simp; try (with_reducible rfl)
      repeat (first | simp only [Act.put] | simp only [List.setIfInBounds_toArray] | simp only [List.set_cons_zero] | simp only [List.set_cons_succ])
      refine wpAnyH_ready (rs := [10]) (by kernel_rfl) (by simp) ?_
      refine AllReadyH.cons (o := { dst := some 31, op := Op.call { callee := Callee.value (Operand.func 9), args := #[Operand.tmp 30], argTypes := #[25] }, type := 27, pos := "outright.go:19", after := #[{ on := 9, ground := Ground.data }, { on := 7, ground := Ground.chain }, { on := 7, ground := Ground.guard }], guard := some (7, true) }) rfl (fun K hK => ?_) AllReadyH.nil
      go_simp
      with_reducible refine (of_any (HP.out.below (HB5.out.trans (HD12.out.bel.mono HB5.out.size))) (by have := HLL.out; omega) (by have := HLL.out; omega) (by have := HLL.out; omega) (by have := HLL.out; omega)).mono ?_
      rintro e w13 ⟨t5, t6, t7, t9, rfl, ht13, hb13⟩
      obtain ⟨d5, o5, rfl⟩ := ht13.g.shape
      obtain ⟨d6, o6, rfl⟩ := ht13.o.shape
      obtain ⟨d7, o7, rfl⟩ := ht13.r.shape
      obtain ⟨d9, o9, rfl⟩ := ht13.l.shape
      have HD13 := Lib.hid (HD12.out.below hb13)
      have HT13 := Lib.hid ht13
      clear hb13 ht13
      dsimp only
      refine hK.out _ _ ?_ (fun hHeld => ?_)
      · exact HD13.out
      clear hK K
      repeat (first | simp only [Act.put] | simp only [List.setIfInBounds_toArray] | simp only [List.set_cons_zero] | simp only [List.set_cons_succ])
      refine wpAnyH_ready (rs := [11]) (by kernel_rfl) (by simp) ?_
      refine AllReadyH.cons (o := { dst := some 32, op := Op.call { callee := Callee.value (Operand.func 19), args := #[Operand.tmp 29, Operand.tmp 31], argTypes := #[27, 27] }, type := 4, pos := "outright.go:19", after := #[{ on := 8, ground := Ground.data }, { on := 10, ground := Ground.data }, { on := 10, ground := Ground.chain }, { on := 7, ground := Ground.guard }], guard := some (7, true) }) rfl (fun K hK => ?_) AllReadyH.nil
      go_simp
      with_reducible refine (psame_any p p c5 n5 c6 n6 c7 n7 c9 n9 d5 o5 d6 o6 d7 o7 d9 o9 (HY.out.below HD13.out.bel) HT13.out).mono ?_
      rintro e w14 ⟨rfl, hb14⟩
      have HD14 := Lib.hid (HD13.out.below hb14)
      clear hb14
      rw [psameB_self]
      dsimp only
      refine hK.out _ _ ?_ (fun hHeld => ?_)
      · exact HD14.out
      clear hK K
      repeat (first | simp only [Act.put] | simp only [List.setIfInBounds_toArray] | simp only [List.set_cons_zero] | simp only [List.set_cons_succ])
      refine wpAnyH_take (i := 12) (oi := { dst := some 33, op := Op.pick (Operand.tmp 28) (Operand.tmp 32) (Operand.const (Value.bool false)), type := 4, pos := "outright.go:19", after := #[{ on := 7, ground := Ground.data }, { on := 11, ground := Ground.data }], guard := none }) (v := ?_) rfl (by kernel_rfl) (by kernel_rfl) (by kernel_rfl) (fun _ _ _ h => h) (Or.inl ⟨by rfl, ?_⟩) (by assumption) ?_
      rotate_left
      · intro w hSw; have qa := pcells hSw.ba; have qb := pcells hSw.bb; go_simp; try (with_reducible rfl)
      repeat (first | simp only [Act.put] | simp only [List.setIfInBounds_toArray] | simp only [List.set_cons_zero] | simp only [List.set_cons_succ])
      refine wpAnyH_take (i := 13) (oi := { dst := some 34, op := Op.move (Operand.tmp 33), type := 4, pos := "outright.go:19", after := #[{ on := 12, ground := Ground.data }, { on := 11, ground := Ground.chain }], guard := none }) (v := ?_) rfl (by kernel_rfl) (by kernel_rfl) (by kernel_rfl) (fun _ _ _ h => h) (Or.inl ⟨by rfl, ?_⟩) (by assumption) ?_
      rotate_left
      · intro w hSw; have qa := pcells hSw.ba; have qb := pcells hSw.bb; go_simp; try (with_reducible rfl)
      repeat (first | simp only [Act.put] | simp only [List.setIfInBounds_toArray] | simp only [List.set_cons_zero] | simp only [List.set_cons_succ])
      refine wpAnyH_ready (rs := [14]) (by kernel_rfl) (by simp) ?_
      refine AllReadyH.cons (o := { dst := some 35, op := Op.call { callee := Callee.value (Operand.func 13), args := #[], argTypes := #[] }, type := 4, pos := "outright.go:19", after := #[{ on := 13, ground := Ground.chain }, { on := 13, ground := Ground.guard }], guard := some (13, true) }) rfl (fun K hK => ?_) AllReadyH.nil
      go_simp
      with_reducible refine (pawake_any _ (HT.out.below (HB5.out.trans (HD14.out.bel.mono HB5.out.size))) (Nat.lt_of_lt_of_le HWW.out (Nat.le_trans HB5.out.size HD14.out.bel.size))).mono ?_
      rintro e w16 ⟨rfl, hb16⟩
      have HD16 := Lib.hid (HD14.out.below hb16)
      clear hb16
      dsimp only
      refine hK.out _ _ ?_ (fun hHeld => ?_)
      · exact HD16.out
      clear hK K
      repeat (first | simp only [Act.put] | simp only [List.setIfInBounds_toArray] | simp only [List.set_cons_zero] | simp only [List.set_cons_succ])
      refine wpAnyH_take (i := 15) (oi := { dst := some 36, op := Op.pick (Operand.tmp 34) (Operand.tmp 35) (Operand.const (Value.bool false)), type := 4, pos := "outright.go:19", after := #[{ on := 13, ground := Ground.data }, { on := 14, ground := Ground.data }], guard := none }) (v := ?_) rfl (by kernel_rfl) (by kernel_rfl) (by kernel_rfl) (fun _ _ _ h => h) (Or.inl ⟨by rfl, ?_⟩) (by assumption) ?_
      rotate_left
      · intro w hSw; have qa := pcells hSw.ba; have qb := pcells hSw.bb; go_simp; try (with_reducible rfl)
      repeat (first | simp only [Act.put] | simp only [List.setIfInBounds_toArray] | simp only [List.set_cons_zero] | simp only [List.set_cons_succ])
      refine wpAnyH_ready (rs := [16]) (by kernel_rfl) (by simp) ?_
      refine AllReadyH.cons (o := { dst := some 2, op := Op.assign (Operand.tmp 36), type := 4, pos := "outright.go:19", after := #[{ on := 15, ground := Ground.data }, { on := 14, ground := Ground.chain }, { on := 0, ground := Ground.phase }, { on := 1, ground := Ground.phase }, { on := 2, ground := Ground.phase }, { on := 3, ground := Ground.phase }, { on := 4, ground := Ground.phase }, { on := 5, ground := Ground.phase }, { on := 6, ground := Ground.phase }, { on := 7, ground := Ground.phase }, { on := 8, ground := Ground.phase }, { on := 9, ground := Ground.phase }, { on := 10, ground := Ground.phase }, { on := 11, ground := Ground.phase }, { on := 12, ground := Ground.phase }, { on := 13, ground := Ground.phase }, { on := 14, ground := Ground.phase }, { on := 15, ground := Ground.phase }], guard := none }) rfl (fun K hK => ?_) AllReadyH.nil
      go_simp
      refine hK.out _ _ HD16.out (fun _ => ?_)
      clear hK K
      repeat (first | simp only [Act.put] | simp only [List.setIfInBounds_toArray] | simp only [List.set_cons_zero] | simp only [List.set_cons_succ])
      refine wpAnyH_done (by kernel_rfl) ?_ _
      go_wp2_with fail
      go_ret
      exact ⟨rfl, HB5.out.trans (HD16.out.bel.mono HB5.out.size)⟩
end Go.Proofs.YtmglhlfjddgllaaDoor
