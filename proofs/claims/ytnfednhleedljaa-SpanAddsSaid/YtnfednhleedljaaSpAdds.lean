/- What any numbers make of a set, one by one, is as the document says. -/
import Derived.Test.YtnfednhleedljaaSpRAdd2
namespace Go.Proofs.Ytnfednhleedljaa
open Go Go.RowKit

/-- Both sets, of the same spans and floor. -/
def Both (w0 w : World) (s : Set0) (k : Nat) : Prop := Sn w w0.heap.size s ∧ Rm (w0.heap.size + 2) w (w0.heap.size + 1) (nums s.1) s.2 ∧ Below w0.heap.size w0 w ∧ w0.heap.size + 2 ≤ w.heap.size ∧ (nums s.1).length ≤ k
theorem both_new (w0 : World) : Both w0 ((w0.alloc (.cells #[.slice none 0 0, .int .i64 0] 26)).alloc (.cells #[.slice none 0 0, .int .i64 0] 29)) ([], 0) 0 := by
  refine ⟨(set_new w0).below (below_alloc _ _), ⟨by simp [nums], by omega, (fun x hx => by simp [nums] at hx), .slice none 0 0, ?_, Rd.nil _ _, (fun g hg => by cases hg), fun _ => rfl⟩, ((Below.refl _ _).alloc (Nat.le_refl _) _).alloc (by simp) _, by simp, by simp [nums]⟩
  have := heap_alloc_new (w0.alloc (.cells #[.slice none 0 0, .int .i64 0] 26)) (.cells #[Value.slice none 0 0, .int .i64 0] 29)
  simpa using this
theorem Both.below {w0 w w' : World} {s : Set0} {k : Nat} (h : Both w0 w s k) (hb : Below w.heap.size w w') : Both w0 w' s k :=
  ⟨h.1.below hb, h.2.1.below hb, h.2.2.1.trans (hb.mono h.2.2.1.size), Nat.le_trans h.2.2.2.1 hb.size, h.2.2.2.2⟩
/-- Behind the program's Add: the document's set stands as it was. -/
def Half (w0 w : World) (s t : Set0) (k : Nat) : Prop := Sn w w0.heap.size t ∧ Rm (w0.heap.size + 2) w (w0.heap.size + 1) (nums s.1) s.2 ∧ Below w0.heap.size w0 w ∧ w0.heap.size + 2 ≤ w.heap.size ∧ (nums s.1).length ≤ k ∧ OkS s
theorem both_one {w0 w w1 : World} {s : Set0} {k : Nat} {n : Int} (h : Both w0 w s k) (h1 : Added w w0.heap.size s n w1) : Half w0 w1 s (addS s n) k :=
  ⟨h1.1, h.2.1.but h1.2 (by omega) (by omega), h1.2.below h.2.2.1 (Nat.le_refl _) h.2.2.1.size, Nat.le_trans h.2.2.2.1 h1.2.size, h.2.2.2.2, h.1.ok⟩
/-- A set's row lies in no block of the document's set. -/
theorem Sn.far {w w' : World} {B T : Nat} {t : Set0} {L : List Int} {F : Int} {lo : Nat} (h : Sn w T t) (hB : Rm lo w B L F) (hb : But B w w') (hn : T ≠ B) : Sn w' T t := by
  obtain ⟨v, h1, h2, h3, h4⟩ := h.box
  obtain ⟨v', g1, g2, _⟩ := hB.box
  obtain ⟨ao, cap, e, _⟩ := g2
  refine ⟨h.ok, v, by rw [hb.block T (blk_lt h1) hn]; exact h1, h2.but hb (h2.apart g1 ⟨ao, _, cap, e⟩), h3, h4⟩
theorem both_two {w0 w1 w2 : World} {s : Set0} {k : Nat} {n : Int} (h : Half w0 w1 s (addS s n) k) (h2 : RAdded (w0.heap.size + 2) w1 (w0.heap.size + 1) s n w2) : Both w0 w2 (addS s n) (k + 1) :=
  ⟨h.1.far h.2.1 h2.2 (by omega), h2.1, h2.2.below h.2.2.1 (by omega) h.2.2.1.size, Nat.le_trans h.2.2.2.1 h2.2.size, Nat.le_trans (nums_len h.2.2.2.2.2 n) (by have := h.2.2.2.2.1; omega)⟩
theorem Both.floor {w0 w : World} {s : Set0} {k : Nat} (h : Both w0 w s k) : w.cell? ⟨w0.heap.size + 1, 1, none⟩ = some (.int .i64 s.2) := h.2.1.shape.1

/-- The condition that is held may grow. -/
theorem wpAnyH_switch {P : Program} {md : Region.Mode} {ops : Array Oper} {Q : Exit → Act → World → Prop} {S S' : World → Prop} (h : ∀ w, S' w → S w) : ∀ {fuel : Nat} {listed : Array Bool} {a : Act} {w : World}, wpAnyH P md ops Q S' fuel listed a w → wpAnyH P md ops Q S fuel listed a w
  | 0, _, _, _, hw => hw
  | _ + 1, _, _, _, hw => ⟨hw.1, fun i hi => wpOp_mono (fun _ w' ⟨h1, h2⟩ => ⟨h w' h1, wpAnyH_switch h h2⟩) (hw.2 i hi)⟩
set_option maxHeartbeats 4000000 in
theorem adds_some {w0 : World} {ao bo : Option Addr} {cap cbp : Nat} {l ask : List Int} (hl : l.length ≤ 200) (ha : ask.length ≤ 200) (cl : Came w0 ao l) (ca : Came w0 bo ask) :
    Calls Try.prog 3 #[.slice ao l.length cap, .slice bo ask.length cbp] w0 fun e w' => e = .returned (.bool true) ∧ Below w0.heap.size w0 w' := by
  have h0 := both_new w0
  have hl' : (l.length : Int) ≤ 200 := by omega
  have ha' : (ask.length : Int) ≤ 200 := by omega
  go_enter Try.func3, Try.ntmps3
  go_wp2_with fail
  go_loopw [7] (fun i w => ∃ (k : Nat) (s : Set0), k ≤ l.length ∧ i = .int .i64 k ∧ Both w0 w s k) (fun i _ => l.length - (intOf i).toNat)
  case atStart => exact ⟨0, _, by omega, rfl, h0⟩
  case round =>
    clear h0
    obtain ⟨k, s, hk, rfl, htw⟩ := hrel
    have hk' : (k : Int) ≤ (l.length : Int) := by omega
    by_cases hlt : k < l.length
    · have hlt' : (k : Int) < (l.length : Int) := by omega
      rcases cl with e | ⟨b, off, rfl, hcell⟩
      · rw [e] at hlt; simp at hlt
      have hx := cells_keep (hcell k hlt) htw.2.2.1
      have hx0 := hcell k hlt
      generalize l.getD k 0 = x at hx hx0
      have htd := htw.below (drewN_below _ 1)
      have hadd := add_any htd.1 x
      generalize hf : okB s x = f at hadd
      have HF := Lib.hid hf
      have HTD := Lib.hid htd
      have HX0 := Lib.hid hx0
      have hk2 := Lib.hid (show k ≤ 200 by omega)
      clear hcell htd htw hf hx0
      go_wp2_with fail
      cases f
      all_goals
        refine wp_region_held_drew (S := fun w' => w'.cell? ⟨b, off + k, none⟩ = some (.int .i64 x)) (by kernel_rfl) hx (fun hHeld => ?_)
        refine wpAnyH_take (i := 0) (oi := { dst := some 27, op := Op.move (Operand.tmp 5), type := 23, pos := "law.go:37", after := #[], guard := none }) (v := ?_) rfl (by kernel_rfl) (by kernel_rfl) (by kernel_rfl) (fun _ _ _ h => h) (Or.inl ⟨by rfl, ?_⟩) (by assumption) ?_
        rotate_left
        · intro w hSw; (try dsimp only at hSw); go_simp; try (with_reducible rfl)
        repeat (first | simp only [Act.put] | simp only [List.setIfInBounds_toArray] | simp only [List.set_cons_zero] | simp only [List.set_cons_succ])
        refine wpAnyH_take (i := 1) (oi := { dst := some 28, op := Op.move (Operand.tmp 0), type := 22, pos := "law.go:37", after := #[], guard := none }) (v := ?_) rfl (by kernel_rfl) (by kernel_rfl) (by kernel_rfl) (fun _ _ _ h => h) (Or.inl ⟨by rfl, ?_⟩) (by assumption) ?_
        rotate_left
        · intro w hSw; (try dsimp only at hSw); go_simp; try (with_reducible rfl)
        repeat (first | simp only [Act.put] | simp only [List.setIfInBounds_toArray] | simp only [List.set_cons_zero] | simp only [List.set_cons_succ])
        refine wpAnyH_take (i := 2) (oi := { dst := some 29, op := Op.move (Operand.tmp 7), type := 3, pos := "law.go:37", after := #[], guard := none }) (v := ?_) rfl (by kernel_rfl) (by kernel_rfl) (by kernel_rfl) (fun _ _ _ h => h) (Or.inl ⟨by rfl, ?_⟩) (by assumption) ?_
        rotate_left
        · intro w hSw; (try dsimp only at hSw); go_simp; try (with_reducible rfl)
        repeat (first | simp only [Act.put] | simp only [List.setIfInBounds_toArray] | simp only [List.set_cons_zero] | simp only [List.set_cons_succ])
        refine wpAnyH_take (i := 3) (oi := { dst := some 30, op := Op.indexAddr 22 (Operand.tmp 28) (Operand.tmp 29), type := 0, pos := "law.go:37", after := #[{ on := 1, ground := Ground.data }, { on := 2, ground := Ground.data }], guard := none }) (v := ?_) rfl (by kernel_rfl) (by kernel_rfl) (by kernel_rfl) (fun _ _ _ h => h) (Or.inl ⟨by rfl, ?_⟩) (by assumption) ?_
        rotate_left
        · intro w hSw; (try dsimp only at hSw); go_simp; try (with_reducible rfl)
        repeat (first | simp only [Act.put] | simp only [List.setIfInBounds_toArray] | simp only [List.set_cons_zero] | simp only [List.set_cons_succ])
        refine wpAnyH_take (i := 4) (oi := { dst := some 31, op := Op.load 3 (Operand.tmp 30), type := 3, pos := "law.go:37", after := #[{ on := 3, ground := Ground.data }], guard := none }) (v := ?_) rfl (by kernel_rfl) (by kernel_rfl) (by kernel_rfl) (fun _ _ _ h => h) (Or.inl ⟨by rfl, ?_⟩) (by assumption) ?_
        rotate_left
        · intro w hSw; (try dsimp only at hSw); go_simp; try (with_reducible rfl)
        repeat (first | simp only [Act.put] | simp only [List.setIfInBounds_toArray] | simp only [List.set_cons_zero] | simp only [List.set_cons_succ])
        refine wpAnyH_take (i := 6) (oi := { dst := some 33, op := Op.move (Operand.tmp 6), type := 27, pos := "law.go:37", after := #[], guard := none }) (v := ?_) rfl (by kernel_rfl) (by kernel_rfl) (by kernel_rfl) (fun _ _ _ h => h) (Or.inl ⟨by rfl, ?_⟩) (by assumption) ?_
        rotate_left
        · intro w hSw; (try dsimp only at hSw); go_simp; try (with_reducible rfl)
        repeat (first | simp only [Act.put] | simp only [List.setIfInBounds_toArray] | simp only [List.set_cons_zero] | simp only [List.set_cons_succ])
        refine wpAnyH_take (i := 7) (oi := { dst := some 34, op := Op.move (Operand.tmp 0), type := 22, pos := "law.go:37", after := #[], guard := none }) (v := ?_) rfl (by kernel_rfl) (by kernel_rfl) (by kernel_rfl) (fun _ _ _ h => h) (Or.inl ⟨by rfl, ?_⟩) (by assumption) ?_
        rotate_left
        · intro w hSw; (try dsimp only at hSw); go_simp; try (with_reducible rfl)
        repeat (first | simp only [Act.put] | simp only [List.setIfInBounds_toArray] | simp only [List.set_cons_zero] | simp only [List.set_cons_succ])
        refine wpAnyH_take (i := 8) (oi := { dst := some 35, op := Op.move (Operand.tmp 7), type := 3, pos := "law.go:37", after := #[], guard := none }) (v := ?_) rfl (by kernel_rfl) (by kernel_rfl) (by kernel_rfl) (fun _ _ _ h => h) (Or.inl ⟨by rfl, ?_⟩) (by assumption) ?_
        rotate_left
        · intro w hSw; (try dsimp only at hSw); go_simp; try (with_reducible rfl)
        repeat (first | simp only [Act.put] | simp only [List.setIfInBounds_toArray] | simp only [List.set_cons_zero] | simp only [List.set_cons_succ])
        refine wpAnyH_take (i := 9) (oi := { dst := some 36, op := Op.indexAddr 22 (Operand.tmp 34) (Operand.tmp 35), type := 0, pos := "law.go:37", after := #[{ on := 7, ground := Ground.data }, { on := 8, ground := Ground.data }], guard := none }) (v := ?_) rfl (by kernel_rfl) (by kernel_rfl) (by kernel_rfl) (fun _ _ _ h => h) (Or.inl ⟨by rfl, ?_⟩) (by assumption) ?_
        rotate_left
        · intro w hSw; (try dsimp only at hSw); go_simp; try (with_reducible rfl)
        repeat (first | simp only [Act.put] | simp only [List.setIfInBounds_toArray] | simp only [List.set_cons_zero] | simp only [List.set_cons_succ])
        refine wpAnyH_take (i := 10) (oi := { dst := some 37, op := Op.load 3 (Operand.tmp 36), type := 3, pos := "law.go:37", after := #[{ on := 9, ground := Ground.data }], guard := none }) (v := ?_) rfl (by kernel_rfl) (by kernel_rfl) (by kernel_rfl) (fun _ _ _ h => h) (Or.inl ⟨by rfl, ?_⟩) (by assumption) ?_
        rotate_left
        · intro w hSw; (try dsimp only at hSw); go_simp; try (with_reducible rfl)
        repeat (first | simp only [Act.put] | simp only [List.setIfInBounds_toArray] | simp only [List.set_cons_zero] | simp only [List.set_cons_succ])
        refine wpAnyH_ready (rs := [5]) (by kernel_rfl) (by simp) ?_
        refine AllReadyH.cons (o := { dst := some 32, op := Op.call { callee := Callee.value (Operand.func 7), args := #[Operand.tmp 27, Operand.tmp 31], argTypes := #[23, 3] }, type := 4, pos := "law.go:37", after := #[{ on := 0, ground := Ground.data }, { on := 4, ground := Ground.data }], guard := none }) rfl (fun K hK => ?_) AllReadyH.nil
        go_simp
        refine hadd.mono ?_
        rintro e w1 ⟨rfl, hA⟩
        have h1 := Lib.hid (both_one HTD.out hA)
        have c1 := cells_keep HX0.out h1.out.2.2.1
        have hra := radd_any h1.out.2.1 h1.out.2.2.2.2.2 x h1.out.2.2.2.1 (Nat.le_trans h1.out.2.2.2.2.1 hk2.out)
        rw [HF.out] at hra
        clear hA
        refine hK.out _ _ ?_ (fun hHeld => ?_)
        · exact c1
        clear hK K
        repeat (first | simp only [Act.put] | simp only [List.setIfInBounds_toArray] | simp only [List.set_cons_zero] | simp only [List.set_cons_succ])
        refine wpAnyH_ready (rs := [11]) (by kernel_rfl) (by simp) ?_
        refine AllReadyH.cons (o := { dst := some 38, op := Op.call { callee := Callee.value (Operand.func 8), args := #[Operand.tmp 33, Operand.tmp 37], argTypes := #[27, 3] }, type := 4, pos := "law.go:37", after := #[{ on := 6, ground := Ground.data }, { on := 10, ground := Ground.data }, { on := 5, ground := Ground.chain }], guard := none }) rfl (fun K hK => ?_) AllReadyH.nil
        go_simp
        refine hra.mono ?_
        rintro e w2 ⟨rfl, hR⟩
        have h2 := Lib.hid (both_two h1.out hR)
        have c2 := cells_keep HX0.out h2.out.2.2.1
        have hsp := spans_any h2.out.1
        clear hR
        refine hK.out _ _ ?_ (fun hHeld => ?_)
        · exact c2
        clear hK K
        repeat (first | simp only [Act.put] | simp only [List.setIfInBounds_toArray] | simp only [List.set_cons_zero] | simp only [List.set_cons_succ])
        refine wpAnyH_take (i := 12) (oi := { dst := some 39, op := Op.binOp BinOp.neq 4 (Operand.tmp 32) (Operand.tmp 38) 4, type := 4, pos := "law.go:37", after := #[{ on := 5, ground := Ground.data }, { on := 11, ground := Ground.data }], guard := none }) (v := ?_) rfl (by kernel_rfl) (by kernel_rfl) (by kernel_rfl) (fun _ _ _ h => h) (Or.inl ⟨by rfl, ?_⟩) (by assumption) ?_
        rotate_left
        · intro w hSw; (try dsimp only at hSw); go_simp; try (with_reducible rfl)
        repeat (first | simp only [Act.put] | simp only [List.setIfInBounds_toArray] | simp only [List.set_cons_zero] | simp only [List.set_cons_succ])
        refine wpAnyH_take (i := 13) (oi := { dst := some 40, op := Op.move (Operand.tmp 39), type := 4, pos := "law.go:37", after := #[{ on := 12, ground := Ground.data }, { on := 11, ground := Ground.chain }], guard := none }) (v := ?_) rfl (by kernel_rfl) (by kernel_rfl) (by kernel_rfl) (fun _ _ _ h => h) (Or.inl ⟨by rfl, ?_⟩) (by assumption) ?_
        rotate_left
        · intro w hSw; (try dsimp only at hSw); go_simp; try (with_reducible rfl)
        repeat (first | simp only [Act.put] | simp only [List.setIfInBounds_toArray] | simp only [List.set_cons_zero] | simp only [List.set_cons_succ])
        refine wpAnyH_take (i := 14) (oi := { dst := some 41, op := Op.move (Operand.tmp 5), type := 23, pos := "law.go:37", after := #[{ on := 13, ground := Ground.guard }], guard := some (13, false) }) (v := ?_) rfl (by kernel_rfl) (by kernel_rfl) (by kernel_rfl) (fun _ _ _ h => h) (Or.inl ⟨by rfl, ?_⟩) (by assumption) ?_
        rotate_left
        · intro w hSw; (try dsimp only at hSw); go_simp; try (with_reducible rfl)
        repeat (first | simp only [Act.put] | simp only [List.setIfInBounds_toArray] | simp only [List.set_cons_zero] | simp only [List.set_cons_succ])
        refine wpAnyH_take (i := 16) (oi := { dst := some 43, op := Op.move (Operand.tmp 6), type := 27, pos := "law.go:37", after := #[{ on := 13, ground := Ground.guard }], guard := some (13, false) }) (v := ?_) rfl (by kernel_rfl) (by kernel_rfl) (by kernel_rfl) (fun _ _ _ h => h) (Or.inl ⟨by rfl, ?_⟩) (by assumption) ?_
        rotate_left
        · intro w hSw; (try dsimp only at hSw); go_simp; try (with_reducible rfl)
        repeat (first | simp only [Act.put] | simp only [List.setIfInBounds_toArray] | simp only [List.set_cons_zero] | simp only [List.set_cons_succ])
        refine wpAnyH_ready (rs := [15]) (by kernel_rfl) (by simp) ?_
        refine AllReadyH.cons (o := { dst := some 42, op := Op.call { callee := Callee.value (Operand.func 10), args := #[Operand.tmp 41], argTypes := #[23] }, type := 24, pos := "law.go:37", after := #[{ on := 14, ground := Ground.data }, { on := 13, ground := Ground.chain }, { on := 13, ground := Ground.guard }], guard := some (13, false) }) rfl (fun K hK => ?_) AllReadyH.nil
        go_simp
        refine hsp.mono ?_
        rintro e w3 ⟨v3, rfl, ho3, hb3⟩
        have h3 := Lib.hid (h2.out.below hb3)
        have c3 := cells_keep HX0.out h3.out.2.2.1
        have hr3 := Lib.hid (Rs.of_own ho3).1
        have hrs := rspans_any h3.out.2.1
        clear ho3
        refine hK.out _ _ ?_ (fun hHeld => ?_)
        · exact c3
        clear hK K
        repeat (first | simp only [Act.put] | simp only [List.setIfInBounds_toArray] | simp only [List.set_cons_zero] | simp only [List.set_cons_succ])
        refine wpAnyH_ready (rs := [17]) (by kernel_rfl) (by simp) ?_
        refine AllReadyH.cons (o := { dst := some 44, op := Op.call { callee := Callee.value (Operand.func 11), args := #[Operand.tmp 43], argTypes := #[27] }, type := 33, pos := "law.go:37", after := #[{ on := 16, ground := Ground.data }, { on := 15, ground := Ground.chain }, { on := 13, ground := Ground.guard }], guard := some (13, false) }) rfl (fun K hK => ?_) AllReadyH.nil
        go_simp
        refine hrs.mono ?_
        rintro e w4 ⟨v4, rfl, ho4, hb4⟩
        have h4 := Lib.hid (h3.out.below hb4)
        have c4 := cells_keep HX0.out h4.out.2.2.1
        rw [spans_nums h4.out.1.ok.1] at ho4
        have ht := told_true (hr3.out.below hb4) (Rs.of_own ho4).1 (by have := h4.out.1.ok.2.1; omega)
        clear ho4
        refine hK.out _ _ ?_ (fun hHeld => ?_)
        · exact c4
        clear hK K
        repeat (first | simp only [Act.put] | simp only [List.setIfInBounds_toArray] | simp only [List.set_cons_zero] | simp only [List.set_cons_succ])
        refine wpAnyH_ready (rs := [18]) (by kernel_rfl) (by simp) ?_
        refine AllReadyH.cons (o := { dst := some 45, op := Op.call { callee := Callee.value (Operand.func 9), args := #[Operand.tmp 42, Operand.tmp 44], argTypes := #[24, 33] }, type := 4, pos := "law.go:37", after := #[{ on := 15, ground := Ground.data }, { on := 17, ground := Ground.data }, { on := 17, ground := Ground.chain }, { on := 13, ground := Ground.guard }], guard := some (13, false) }) rfl (fun K hK => ?_) AllReadyH.nil
        go_simp
        refine ht.mono ?_
        rintro e w5 ⟨rfl, k5, rfl⟩
        have h5 := Lib.hid (h4.out.below (drewN_below _ k5))
        have c5 := cells_keep HX0.out h5.out.2.2.1
        have hfl := floor_any h5.out.1
        have hf5 := h5.out.floor
        refine hK.out _ _ ?_ (fun hHeld => ?_)
        · exact c5
        clear hK K
        repeat (first | simp only [Act.put] | simp only [List.setIfInBounds_toArray] | simp only [List.set_cons_zero] | simp only [List.set_cons_succ])
        refine wpAnyH_switch (S' := fun w' => w'.cell? ⟨b, off + k, none⟩ = some (.int .i64 x) ∧ w'.cell? ⟨w0.heap.size + 1, 1, none⟩ = some (.int .i64 (addS s x).2)) (fun _ h => h.1) ?_
        have hHeld2 : (fun w' : World => w'.cell? ⟨b, off + k, none⟩ = some (.int .i64 x) ∧ w'.cell? ⟨w0.heap.size + 1, 1, none⟩ = some (.int .i64 (addS s x).2)) _ := ⟨c5, hf5⟩
        refine wpAnyH_take (i := 19) (oi := { dst := some 46, op := Op.unOp UnOp.not 4 (Operand.tmp 45), type := 4, pos := "law.go:37", after := #[{ on := 18, ground := Ground.data }, { on := 13, ground := Ground.guard }], guard := some (13, false) }) (v := ?_) rfl (by kernel_rfl) (by kernel_rfl) (by kernel_rfl) (fun _ _ _ h => h) (Or.inl ⟨by rfl, ?_⟩) (by assumption) ?_
        rotate_left
        · intro w hSw; (try dsimp only at hSw); go_simp; try (with_reducible rfl)
        repeat (first | simp only [Act.put] | simp only [List.setIfInBounds_toArray] | simp only [List.set_cons_zero] | simp only [List.set_cons_succ])
        refine wpAnyH_take (i := 20) (oi := { dst := some 47, op := Op.pick (Operand.tmp 40) (Operand.const (Value.bool true)) (Operand.tmp 46), type := 4, pos := "law.go:37", after := #[{ on := 13, ground := Ground.data }, { on := 19, ground := Ground.data }], guard := none }) (v := ?_) rfl (by kernel_rfl) (by kernel_rfl) (by kernel_rfl) (fun _ _ _ h => h) (Or.inl ⟨by rfl, ?_⟩) (by assumption) ?_
        rotate_left
        · intro w hSw; (try dsimp only at hSw); go_simp; try (with_reducible rfl)
        repeat (first | simp only [Act.put] | simp only [List.setIfInBounds_toArray] | simp only [List.set_cons_zero] | simp only [List.set_cons_succ])
        refine wpAnyH_take (i := 21) (oi := { dst := some 48, op := Op.move (Operand.tmp 47), type := 4, pos := "law.go:37", after := #[{ on := 20, ground := Ground.data }, { on := 18, ground := Ground.chain }], guard := none }) (v := ?_) rfl (by kernel_rfl) (by kernel_rfl) (by kernel_rfl) (fun _ _ _ h => h) (Or.inl ⟨by rfl, ?_⟩) (by assumption) ?_
        rotate_left
        · intro w hSw; (try dsimp only at hSw); go_simp; try (with_reducible rfl)
        repeat (first | simp only [Act.put] | simp only [List.setIfInBounds_toArray] | simp only [List.set_cons_zero] | simp only [List.set_cons_succ])
        refine wpAnyH_take (i := 22) (oi := { dst := some 49, op := Op.move (Operand.tmp 5), type := 23, pos := "law.go:37", after := #[{ on := 21, ground := Ground.guard }], guard := some (21, false) }) (v := ?_) rfl (by kernel_rfl) (by kernel_rfl) (by kernel_rfl) (fun _ _ _ h => h) (Or.inl ⟨by rfl, ?_⟩) (by assumption) ?_
        rotate_left
        · intro w hSw; (try dsimp only at hSw); go_simp; try (with_reducible rfl)
        repeat (first | simp only [Act.put] | simp only [List.setIfInBounds_toArray] | simp only [List.set_cons_zero] | simp only [List.set_cons_succ])
        refine wpAnyH_take (i := 24) (oi := { dst := some 51, op := Op.move (Operand.tmp 6), type := 27, pos := "law.go:37", after := #[{ on := 21, ground := Ground.guard }], guard := some (21, false) }) (v := ?_) rfl (by kernel_rfl) (by kernel_rfl) (by kernel_rfl) (fun _ _ _ h => h) (Or.inl ⟨by rfl, ?_⟩) (by assumption) ?_
        rotate_left
        · intro w hSw; (try dsimp only at hSw); go_simp; try (with_reducible rfl)
        repeat (first | simp only [Act.put] | simp only [List.setIfInBounds_toArray] | simp only [List.set_cons_zero] | simp only [List.set_cons_succ])
        refine wpAnyH_take (i := 25) (oi := { dst := some 52, op := Op.nilCheck (Operand.tmp 51), type := 0, pos := "law.go:37", after := #[{ on := 24, ground := Ground.data }, { on := 21, ground := Ground.guard }], guard := some (21, false) }) (v := ?_) rfl (by kernel_rfl) (by kernel_rfl) (by kernel_rfl) (fun _ _ _ h => h) (Or.inl ⟨by rfl, ?_⟩) (by assumption) ?_
        rotate_left
        · intro w hSw; (try dsimp only at hSw); go_simp; try (with_reducible rfl)
        repeat (first | simp only [Act.put] | simp only [List.setIfInBounds_toArray] | simp only [List.set_cons_zero] | simp only [List.set_cons_succ])
        refine wpAnyH_take (i := 26) (oi := { dst := some 53, op := Op.fieldAddr 29 (Operand.tmp 52) 1, type := 0, pos := "law.go:37", after := #[{ on := 25, ground := Ground.data }, { on := 21, ground := Ground.guard }], guard := some (21, false) }) (v := ?_) rfl (by kernel_rfl) (by kernel_rfl) (by kernel_rfl) (fun _ _ _ h => h) (Or.inl ⟨by rfl, ?_⟩) (by assumption) ?_
        rotate_left
        · intro w hSw; (try dsimp only at hSw); go_simp; try (with_reducible rfl)
        repeat (first | simp only [Act.put] | simp only [List.setIfInBounds_toArray] | simp only [List.set_cons_zero] | simp only [List.set_cons_succ])
        refine wpAnyH_take (i := 27) (oi := { dst := some 54, op := Op.load 3 (Operand.tmp 53), type := 3, pos := "law.go:37", after := #[{ on := 26, ground := Ground.data }, { on := 21, ground := Ground.guard }], guard := some (21, false) }) (v := ?_) rfl (by kernel_rfl) (by kernel_rfl) (by kernel_rfl) (fun _ _ _ h => h) (Or.inl ⟨by rfl, ?_⟩) (by assumption) ?_
        rotate_left
        · intro w hSw; (try dsimp only at hSw); go_simp; try (with_reducible rfl)
        repeat (first | simp only [Act.put] | simp only [List.setIfInBounds_toArray] | simp only [List.set_cons_zero] | simp only [List.set_cons_succ])
        refine wpAnyH_ready (rs := [23]) (by kernel_rfl) (by simp) ?_
        refine AllReadyH.cons (o := { dst := some 50, op := Op.call { callee := Callee.value (Operand.func 12), args := #[Operand.tmp 49], argTypes := #[23] }, type := 3, pos := "law.go:37", after := #[{ on := 22, ground := Ground.data }, { on := 21, ground := Ground.chain }, { on := 21, ground := Ground.guard }], guard := some (21, false) }) rfl (fun K hK => ?_) AllReadyH.nil
        go_simp
        refine hfl.mono ?_
        rintro e w' ⟨rfl, rfl⟩
        refine hK.out _ _ ?_ (fun hHeld => ?_)
        · exact hHeld2
        clear hK K
        repeat (first | simp only [Act.put] | simp only [List.setIfInBounds_toArray] | simp only [List.set_cons_zero] | simp only [List.set_cons_succ])
        refine wpAnyH_take (i := 28) (oi := { dst := some 55, op := Op.binOp BinOp.neq 3 (Operand.tmp 50) (Operand.tmp 54) 3, type := 4, pos := "law.go:37", after := #[{ on := 23, ground := Ground.data }, { on := 27, ground := Ground.data }, { on := 21, ground := Ground.guard }], guard := some (21, false) }) (v := ?_) rfl (by kernel_rfl) (by kernel_rfl) (by kernel_rfl) (fun _ _ _ h => h) (Or.inl ⟨by rfl, ?_⟩) (by assumption) ?_
        rotate_left
        · intro w hSw; (try dsimp only at hSw); go_simp; try (with_reducible rfl)
        repeat (first | simp only [Act.put] | simp only [List.setIfInBounds_toArray] | simp only [List.set_cons_zero] | simp only [List.set_cons_succ])
        refine wpAnyH_take (i := 29) (oi := { dst := some 56, op := Op.pick (Operand.tmp 48) (Operand.const (Value.bool true)) (Operand.tmp 55), type := 4, pos := "law.go:37", after := #[{ on := 21, ground := Ground.data }, { on := 28, ground := Ground.data }], guard := none }) (v := ?_) rfl (by kernel_rfl) (by kernel_rfl) (by kernel_rfl) (fun _ _ _ h => h) (Or.inl ⟨by rfl, ?_⟩) (by assumption) ?_
        rotate_left
        · intro w hSw; (try dsimp only at hSw); go_simp; try (with_reducible rfl)
        repeat (first | simp only [Act.put] | simp only [List.setIfInBounds_toArray] | simp only [List.set_cons_zero] | simp only [List.set_cons_succ])
        refine wpAnyH_done (by kernel_rfl) ?_ _
        have HR := h5
        clear hadd hra hsp hrs ht hfl hf5 c1 c2 c3 c4 c5 hx h1 h2 h3 h4 h5 hr3 hb3 hb4
        go_wp2_with fail
        go_roundw
        case rel => exact ⟨k + 1, _, by omega, by go_num, HR.out⟩
        case measure => simp [intOf]; omega
    · obtain rfl : k = l.length := by omega
      clear cl
      generalize l.length = K at *
      go_wp2_with fail
      go_loopw [8] (fun i w => ∃ k : Nat, k ≤ ask.length ∧ i = .int .i64 k ∧ Both w0 w s K) (fun i _ => ask.length - (intOf i).toNat)
      case atStart => exact ⟨0, by omega, rfl, htw⟩
      case round =>
        clear htw
        obtain ⟨k, hk, rfl, htw⟩ := hrel
        have hk' : (k : Int) ≤ (ask.length : Int) := by omega
        by_cases hlt : k < ask.length
        · have hlt' : (k : Int) < (ask.length : Int) := by omega
          rcases ca with e | ⟨b, off, rfl, hcell⟩
          · rw [e] at hlt; simp at hlt
          have hx0 := hcell k hlt
          have hx := cells_keep (hcell k hlt) htw.2.2.1
          generalize ask.getD k 0 = x at hx hx0
          have htd := htw.below (drewN_below _ 1)
          have hhas := has_any htd.1 x
          generalize hf : hasB s.1 x = f at hhas
          have HF := Lib.hid hf
          have HTD := Lib.hid htd
          have HX0 := Lib.hid hx0
          clear hcell htd htw hf hx0
          go_wp2_with fail
          cases f
          all_goals
            go_region_held3 (fun w' => w'.cell? ⟨b, off + k, none⟩ = some (.int .i64 x))
              (first | with_reducible exact hx | exact hx | with_reducible exact c1)
              (first
                | (go_at_call 13; refine hhas.mono ?_; rintro e w1 ⟨rfl, hb1⟩; have h1 := Lib.hid (HTD.out.below hb1); have c1 := cells_keep HX0.out h1.out.2.2.1; have hra := rhas_any h1.out.2.1 x; rw [← nums_has h1.out.1.ok.1 x, HF.out] at hra; clear hb1)
                | (go_at_call 14; refine hra.mono ?_; rintro e w' ⟨rfl, rfl⟩))
            clear hhas hra c1 hx
            go_wp2_with fail
            go_roundw
            case rel => exact ⟨k + 1, by omega, by go_num, h1.out⟩
            case measure => simp [intOf]; omega
        · obtain rfl : k = ask.length := by omega
          have hbel := htw.2.2.1
          have hsz := hbel.size
          clear htw
          go_wp2_with (go_at_call 15; refine (awake_any _).mono ?_; rintro e w2 ⟨rfl, b2⟩)
          go_ret
          exact ⟨rfl, hbel.trans (b2.mono hsz)⟩
theorem adds_long {w0 : World} {ao bo : Option Addr} {n m cap cbp : Nat} (h : 200 < n ∨ 200 < m) : Calls Try.prog 3 #[.slice ao n cap, .slice bo m cbp] w0 fun e w' => e = .returned (.bool true) ∧ Below w0.heap.size w0 w' := by
  by_cases h1 : 200 < n
  · have h' : (200 : Int) < (n : Int) := by omega
    clear h h1
    go_enter Try.func3, Try.ntmps3
    go_wp2_with fail
    go_ret
    exact ⟨rfl, Below.refl _ _⟩
  · have h' : (n : Int) ≤ 200 := by omega
    have h2 : (200 : Int) < (m : Int) := by omega
    clear h h1
    go_enter Try.func3, Try.ntmps3
    go_wp2_with fail
    go_ret
    exact ⟨rfl, Below.refl _ _⟩
theorem adds_walk {w0 : World} {v u : Value} {l ask : List Int} (hr : Rd .i64 w0 v l) (hq : Rd .i64 w0 u ask) : Calls Try.prog 3 #[v, u] w0 fun e w' => e = .returned (.bool true) ∧ Below w0.heap.size w0 w' := by
  obtain ⟨ao, cap, rfl, cl⟩ := came_of hr
  obtain ⟨bo, cbp, rfl, ca⟩ := came_of hq
  by_cases h : l.length ≤ 200 ∧ ask.length ≤ 200
  · exact adds_some h.1 h.2 cl ca
  · exact adds_long (by omega)
end Go.Proofs.Ytnfednhleedljaa
