/- StrikeTries: the walk. -/
import Derived.Test.YtallpkchhkdanaaActIn
namespace Go.Proofs.Ytallpkchhkdanaa
open Go Go.RowKit

theorem rt_any {w : World} {B : Nat} {win room : Int} {L : List Sp} (h : RSt w B win room L) (hl : L.length ≤ 1000) {n made now : Int} (hm : i64 made) (hw : i64 now) :
    Calls Try.prog 12 #[.pointer (some ⟨B, 0, none⟩), .int .i64 n, .int .i64 made, .int .i64 now] w fun e w' => e = .returned (.int .i64 (tryE win room L n made now)) ∧ RSt w' B win room (tryL win room L n made now) ∧ Below B w w' := by
  unfold i64 at hm hw
  by_cases h1 : made < 0 ∨ now < 0
  · refine (rt_arg (B := B) (n := n) h1).mono fun e w' ⟨he, e2⟩ => ?_
    subst e2
    unfold tryE tryL
    rw [if_pos h1, if_pos h1]
    exact ⟨he, h, Below.refl _ _⟩
  · by_cases h2 : now < made ∨ win < now - made
    · refine (rt_old h (n := n) (by omega) hm.2 (by omega) hw.2 h2).mono fun e w' ⟨he, e2⟩ => ?_
      subst e2
      unfold tryE tryL
      rw [if_neg h1, if_neg h1, if_pos h2, if_pos h2]
      exact ⟨he, h, Below.refl _ _⟩
    · exact rt_in h (by omega) hm.2 (by omega) hw.2 h2 hl
abbrev rBox (a b : Int) : Obj := .cells #[.int .i64 a, .int .i64 b, .slice none 0 0] 36
theorem rnew_st (w : World) {a b : Int} (h0 : 0 ≤ a) (h1 : a ≤ 9223372036854775807) : RSt (w.alloc (rBox a b)) w.heap.size a b [] :=
  ⟨⟨h0, h1⟩, (fun p h => by cases h), _, heap_alloc_new _ _, own_nil0 _ _ _ _⟩
set_option maxHeartbeats 1000000 in
theorem rnew_eq (w : World) (a b : Int) : Calls Try.prog 10 #[.int .i64 a, .int .i64 b] w fun e w' => e = .returned (.pointer (some ⟨w.heap.size, 0, none⟩)) ∧ w' = w.alloc (rBox (winN a) (roomN b)) := by
  unfold winN roomN
  by_cases h1 : a < 0
  · rw [if_pos h1]
    by_cases h2 : b < 0
    · rw [if_pos h2]
      go_enter Try.func10, Try.ntmps10
      go_wp2_with fail
      go_ret
      exact ⟨rfl, rfl⟩
    · rw [if_neg h2]
      have h2' : 0 ≤ b := by omega
      by_cases h3 : 65536 < b
      · rw [if_pos h3]
        have h3' : ¬ b ≤ 65536 := by omega
        go_enter Try.func10, Try.ntmps10
        go_wp2_with fail
        go_ret
        exact ⟨rfl, rfl⟩
      · rw [if_neg h3]
        have h3' : b ≤ 65536 := by omega
        go_enter Try.func10, Try.ntmps10
        go_wp2_with fail
        go_ret
        exact ⟨rfl, rfl⟩
  · rw [if_neg h1]
    have h1' : 0 ≤ a := by omega
    by_cases h2 : b < 0
    · rw [if_pos h2]
      go_enter Try.func10, Try.ntmps10
      go_wp2_with fail
      go_ret
      exact ⟨rfl, rfl⟩
    · rw [if_neg h2]
      have h2' : 0 ≤ b := by omega
      by_cases h3 : 65536 < b
      · rw [if_pos h3]
        have h3' : ¬ b ≤ 65536 := by omega
        go_enter Try.func10, Try.ntmps10
        go_wp2_with fail
        go_ret
        exact ⟨rfl, rfl⟩
      · rw [if_neg h3]
        have h3' : b ≤ 65536 := by omega
        go_enter Try.func10, Try.ntmps10
        go_wp2_with fail
        go_ret
        exact ⟨rfl, rfl⟩
/-- Both stores, side by side; the program's may be ahead. -/
structure Tw (w0 w : World) (a b : Int) (L M : List Sp) (k : Nat) : Prop where
  st : St w (w0.heap.size + 1) w0.heap.size a b L
  ref : RSt w (w0.heap.size + 1 + 1) a b M
  bel : Below w0.heap.size w0 w
  len : M.length ≤ k
theorem tw_one {w0 w w1 : World} {a b : Int} {L M N : List Sp} {k : Nat} (h : Tw w0 w a b L M k) (h1 : St w1 (w0.heap.size + 1) w0.heap.size a b N) (hb : Bt (w0.heap.size + 1) w0.heap.size w w1) : Tw w0 w1 a b N M k :=
  ⟨h1, h.ref.keep fun k hk hlt => hb.block k hlt (by omega) (by omega), hb.below h.bel (by omega) (Nat.le_refl _) h.bel.size, h.len⟩
theorem tw_two {w0 w w1 : World} {a b : Int} {M : List Sp} {k : Nat} {n made now : Int} {N : List Sp} (h : Tw w0 w a b N M k) (h1 : RSt w1 (w0.heap.size + 1 + 1) a b (tryL a b M n made now)) (hb : Below (w0.heap.size + 1 + 1) w w1) : Tw w0 w1 a b N (tryL a b M n made now) (k + 1) :=
  ⟨h.st.keep (hb.block _ (by omega)) (hb.block _ (by omega)), h1, h.bel.trans (hb.mono (by omega)), Nat.le_trans (try_len M n made now) (by have := h.len; omega)⟩
theorem Tw.below {w0 w w1 : World} {a b : Int} {L M : List Sp} {k : Nat} (h : Tw w0 w a b L M k) (hb : Below w.heap.size w w1) : Tw w0 w1 a b L M k :=
  ⟨h.st.below hb, h.ref.keep fun k _ hlt => hb.block k hlt, h.bel.trans (hb.mono h.bel.size), h.len⟩
theorem acts_keep {w0 w : World} {b : Nat} {i j k : Nat} {x y z : Value} (h : w0.cell? ⟨b, i, none⟩ = some x ∧ w0.cell? ⟨b, j, none⟩ = some y ∧ w0.cell? ⟨b, k, none⟩ = some z) (hb : Below w0.heap.size w0 w) :
    w.cell? ⟨b, i, none⟩ = some x ∧ w.cell? ⟨b, j, none⟩ = some y ∧ w.cell? ⟨b, k, none⟩ = some z :=
  ⟨by rw [hb.cell (p := ⟨b, i, none⟩) (cell_lt h.1)]; exact h.1, by rw [hb.cell (p := ⟨b, j, none⟩) (cell_lt h.2.1)]; exact h.2.1, by rw [hb.cell (p := ⟨b, k, none⟩) (cell_lt h.2.2)]; exact h.2.2⟩
/-- The condition that is held may grow. -/
theorem wpAnyH_switch {P : Program} {md : Region.Mode} {ops : Array Oper} {Q : Exit → Act → World → Prop} {S S' : World → Prop} (h : ∀ w, S' w → S w) : ∀ {fuel : Nat} {listed : Array Bool} {a : Act} {w : World}, wpAnyH P md ops Q S' fuel listed a w → wpAnyH P md ops Q S fuel listed a w
  | 0, _, _, _, hw => hw
  | _ + 1, _, _, _, hw => ⟨hw.1, fun i hi => wpOp_mono (fun _ w' ⟨h1, h2⟩ => ⟨h w' h1, wpAnyH_switch h h2⟩) (hw.2 i hi)⟩
theorem win_bd (a : Int) (h : i64 a) : 0 ≤ winN a ∧ winN a ≤ 9223372036854775807 := by
  unfold i64 at h; unfold winN; split <;> omega
theorem tries_big {w : World} {ao : Option Addr} {n cap : Nat} {a b : Int} (h : 100 < n) : Calls Try.prog 3 #[.int .i64 a, .int .i64 b, .slice ao n cap] w fun e w' => e = .returned (.bool true) ∧ Below w.heap.size w w' := by
  have t1 : decide ((100 : Int) < (n : Int)) = true := decide_eq_true (by omega)
  clear h
  go_enter Try.func3, Try.ntmps3
  go_wp2_with fail
  go_ret
  exact ⟨rfl, Below.refl _ _⟩
set_option maxRecDepth 20000 in
set_option maxHeartbeats 8000000 in
theorem tries_walk {w0 : World} {v : Value} {l : List ActV} (hl : Acts w0 v l) (x0 x1 : Int) (hx0 : i64 x0) : Calls Try.prog 3 #[.int .i64 x0, .int .i64 x1, v] w0 fun e w' => e = .returned (.bool true) ∧ Below w0.heap.size w0 w' := by
  by_cases hbig : 100 < l.length
  · obtain ⟨ao, cap, rfl, _⟩ := hl
    exact tries_big hbig
  have t1 : decide ((100 : Int) < (l.length : Int)) = false := decide_eq_false (by omega)
  have hl' : (l.length : Int) ≤ 100 := by omega
  have HL := Lib.hid hl
  have h100 : l.length ≤ 100 := by omega
  obtain ⟨ao, cap, rfl, _⟩ := hl
  have hnew := new_eq w0 x0 x1
  have hrnew := rnew_eq (newW w0 (winN x0) (roomN x1)) x0 x1
  have hT0 : Tw w0 ((newW w0 (winN x0) (roomN x1)).alloc (rBox (winN x0) (roomN x1))) (winN x0) (roomN x1) [] [] 0 := by
    have hb := new_below w0 (winN x0) (roomN x1)
    refine ⟨(new_st w0 (win_bd _ hx0).1 (win_bd _ hx0).2).below (below_alloc _ _), ?_, hb.trans ((below_alloc _ _).mono hb.size), Nat.le_refl _⟩
    have := rnew_st (newW w0 (winN x0) (roomN x1)) (a := winN x0) (b := roomN x1) (win_bd _ hx0).1 (win_bd _ hx0).2
    rw [show (newW w0 (winN x0) (roomN x1)).heap.size = w0.heap.size + 1 + 1 by simp] at this
    exact this
  rw [show (newW w0 (winN x0) (roomN x1)).heap.size = w0.heap.size + 1 + 1 by simp] at hrnew
  clear hbig
  go_enter Try.func3, Try.ntmps3
  go_wp2_with (first
    | (go_at_call 9; refine hnew.mono ?_; rintro e w1 ⟨rfl, rfl⟩)
    | (go_at_call 10; refine hrnew.mono ?_; rintro e w1 ⟨rfl, rfl⟩))
  go_loopw [9] (fun i wr => ∃ (k : Nat) (L : List Sp), i = .int .i64 k ∧ k ≤ l.length ∧ Tw w0 wr (winN x0) (roomN x1) L L k) (fun i _ => l.length - (intOf i).toNat)
  case atStart => exact ⟨0, [], rfl, by omega, hT0⟩
  case round =>
    clear hT0 hnew hrnew
    obtain ⟨k, L, rfl, hk, hT⟩ := hrel
    have hk' : (k : Int) ≤ (l.length : Int) := by omega
    by_cases hlt : k < l.length
    · have hlt' : (k : Int) < (l.length : Int) := by omega
      rcases HL.out.cases with ⟨h0, _⟩ | ⟨b, off, cap2, hv, _, _, h5⟩
      · rw [h0] at hlt; simp at hlt
      simp only [Value.slice.injEq, true_and] at hv
      obtain ⟨rfl, rfl⟩ := hv
      obtain ⟨s, _, y1, y2, y3, hi1, hi2, hi3⟩ := h5 k hlt
      obtain ⟨n, m, t⟩ := s
      dsimp only at y1 y2 y3 hi1 hi2 hi3
      have HX := Lib.hid (And.intro y1 (And.intro y2 y3))
      have hx := acts_keep HX.out (hT.below (w1 := wr.drew) ⟨rfl, rfl, rfl, Nat.le_refl _, fun _ _ => rfl⟩).bel
      have HT := Lib.hid (hT.below (w1 := wr.drew) ⟨rfl, rfl, rfl, Nat.le_refl _, fun _ _ => rfl⟩)
      have htry := try_any HT.out.st (by have := hT.len; omega) (n := n) (made := m) (now := t) hi1 hi2 hi3
      have hlen : L.length ≤ 100 := by have := hT.len; omega
      clear y1 y2 y3 h5 hT
      go_wp2_with fail
      refine wp_region_held_drew (S := fun w' : World => w'.cell? ⟨b, off + k * 3, none⟩ = some (.int .i64 n) ∧ w'.cell? ⟨b, off + k * 3 + 1, none⟩ = some (.int .i64 m) ∧ w'.cell? ⟨b, off + k * 3 + 2, none⟩ = some (.int .i64 t)) (by kernel_rfl) hx (fun hHeld => ?_)
      refine wpAnyH_take (i := 0) (oi := { dst := some 26, op := Op.move (Operand.tmp 7), type := 23, pos := "law.go:26", after := #[], guard := none }) (v := ?_) rfl (by kernel_rfl) (by kernel_rfl) (by kernel_rfl) (fun _ _ _ h => h) (Or.inl ⟨by rfl, ?_⟩) (by assumption) ?_
      rotate_left
      · intro w hSw; (try dsimp only at hSw); go_simp; try (with_reducible rfl)
      repeat (first | simp only [Act.put] | simp only [List.setIfInBounds_toArray] | simp only [List.set_cons_zero] | simp only [List.set_cons_succ])
      refine wpAnyH_take (i := 1) (oi := { dst := some 27, op := Op.move (Operand.tmp 2), type := 22, pos := "law.go:26", after := #[], guard := none }) (v := ?_) rfl (by kernel_rfl) (by kernel_rfl) (by kernel_rfl) (fun _ _ _ h => h) (Or.inl ⟨by rfl, ?_⟩) (by assumption) ?_
      rotate_left
      · intro w hSw; (try dsimp only at hSw); go_simp; try (with_reducible rfl)
      repeat (first | simp only [Act.put] | simp only [List.setIfInBounds_toArray] | simp only [List.set_cons_zero] | simp only [List.set_cons_succ])
      refine wpAnyH_take (i := 2) (oi := { dst := some 28, op := Op.move (Operand.tmp 9), type := 3, pos := "law.go:26", after := #[], guard := none }) (v := ?_) rfl (by kernel_rfl) (by kernel_rfl) (by kernel_rfl) (fun _ _ _ h => h) (Or.inl ⟨by rfl, ?_⟩) (by assumption) ?_
      rotate_left
      · intro w hSw; (try dsimp only at hSw); go_simp; try (with_reducible rfl)
      repeat (first | simp only [Act.put] | simp only [List.setIfInBounds_toArray] | simp only [List.set_cons_zero] | simp only [List.set_cons_succ])
      refine wpAnyH_take (i := 3) (oi := { dst := some 29, op := Op.indexAddr 22 (Operand.tmp 27) (Operand.tmp 28), type := 0, pos := "law.go:26", after := #[{ on := 1, ground := Ground.data }, { on := 2, ground := Ground.data }], guard := none }) (v := ?_) rfl (by kernel_rfl) (by kernel_rfl) (by kernel_rfl) (fun _ _ _ h => h) (Or.inl ⟨by rfl, ?_⟩) (by assumption) ?_
      rotate_left
      · intro w hSw; (try dsimp only at hSw); go_simp; try (with_reducible rfl)
      repeat (first | simp only [Act.put] | simp only [List.setIfInBounds_toArray] | simp only [List.set_cons_zero] | simp only [List.set_cons_succ])
      refine wpAnyH_take (i := 4) (oi := { dst := some 30, op := Op.fieldAddr 31 (Operand.tmp 29) 0, type := 0, pos := "law.go:26", after := #[{ on := 3, ground := Ground.data }], guard := none }) (v := ?_) rfl (by kernel_rfl) (by kernel_rfl) (by kernel_rfl) (fun _ _ _ h => h) (Or.inl ⟨by rfl, ?_⟩) (by assumption) ?_
      rotate_left
      · intro w hSw; (try dsimp only at hSw); go_simp; try (with_reducible rfl)
      repeat (first | simp only [Act.put] | simp only [List.setIfInBounds_toArray] | simp only [List.set_cons_zero] | simp only [List.set_cons_succ])
      refine wpAnyH_take (i := 5) (oi := { dst := some 31, op := Op.load 3 (Operand.tmp 30), type := 3, pos := "law.go:26", after := #[{ on := 4, ground := Ground.data }], guard := none }) (v := ?_) rfl (by kernel_rfl) (by kernel_rfl) (by kernel_rfl) (fun _ _ _ h => h) (Or.inl ⟨by rfl, ?_⟩) (by assumption) ?_
      rotate_left
      · intro w hSw; (try dsimp only at hSw); go_simp; try (with_reducible rfl)
      repeat (first | simp only [Act.put] | simp only [List.setIfInBounds_toArray] | simp only [List.set_cons_zero] | simp only [List.set_cons_succ])
      refine wpAnyH_take (i := 6) (oi := { dst := some 32, op := Op.move (Operand.tmp 2), type := 22, pos := "law.go:26", after := #[], guard := none }) (v := ?_) rfl (by kernel_rfl) (by kernel_rfl) (by kernel_rfl) (fun _ _ _ h => h) (Or.inl ⟨by rfl, ?_⟩) (by assumption) ?_
      rotate_left
      · intro w hSw; (try dsimp only at hSw); go_simp; try (with_reducible rfl)
      repeat (first | simp only [Act.put] | simp only [List.setIfInBounds_toArray] | simp only [List.set_cons_zero] | simp only [List.set_cons_succ])
      refine wpAnyH_take (i := 7) (oi := { dst := some 33, op := Op.move (Operand.tmp 9), type := 3, pos := "law.go:26", after := #[], guard := none }) (v := ?_) rfl (by kernel_rfl) (by kernel_rfl) (by kernel_rfl) (fun _ _ _ h => h) (Or.inl ⟨by rfl, ?_⟩) (by assumption) ?_
      rotate_left
      · intro w hSw; (try dsimp only at hSw); go_simp; try (with_reducible rfl)
      repeat (first | simp only [Act.put] | simp only [List.setIfInBounds_toArray] | simp only [List.set_cons_zero] | simp only [List.set_cons_succ])
      refine wpAnyH_take (i := 8) (oi := { dst := some 34, op := Op.indexAddr 22 (Operand.tmp 32) (Operand.tmp 33), type := 0, pos := "law.go:26", after := #[{ on := 6, ground := Ground.data }, { on := 7, ground := Ground.data }], guard := none }) (v := ?_) rfl (by kernel_rfl) (by kernel_rfl) (by kernel_rfl) (fun _ _ _ h => h) (Or.inl ⟨by rfl, ?_⟩) (by assumption) ?_
      rotate_left
      · intro w hSw; (try dsimp only at hSw); go_simp; try (with_reducible rfl)
      repeat (first | simp only [Act.put] | simp only [List.setIfInBounds_toArray] | simp only [List.set_cons_zero] | simp only [List.set_cons_succ])
      refine wpAnyH_take (i := 9) (oi := { dst := some 35, op := Op.fieldAddr 31 (Operand.tmp 34) 1, type := 0, pos := "law.go:26", after := #[{ on := 8, ground := Ground.data }], guard := none }) (v := ?_) rfl (by kernel_rfl) (by kernel_rfl) (by kernel_rfl) (fun _ _ _ h => h) (Or.inl ⟨by rfl, ?_⟩) (by assumption) ?_
      rotate_left
      · intro w hSw; (try dsimp only at hSw); go_simp; try (with_reducible rfl)
      repeat (first | simp only [Act.put] | simp only [List.setIfInBounds_toArray] | simp only [List.set_cons_zero] | simp only [List.set_cons_succ])
      refine wpAnyH_take (i := 10) (oi := { dst := some 36, op := Op.load 3 (Operand.tmp 35), type := 3, pos := "law.go:26", after := #[{ on := 9, ground := Ground.data }], guard := none }) (v := ?_) rfl (by kernel_rfl) (by kernel_rfl) (by kernel_rfl) (fun _ _ _ h => h) (Or.inl ⟨by rfl, ?_⟩) (by assumption) ?_
      rotate_left
      · intro w hSw; (try dsimp only at hSw); go_simp; try (with_reducible rfl)
      repeat (first | simp only [Act.put] | simp only [List.setIfInBounds_toArray] | simp only [List.set_cons_zero] | simp only [List.set_cons_succ])
      refine wpAnyH_take (i := 11) (oi := { dst := some 37, op := Op.move (Operand.tmp 2), type := 22, pos := "law.go:26", after := #[], guard := none }) (v := ?_) rfl (by kernel_rfl) (by kernel_rfl) (by kernel_rfl) (fun _ _ _ h => h) (Or.inl ⟨by rfl, ?_⟩) (by assumption) ?_
      rotate_left
      · intro w hSw; (try dsimp only at hSw); go_simp; try (with_reducible rfl)
      repeat (first | simp only [Act.put] | simp only [List.setIfInBounds_toArray] | simp only [List.set_cons_zero] | simp only [List.set_cons_succ])
      refine wpAnyH_take (i := 12) (oi := { dst := some 38, op := Op.move (Operand.tmp 9), type := 3, pos := "law.go:26", after := #[], guard := none }) (v := ?_) rfl (by kernel_rfl) (by kernel_rfl) (by kernel_rfl) (fun _ _ _ h => h) (Or.inl ⟨by rfl, ?_⟩) (by assumption) ?_
      rotate_left
      · intro w hSw; (try dsimp only at hSw); go_simp; try (with_reducible rfl)
      repeat (first | simp only [Act.put] | simp only [List.setIfInBounds_toArray] | simp only [List.set_cons_zero] | simp only [List.set_cons_succ])
      refine wpAnyH_take (i := 13) (oi := { dst := some 39, op := Op.indexAddr 22 (Operand.tmp 37) (Operand.tmp 38), type := 0, pos := "law.go:26", after := #[{ on := 11, ground := Ground.data }, { on := 12, ground := Ground.data }], guard := none }) (v := ?_) rfl (by kernel_rfl) (by kernel_rfl) (by kernel_rfl) (fun _ _ _ h => h) (Or.inl ⟨by rfl, ?_⟩) (by assumption) ?_
      rotate_left
      · intro w hSw; (try dsimp only at hSw); go_simp; try (with_reducible rfl)
      repeat (first | simp only [Act.put] | simp only [List.setIfInBounds_toArray] | simp only [List.set_cons_zero] | simp only [List.set_cons_succ])
      refine wpAnyH_take (i := 14) (oi := { dst := some 40, op := Op.fieldAddr 31 (Operand.tmp 39) 2, type := 0, pos := "law.go:26", after := #[{ on := 13, ground := Ground.data }], guard := none }) (v := ?_) rfl (by kernel_rfl) (by kernel_rfl) (by kernel_rfl) (fun _ _ _ h => h) (Or.inl ⟨by rfl, ?_⟩) (by assumption) ?_
      rotate_left
      · intro w hSw; (try dsimp only at hSw); go_simp; try (with_reducible rfl)
      repeat (first | simp only [Act.put] | simp only [List.setIfInBounds_toArray] | simp only [List.set_cons_zero] | simp only [List.set_cons_succ])
      refine wpAnyH_take (i := 15) (oi := { dst := some 41, op := Op.load 3 (Operand.tmp 40), type := 3, pos := "law.go:26", after := #[{ on := 14, ground := Ground.data }], guard := none }) (v := ?_) rfl (by kernel_rfl) (by kernel_rfl) (by kernel_rfl) (fun _ _ _ h => h) (Or.inl ⟨by rfl, ?_⟩) (by assumption) ?_
      rotate_left
      · intro w hSw; (try dsimp only at hSw); go_simp; try (with_reducible rfl)
      repeat (first | simp only [Act.put] | simp only [List.setIfInBounds_toArray] | simp only [List.set_cons_zero] | simp only [List.set_cons_succ])
      refine wpAnyH_take (i := 17) (oi := { dst := some 43, op := Op.move (Operand.tmp 8), type := 25, pos := "law.go:26", after := #[], guard := none }) (v := ?_) rfl (by kernel_rfl) (by kernel_rfl) (by kernel_rfl) (fun _ _ _ h => h) (Or.inl ⟨by rfl, ?_⟩) (by assumption) ?_
      rotate_left
      · intro w hSw; (try dsimp only at hSw); go_simp; try (with_reducible rfl)
      repeat (first | simp only [Act.put] | simp only [List.setIfInBounds_toArray] | simp only [List.set_cons_zero] | simp only [List.set_cons_succ])
      refine wpAnyH_take (i := 18) (oi := { dst := some 44, op := Op.move (Operand.tmp 2), type := 22, pos := "law.go:26", after := #[], guard := none }) (v := ?_) rfl (by kernel_rfl) (by kernel_rfl) (by kernel_rfl) (fun _ _ _ h => h) (Or.inl ⟨by rfl, ?_⟩) (by assumption) ?_
      rotate_left
      · intro w hSw; (try dsimp only at hSw); go_simp; try (with_reducible rfl)
      repeat (first | simp only [Act.put] | simp only [List.setIfInBounds_toArray] | simp only [List.set_cons_zero] | simp only [List.set_cons_succ])
      refine wpAnyH_take (i := 19) (oi := { dst := some 45, op := Op.move (Operand.tmp 9), type := 3, pos := "law.go:26", after := #[], guard := none }) (v := ?_) rfl (by kernel_rfl) (by kernel_rfl) (by kernel_rfl) (fun _ _ _ h => h) (Or.inl ⟨by rfl, ?_⟩) (by assumption) ?_
      rotate_left
      · intro w hSw; (try dsimp only at hSw); go_simp; try (with_reducible rfl)
      repeat (first | simp only [Act.put] | simp only [List.setIfInBounds_toArray] | simp only [List.set_cons_zero] | simp only [List.set_cons_succ])
      refine wpAnyH_take (i := 20) (oi := { dst := some 46, op := Op.indexAddr 22 (Operand.tmp 44) (Operand.tmp 45), type := 0, pos := "law.go:26", after := #[{ on := 18, ground := Ground.data }, { on := 19, ground := Ground.data }], guard := none }) (v := ?_) rfl (by kernel_rfl) (by kernel_rfl) (by kernel_rfl) (fun _ _ _ h => h) (Or.inl ⟨by rfl, ?_⟩) (by assumption) ?_
      rotate_left
      · intro w hSw; (try dsimp only at hSw); go_simp; try (with_reducible rfl)
      repeat (first | simp only [Act.put] | simp only [List.setIfInBounds_toArray] | simp only [List.set_cons_zero] | simp only [List.set_cons_succ])
      refine wpAnyH_take (i := 21) (oi := { dst := some 47, op := Op.fieldAddr 31 (Operand.tmp 46) 0, type := 0, pos := "law.go:26", after := #[{ on := 20, ground := Ground.data }], guard := none }) (v := ?_) rfl (by kernel_rfl) (by kernel_rfl) (by kernel_rfl) (fun _ _ _ h => h) (Or.inl ⟨by rfl, ?_⟩) (by assumption) ?_
      rotate_left
      · intro w hSw; (try dsimp only at hSw); go_simp; try (with_reducible rfl)
      repeat (first | simp only [Act.put] | simp only [List.setIfInBounds_toArray] | simp only [List.set_cons_zero] | simp only [List.set_cons_succ])
      refine wpAnyH_take (i := 22) (oi := { dst := some 48, op := Op.load 3 (Operand.tmp 47), type := 3, pos := "law.go:26", after := #[{ on := 21, ground := Ground.data }], guard := none }) (v := ?_) rfl (by kernel_rfl) (by kernel_rfl) (by kernel_rfl) (fun _ _ _ h => h) (Or.inl ⟨by rfl, ?_⟩) (by assumption) ?_
      rotate_left
      · intro w hSw; (try dsimp only at hSw); go_simp; try (with_reducible rfl)
      repeat (first | simp only [Act.put] | simp only [List.setIfInBounds_toArray] | simp only [List.set_cons_zero] | simp only [List.set_cons_succ])
      refine wpAnyH_take (i := 23) (oi := { dst := some 49, op := Op.move (Operand.tmp 2), type := 22, pos := "law.go:26", after := #[], guard := none }) (v := ?_) rfl (by kernel_rfl) (by kernel_rfl) (by kernel_rfl) (fun _ _ _ h => h) (Or.inl ⟨by rfl, ?_⟩) (by assumption) ?_
      rotate_left
      · intro w hSw; (try dsimp only at hSw); go_simp; try (with_reducible rfl)
      repeat (first | simp only [Act.put] | simp only [List.setIfInBounds_toArray] | simp only [List.set_cons_zero] | simp only [List.set_cons_succ])
      refine wpAnyH_take (i := 24) (oi := { dst := some 50, op := Op.move (Operand.tmp 9), type := 3, pos := "law.go:26", after := #[], guard := none }) (v := ?_) rfl (by kernel_rfl) (by kernel_rfl) (by kernel_rfl) (fun _ _ _ h => h) (Or.inl ⟨by rfl, ?_⟩) (by assumption) ?_
      rotate_left
      · intro w hSw; (try dsimp only at hSw); go_simp; try (with_reducible rfl)
      repeat (first | simp only [Act.put] | simp only [List.setIfInBounds_toArray] | simp only [List.set_cons_zero] | simp only [List.set_cons_succ])
      refine wpAnyH_take (i := 25) (oi := { dst := some 51, op := Op.indexAddr 22 (Operand.tmp 49) (Operand.tmp 50), type := 0, pos := "law.go:26", after := #[{ on := 23, ground := Ground.data }, { on := 24, ground := Ground.data }], guard := none }) (v := ?_) rfl (by kernel_rfl) (by kernel_rfl) (by kernel_rfl) (fun _ _ _ h => h) (Or.inl ⟨by rfl, ?_⟩) (by assumption) ?_
      rotate_left
      · intro w hSw; (try dsimp only at hSw); go_simp; try (with_reducible rfl)
      repeat (first | simp only [Act.put] | simp only [List.setIfInBounds_toArray] | simp only [List.set_cons_zero] | simp only [List.set_cons_succ])
      refine wpAnyH_take (i := 26) (oi := { dst := some 52, op := Op.fieldAddr 31 (Operand.tmp 51) 1, type := 0, pos := "law.go:26", after := #[{ on := 25, ground := Ground.data }], guard := none }) (v := ?_) rfl (by kernel_rfl) (by kernel_rfl) (by kernel_rfl) (fun _ _ _ h => h) (Or.inl ⟨by rfl, ?_⟩) (by assumption) ?_
      rotate_left
      · intro w hSw; (try dsimp only at hSw); go_simp; try (with_reducible rfl)
      repeat (first | simp only [Act.put] | simp only [List.setIfInBounds_toArray] | simp only [List.set_cons_zero] | simp only [List.set_cons_succ])
      refine wpAnyH_take (i := 27) (oi := { dst := some 53, op := Op.load 3 (Operand.tmp 52), type := 3, pos := "law.go:26", after := #[{ on := 26, ground := Ground.data }], guard := none }) (v := ?_) rfl (by kernel_rfl) (by kernel_rfl) (by kernel_rfl) (fun _ _ _ h => h) (Or.inl ⟨by rfl, ?_⟩) (by assumption) ?_
      rotate_left
      · intro w hSw; (try dsimp only at hSw); go_simp; try (with_reducible rfl)
      repeat (first | simp only [Act.put] | simp only [List.setIfInBounds_toArray] | simp only [List.set_cons_zero] | simp only [List.set_cons_succ])
      refine wpAnyH_take (i := 28) (oi := { dst := some 54, op := Op.move (Operand.tmp 2), type := 22, pos := "law.go:26", after := #[], guard := none }) (v := ?_) rfl (by kernel_rfl) (by kernel_rfl) (by kernel_rfl) (fun _ _ _ h => h) (Or.inl ⟨by rfl, ?_⟩) (by assumption) ?_
      rotate_left
      · intro w hSw; (try dsimp only at hSw); go_simp; try (with_reducible rfl)
      repeat (first | simp only [Act.put] | simp only [List.setIfInBounds_toArray] | simp only [List.set_cons_zero] | simp only [List.set_cons_succ])
      refine wpAnyH_take (i := 29) (oi := { dst := some 55, op := Op.move (Operand.tmp 9), type := 3, pos := "law.go:26", after := #[], guard := none }) (v := ?_) rfl (by kernel_rfl) (by kernel_rfl) (by kernel_rfl) (fun _ _ _ h => h) (Or.inl ⟨by rfl, ?_⟩) (by assumption) ?_
      rotate_left
      · intro w hSw; (try dsimp only at hSw); go_simp; try (with_reducible rfl)
      repeat (first | simp only [Act.put] | simp only [List.setIfInBounds_toArray] | simp only [List.set_cons_zero] | simp only [List.set_cons_succ])
      refine wpAnyH_take (i := 30) (oi := { dst := some 56, op := Op.indexAddr 22 (Operand.tmp 54) (Operand.tmp 55), type := 0, pos := "law.go:26", after := #[{ on := 28, ground := Ground.data }, { on := 29, ground := Ground.data }], guard := none }) (v := ?_) rfl (by kernel_rfl) (by kernel_rfl) (by kernel_rfl) (fun _ _ _ h => h) (Or.inl ⟨by rfl, ?_⟩) (by assumption) ?_
      rotate_left
      · intro w hSw; (try dsimp only at hSw); go_simp; try (with_reducible rfl)
      repeat (first | simp only [Act.put] | simp only [List.setIfInBounds_toArray] | simp only [List.set_cons_zero] | simp only [List.set_cons_succ])
      refine wpAnyH_take (i := 31) (oi := { dst := some 57, op := Op.fieldAddr 31 (Operand.tmp 56) 2, type := 0, pos := "law.go:26", after := #[{ on := 30, ground := Ground.data }], guard := none }) (v := ?_) rfl (by kernel_rfl) (by kernel_rfl) (by kernel_rfl) (fun _ _ _ h => h) (Or.inl ⟨by rfl, ?_⟩) (by assumption) ?_
      rotate_left
      · intro w hSw; (try dsimp only at hSw); go_simp; try (with_reducible rfl)
      repeat (first | simp only [Act.put] | simp only [List.setIfInBounds_toArray] | simp only [List.set_cons_zero] | simp only [List.set_cons_succ])
      refine wpAnyH_take (i := 32) (oi := { dst := some 58, op := Op.load 3 (Operand.tmp 57), type := 3, pos := "law.go:26", after := #[{ on := 31, ground := Ground.data }], guard := none }) (v := ?_) rfl (by kernel_rfl) (by kernel_rfl) (by kernel_rfl) (fun _ _ _ h => h) (Or.inl ⟨by rfl, ?_⟩) (by assumption) ?_
      rotate_left
      · intro w hSw; (try dsimp only at hSw); go_simp; try (with_reducible rfl)
      repeat (first | simp only [Act.put] | simp only [List.setIfInBounds_toArray] | simp only [List.set_cons_zero] | simp only [List.set_cons_succ])
      refine wpAnyH_ready (rs := [16]) (by kernel_rfl) (by simp) ?_
      refine AllReadyH.cons (o := { dst := some 42, op := Op.call { callee := Callee.value (Operand.func 11), args := #[Operand.tmp 26, Operand.tmp 31, Operand.tmp 36, Operand.tmp 41], argTypes := #[23, 29, 3, 3] }, type := 27, pos := "law.go:26", after := #[{ on := 0, ground := Ground.data }, { on := 5, ground := Ground.data }, { on := 10, ground := Ground.data }, { on := 15, ground := Ground.data }], guard := none }) rfl (fun K hK => ?_) AllReadyH.nil
      go_simp
      refine htry.mono ?_
      rintro e w1 ⟨rfl, hS1, hb1⟩
      have h1 := Lib.hid (tw_one HT.out hS1 hb1)
      have c1 := acts_keep HX.out h1.out.bel
      have hr := rt_any h1.out.ref (by have := h1.out.len; omega) (n := n) (made := m) (now := t) hi2 hi3
      clear hS1 hb1
      refine hK.out _ _ ?_ (fun hHeld => ?_)
      · exact c1
      clear hK K
      repeat (first | simp only [Act.put] | simp only [List.setIfInBounds_toArray] | simp only [List.set_cons_zero] | simp only [List.set_cons_succ])
      refine wpAnyH_ready (rs := [33]) (by kernel_rfl) (by simp) ?_
      refine AllReadyH.cons (o := { dst := some 59, op := Op.call { callee := Callee.value (Operand.func 12), args := #[Operand.tmp 43, Operand.tmp 48, Operand.tmp 53, Operand.tmp 58], argTypes := #[25, 3, 3, 3] }, type := 3, pos := "law.go:26", after := #[{ on := 17, ground := Ground.data }, { on := 22, ground := Ground.data }, { on := 27, ground := Ground.data }, { on := 32, ground := Ground.data }, { on := 16, ground := Ground.chain }], guard := none }) rfl (fun K hK => ?_) AllReadyH.nil
      go_simp
      refine hr.mono ?_
      rintro e w2 ⟨rfl, hS2, hb2⟩
      have h2 := Lib.hid (tw_two h1.out hS2 hb2)
      have c2 := acts_keep HX.out h2.out.bel
      have hmm := many_any h2.out.st
      clear hS2 hb2 hr
      refine hK.out _ _ ?_ (fun hHeld => ?_)
      · exact c2
      clear hK K
      repeat (first | simp only [Act.put] | simp only [List.setIfInBounds_toArray] | simp only [List.set_cons_zero] | simp only [List.set_cons_succ])
      refine wpAnyH_take (i := 34) (oi := { dst := some 60, op := Op.binOp BinOp.neq 3 (Operand.tmp 42) (Operand.tmp 59) 3, type := 4, pos := "law.go:26", after := #[{ on := 16, ground := Ground.data }, { on := 33, ground := Ground.data }], guard := none }) (v := ?_) rfl (by kernel_rfl) (by kernel_rfl) (by kernel_rfl) (fun _ _ _ h => h) (Or.inl ⟨by rfl, ?_⟩) (by assumption) ?_
      rotate_left
      · intro w hSw; (try dsimp only at hSw); go_simp; try (with_reducible rfl)
      repeat (first | simp only [Act.put] | simp only [List.setIfInBounds_toArray] | simp only [List.set_cons_zero] | simp only [List.set_cons_succ])
      refine wpAnyH_take (i := 35) (oi := { dst := some 61, op := Op.move (Operand.tmp 60), type := 4, pos := "law.go:26", after := #[{ on := 34, ground := Ground.data }, { on := 33, ground := Ground.chain }], guard := none }) (v := ?_) rfl (by kernel_rfl) (by kernel_rfl) (by kernel_rfl) (fun _ _ _ h => h) (Or.inl ⟨by rfl, ?_⟩) (by assumption) ?_
      rotate_left
      · intro w hSw; (try dsimp only at hSw); go_simp; try (with_reducible rfl)
      repeat (first | simp only [Act.put] | simp only [List.setIfInBounds_toArray] | simp only [List.set_cons_zero] | simp only [List.set_cons_succ])
      refine wpAnyH_take (i := 36) (oi := { dst := some 62, op := Op.move (Operand.tmp 7), type := 23, pos := "law.go:26", after := #[{ on := 35, ground := Ground.guard }], guard := some (35, false) }) (v := ?_) rfl (by kernel_rfl) (by kernel_rfl) (by kernel_rfl) (fun _ _ _ h => h) (Or.inl ⟨by rfl, ?_⟩) (by assumption) ?_
      rotate_left
      · intro w hSw; (try dsimp only at hSw); go_simp; try (with_reducible rfl)
      repeat (first | simp only [Act.put] | simp only [List.setIfInBounds_toArray] | simp only [List.set_cons_zero] | simp only [List.set_cons_succ])
      refine wpAnyH_take (i := 38) (oi := { dst := some 64, op := Op.move (Operand.tmp 8), type := 25, pos := "law.go:26", after := #[{ on := 35, ground := Ground.guard }], guard := some (35, false) }) (v := ?_) rfl (by kernel_rfl) (by kernel_rfl) (by kernel_rfl) (fun _ _ _ h => h) (Or.inl ⟨by rfl, ?_⟩) (by assumption) ?_
      rotate_left
      · intro w hSw; (try dsimp only at hSw); go_simp; try (with_reducible rfl)
      repeat (first | simp only [Act.put] | simp only [List.setIfInBounds_toArray] | simp only [List.set_cons_zero] | simp only [List.set_cons_succ])
      refine wpAnyH_take (i := 39) (oi := { dst := some 65, op := Op.nilCheck (Operand.tmp 64), type := 0, pos := "law.go:26", after := #[{ on := 38, ground := Ground.data }, { on := 35, ground := Ground.guard }], guard := some (35, false) }) (v := ?_) rfl (by kernel_rfl) (by kernel_rfl) (by kernel_rfl) (fun _ _ _ h => h) (Or.inl ⟨by rfl, ?_⟩) (by assumption) ?_
      rotate_left
      · intro w hSw; (try dsimp only at hSw); go_simp; try (with_reducible rfl)
      repeat (first | simp only [Act.put] | simp only [List.setIfInBounds_toArray] | simp only [List.set_cons_zero] | simp only [List.set_cons_succ])
      obtain ⟨v3, hbx3, how3⟩ := h2.out.ref.inner
      obtain ⟨a3, c3, hv3⟩ := own_shape2 how3
      subst hv3
      have hd3 := (rbox_cells hbx3).2.2.1
      clear hbx3 how3
      refine wpAnyH_switch (S' := fun w' : World => (fun w' : World => w'.cell? ⟨b, off + k * 3, none⟩ = some (.int .i64 n) ∧ w'.cell? ⟨b, off + k * 3 + 1, none⟩ = some (.int .i64 m) ∧ w'.cell? ⟨b, off + k * 3 + 2, none⟩ = some (.int .i64 t)) w' ∧ w'.cell? ⟨w0.heap.size + 1 + 1, 2, none⟩ = some (.slice a3 (tryL (winN x0) (roomN x1) L n m t).length c3)) (fun _ h => h.1) ?_
      have hHeld2 : (fun w' : World => (fun w' : World => w'.cell? ⟨b, off + k * 3, none⟩ = some (.int .i64 n) ∧ w'.cell? ⟨b, off + k * 3 + 1, none⟩ = some (.int .i64 m) ∧ w'.cell? ⟨b, off + k * 3 + 2, none⟩ = some (.int .i64 t)) w' ∧ w'.cell? ⟨w0.heap.size + 1 + 1, 2, none⟩ = some (.slice a3 (tryL (winN x0) (roomN x1) L n m t).length c3)) w2 := ⟨c2, hd3⟩
      refine wpAnyH_take (i := 40) (oi := { dst := some 66, op := Op.fieldAddr 36 (Operand.tmp 65) 2, type := 0, pos := "law.go:26", after := #[{ on := 39, ground := Ground.data }, { on := 35, ground := Ground.guard }], guard := some (35, false) }) (v := ?_) rfl (by kernel_rfl) (by kernel_rfl) (by kernel_rfl) (fun _ _ _ h => h) (Or.inl ⟨by rfl, ?_⟩) (by assumption) ?_
      rotate_left
      · intro w hSw; (try dsimp only at hSw); go_simp; try (with_reducible rfl)
      repeat (first | simp only [Act.put] | simp only [List.setIfInBounds_toArray] | simp only [List.set_cons_zero] | simp only [List.set_cons_succ])
      refine wpAnyH_take (i := 41) (oi := { dst := some 67, op := Op.load 34 (Operand.tmp 66), type := 34, pos := "law.go:26", after := #[{ on := 40, ground := Ground.data }, { on := 35, ground := Ground.guard }], guard := some (35, false) }) (v := ?_) rfl (by kernel_rfl) (by kernel_rfl) (by kernel_rfl) (fun _ _ _ h => h) (Or.inl ⟨by rfl, ?_⟩) (by assumption) ?_
      rotate_left
      · intro w hSw; (try dsimp only at hSw); go_simp; try (with_reducible rfl)
      repeat (first | simp only [Act.put] | simp only [List.setIfInBounds_toArray] | simp only [List.set_cons_zero] | simp only [List.set_cons_succ])
      refine wpAnyH_take (i := 42) (oi := { dst := some 68, op := Op.call { callee := Callee.builtin Builtin.len, args := #[Operand.tmp 67], argTypes := #[34] }, type := 3, pos := "law.go:26", after := #[{ on := 41, ground := Ground.data }, { on := 35, ground := Ground.guard }], guard := some (35, false) }) (v := ?_) rfl (by kernel_rfl) (by kernel_rfl) (by kernel_rfl) (fun _ _ _ h => h) (Or.inl ⟨by rfl, ?_⟩) (by assumption) ?_
      rotate_left
      · intro w hSw; (try dsimp only at hSw); go_simp; try (with_reducible rfl)
      repeat (first | simp only [Act.put] | simp only [List.setIfInBounds_toArray] | simp only [List.set_cons_zero] | simp only [List.set_cons_succ])
      refine wpAnyH_ready (rs := [37]) (by kernel_rfl) (by simp) ?_
      refine AllReadyH.cons (o := { dst := some 63, op := Op.call { callee := Callee.value (Operand.func 13), args := #[Operand.tmp 62], argTypes := #[23] }, type := 3, pos := "law.go:26", after := #[{ on := 36, ground := Ground.data }, { on := 35, ground := Ground.chain }, { on := 35, ground := Ground.guard }], guard := some (35, false) }) rfl (fun K hK => ?_) AllReadyH.nil
      go_simp
      refine hmm.mono ?_
      rintro e w' ⟨rfl, rfl⟩
      refine hK.out _ _ ?_ (fun hHeld => ?_)
      · exact hHeld2
      clear hK K
      repeat (first | simp only [Act.put] | simp only [List.setIfInBounds_toArray] | simp only [List.set_cons_zero] | simp only [List.set_cons_succ])
      refine wpAnyH_take (i := 43) (oi := { dst := some 69, op := Op.binOp BinOp.neq 3 (Operand.tmp 63) (Operand.tmp 68) 3, type := 4, pos := "law.go:26", after := #[{ on := 37, ground := Ground.data }, { on := 42, ground := Ground.data }, { on := 35, ground := Ground.guard }], guard := some (35, false) }) (v := ?_) rfl (by kernel_rfl) (by kernel_rfl) (by kernel_rfl) (fun _ _ _ h => h) (Or.inl ⟨by rfl, ?_⟩) (by assumption) ?_
      rotate_left
      · intro w hSw; (try dsimp only at hSw); go_simp; try (with_reducible rfl)
      repeat (first | simp only [Act.put] | simp only [List.setIfInBounds_toArray] | simp only [List.set_cons_zero] | simp only [List.set_cons_succ])
      refine wpAnyH_take (i := 44) (oi := { dst := some 70, op := Op.pick (Operand.tmp 61) (Operand.const (Value.bool true)) (Operand.tmp 69), type := 4, pos := "law.go:26", after := #[{ on := 35, ground := Ground.data }, { on := 43, ground := Ground.data }], guard := none }) (v := ?_) rfl (by kernel_rfl) (by kernel_rfl) (by kernel_rfl) (fun _ _ _ h => h) (Or.inl ⟨by rfl, ?_⟩) (by assumption) ?_
      rotate_left
      · intro w hSw; (try dsimp only at hSw); go_simp; try (with_reducible rfl)
      repeat (first | simp only [Act.put] | simp only [List.setIfInBounds_toArray] | simp only [List.set_cons_zero] | simp only [List.set_cons_succ])
      refine wpAnyH_done (by kernel_rfl) ?_ _
      go_wp2_with fail
      go_roundw
      case rel => exact ⟨k + 1, _, by go_num, by omega, h2.out⟩
      case measure => simp [intOf]; omega
    · obtain rfl : k = l.length := by omega
      have hbel := hT.bel
      have hn1 := try_arg (w := wr) (p := none) (n := 1) (made := 0) (now := 0) (Or.inl rfl)
      have hn2 := many_nil wr
      clear hT
      go_wp2_with (first
        | (go_at_call 11; refine hn1.mono ?_; rintro e w' ⟨rfl, rfl⟩)
        | (go_at_call 13; refine hn2.mono ?_; rintro e w' ⟨rfl, rfl⟩)
        | (go_at_call 14; refine (sawake_any _).mono ?_; rintro e w4 ⟨rfl, b4⟩))
      go_ret
      exact ⟨rfl, hbel.trans (b4.mono hbel.size)⟩
end Go.Proofs.Ytallpkchhkdanaa
