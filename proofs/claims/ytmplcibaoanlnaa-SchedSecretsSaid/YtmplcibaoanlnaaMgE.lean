/- What a term lacks, by the word of a closure (made as MgD). -/
import Derived.Test.YtmplcibaoanlnaaMgD
namespace Go.Proofs.Ytmplcibaoanlnaa
open Go Go.RowKit

set_option maxHeartbeats 4000000 in
set_option maxRecDepth 20000 in
theorem lacks_c {c : Fx} {w : World} {F : Nat → Prop} {r : Nat → Int → Option Value} {S : MS} (h : Mnd c w F r S) {cn : Int → Bool} {o1 o2 : Nat}
    (hcan : ∀ W, Below w.heap.size w W → ∀ y, (Lit.int .i64 y).wf = true → Calls Try.prog 37 #[.int .i64 y, .pointer (some ⟨o1, 0, none⟩), .pointer (some ⟨o2, 0, none⟩)] W fun e w' => e = .returned (.bool (cn y)) ∧ Below W.heap.size W w')
    {x k : Int} {s : ByteArray} {pv : Value} {ps : List Int} (hp : Rd .i64 w pv ps) (ho : ps ≠ [] → OutF F pv) (hps : ∀ y ∈ ps, (Lit.int .i64 y).wf = true) (h8 : k = 8 → ps.length = 2) (hl : ps.length ≤ 16) :
    Calls Try.prog 40 #[.pointer (some ⟨c.M, 0, none⟩), .int .i64 x, .agg #[.int .i64 k, .string s, pv], .func (.func 37) #[] #[.pointer (some ⟨o1, 0, none⟩), .pointer (some ⟨o2, 0, none⟩)]] w
      fun e w' => ∃ v, e = .returned v ∧ Rd .i64 w' v (lackP S cn x k ps) ∧ OutF F v ∧ Below w.heap.size w w' := by
  obtain ⟨ao, cap, rfl, q1, q2, q3, q4⟩ := hp
  have hbx := below_alloc w (.cells #[.int .i64 k, .string s, .slice ao ps.length cap] 47)
  have hnw := heap_alloc_new w (.cells #[.int .i64 k, .string s, .slice ao ps.length cap] 47)
  have hlt := h.lt
  by_cases h2 : k = 2
  · subst h2
    have e1 : lackP S cn x 2 ps = [x] := rfl
    rw [e1]
    clear hcan h
    go_enter Try.func40, Try.ntmps40
    go_wp2_with fail
    go_ret
    refine ⟨.slice (some ⟨w.heap.size + 1, 0, none⟩) 1 1, rfl, rlit x (by simp), fun a n cp e => ?_, hbx.trans ((below_alloc _ _).mono (by simp))⟩
    cases e
    intro e; have := hlt _ e; simp at this; omega
  · by_cases h8' : k = 8
    · subst h8'
      have hlen := h8 rfl
      obtain ⟨p0, p1, rfl⟩ : ∃ p0 p1, ps = [p0, p1] := by
        match ps, hlen with
        | [a, b], _ => exact ⟨a, b, rfl⟩
      cases ao with
      | none => have := q3 rfl; simp only [List.length_cons, List.length_nil] at q1; omega
      | some ad =>
        have a0 := q4 _ rfl 0 (by simp)
        have a1 := q4 _ rfl 1 (by simp)
        obtain ⟨b, off, spot⟩ := ad
        have hs : spot = none := by simpa [Addr.add] using World.cell?_spot a0
        subst hs
        simp only [Addr.add_lit, Nat.add_zero, List.getD_cons_zero, List.getD_cons_succ] at a0 a1
        have hw0 := hps p0 (by simp)
        have hw1 := hps p1 (by simp)
        have e1 : lackP S cn x 8 [p0, p1] = if (agrP S p0 p1 || agrP S p1 p0) = true then [] else [p0, p1] := rfl
        rw [e1]
        have hm := h.below hbx
        have d2 : (w.alloc (.cells #[.int .i64 8, .string s, .slice (some ⟨b, off, none⟩) 2 cap] 47)).cell? ⟨w.heap.size, 2, none⟩ = some (.slice (some ⟨b, off, none⟩) 2 cap) := by
          have e := heap_alloc_new w (.cells #[.int .i64 8, .string s, .slice (some ⟨b, off, none⟩) 2 cap] 47)
          unfold World.cell?; rw [e]; rfl
        have a0' := keepS hbx a0
        have a1' := keepS hbx a1
        have q1' : (2 : Nat) ≤ cap := by simpa using q1
        have q2' : cap ≤ 9223372036854775807 := by unfold maxLen at q2; exact q2
        have HQ := Lib.hid q4
        have hmd := hm.below (Below.refl _ _).drew
        have hbd := hbx.drew
        have HO := Lib.hid ho
        have HLT := Lib.hid hlt
        simp only [List.length_cons, List.length_nil, Nat.zero_add, Nat.reduceAdd] at hm hbx hnw a0' a1' d2 hmd hbd
        clear hcan q4 q1 q2 hnw ho hlt hps h8 a0 a1 hlen
        have c01 : ∀ W, Mnd c W F r S → Calls Try.prog 47 #[.pointer (some ⟨c.M, 0, none⟩), .int .i64 p0, .int .i64 p1] W fun e w' => e = .returned (.bool (agrP S p0 p1)) ∧ Below W.heap.size W w' := fun W hW => agrees_any hW hw0 hw1
        have c10 : ∀ W, Mnd c W F r S → Calls Try.prog 47 #[.pointer (some ⟨c.M, 0, none⟩), .int .i64 p1, .int .i64 p0] W fun e w' => e = .returned (.bool (agrP S p1 p0)) ∧ Below W.heap.size W w' := fun W hW => agrees_any hW hw1 hw0
        have HH := Lib.hid h.lt
        clear h
        generalize agrP S p0 p1 = A1 at *
        generalize agrP S p1 p0 = A2 at *
        have fin : ∀ W (A3 : Bool), (A1 || A2) = A3 → W.cell? ⟨b, off, none⟩ = some (.int .i64 p0) → W.cell? ⟨b, off + 1, none⟩ = some (.int .i64 p1) → Below w.heap.size w W →
            ∃ v, (.returned (if A3 = true then .slice none 0 0 else .slice (some ⟨b, off, none⟩) 2 cap) : Ending) = .returned v ∧ Rd .i64 W v (if (A1 || A2) = true then [] else [p0, p1]) ∧ OutF F v ∧ Below w.heap.size w W := by
          intro W A3 hA k0 k1 hb
          rw [hA]
          cases A3
          · refine ⟨_, rfl, ⟨some ⟨b, off, none⟩, cap, rfl, q1', by unfold maxLen; omega, (fun e => by cases e), fun a e j hj => ?_⟩, HO.out (by simp), hb⟩
            cases e
            match j, hj with
            | 0, _ => simpa [Addr.add_lit] using k0
            | 1, _ => simpa [Addr.add_lit] using k1
          · exact ⟨_, rfl, Rd.nil _ _, OutF.nil F, hb⟩
        have FIN := Lib.hid fin
        clear fin
        have hSd : Sx F r S c w b off cap p0 p1 (w.alloc (.cells #[.int .i64 8, .string s, .slice (some ⟨b, off, none⟩) 2 cap] 47)).drew := ⟨d2, a0', a1', hmd, hbd⟩
        clear d2 a0' a1' hmd hbd hm hbx
        cases A1
        · cases A2
          · go_enter Try.func40, Try.ntmps40
            go_wp2_with fail
            refine wp_region_held_drew (S := Sx F r S c w b off cap p0 p1) (by kernel_rfl) hSd (fun hHeld => ?_)
            refine wpAnyH_take (i := 0) (oi := { dst := some 19, op := Op.move (Operand.tmp 0), type := 54, pos := "know.go:199", after := #[], guard := none }) (v := ?_) rfl (by kernel_rfl) (by kernel_rfl) (by kernel_rfl) (fun _ _ _ h => h) (Or.inl ⟨by rfl, ?_⟩) (by assumption) ?_
            rotate_left
            · intro w hSw; obtain ⟨s0, s1, s2, _⟩ := hSw; go_simp; try (with_reducible rfl)
            repeat (first | simp only [Act.put] | simp only [List.setIfInBounds_toArray] | simp only [List.set_cons_zero] | simp only [List.set_cons_succ])
            refine wpAnyH_take (i := 1) (oi := { dst := some 20, op := Op.fieldAddr 47 (Operand.tmp 6) 2, type := 0, pos := "know.go:199", after := #[], guard := none }) (v := ?_) rfl (by kernel_rfl) (by kernel_rfl) (by kernel_rfl) (fun _ _ _ h => h) (Or.inl ⟨by rfl, ?_⟩) (by assumption) ?_
            rotate_left
            · intro w hSw; obtain ⟨s0, s1, s2, _⟩ := hSw; go_simp; try (with_reducible rfl)
            repeat (first | simp only [Act.put] | simp only [List.setIfInBounds_toArray] | simp only [List.set_cons_zero] | simp only [List.set_cons_succ])
            refine wpAnyH_take (i := 2) (oi := { dst := some 21, op := Op.load 31 (Operand.tmp 20), type := 31, pos := "know.go:199", after := #[{ on := 1, ground := Ground.data }], guard := none }) (v := ?_) rfl (by kernel_rfl) (by kernel_rfl) (by kernel_rfl) (fun _ _ _ h => h) (Or.inl ⟨by rfl, ?_⟩) (by assumption) ?_
            rotate_left
            · intro w hSw; obtain ⟨s0, s1, s2, _⟩ := hSw; go_simp; try (with_reducible rfl)
            repeat (first | simp only [Act.put] | simp only [List.setIfInBounds_toArray] | simp only [List.set_cons_zero] | simp only [List.set_cons_succ])
            refine wpAnyH_take (i := 3) (oi := { dst := some 22, op := Op.indexAddr 31 (Operand.tmp 21) (Operand.const (Value.int IntKind.i64 0)), type := 0, pos := "know.go:199", after := #[{ on := 2, ground := Ground.data }], guard := none }) (v := ?_) rfl (by kernel_rfl) (by kernel_rfl) (by kernel_rfl) (fun _ _ _ h => h) (Or.inl ⟨by rfl, ?_⟩) (by assumption) ?_
            rotate_left
            · intro w hSw; obtain ⟨s0, s1, s2, _⟩ := hSw; go_simp; try (with_reducible rfl)
            repeat (first | simp only [Act.put] | simp only [List.setIfInBounds_toArray] | simp only [List.set_cons_zero] | simp only [List.set_cons_succ])
            refine wpAnyH_take (i := 4) (oi := { dst := some 23, op := Op.load 26 (Operand.tmp 22), type := 26, pos := "know.go:199", after := #[{ on := 3, ground := Ground.data }], guard := none }) (v := ?_) rfl (by kernel_rfl) (by kernel_rfl) (by kernel_rfl) (fun _ _ _ h => h) (Or.inl ⟨by rfl, ?_⟩) (by assumption) ?_
            rotate_left
            · intro w hSw; obtain ⟨s0, s1, s2, _⟩ := hSw; go_simp; try (with_reducible rfl)
            repeat (first | simp only [Act.put] | simp only [List.setIfInBounds_toArray] | simp only [List.set_cons_zero] | simp only [List.set_cons_succ])
            refine wpAnyH_take (i := 5) (oi := { dst := some 24, op := Op.fieldAddr 47 (Operand.tmp 6) 2, type := 0, pos := "know.go:199", after := #[], guard := none }) (v := ?_) rfl (by kernel_rfl) (by kernel_rfl) (by kernel_rfl) (fun _ _ _ h => h) (Or.inl ⟨by rfl, ?_⟩) (by assumption) ?_
            rotate_left
            · intro w hSw; obtain ⟨s0, s1, s2, _⟩ := hSw; go_simp; try (with_reducible rfl)
            repeat (first | simp only [Act.put] | simp only [List.setIfInBounds_toArray] | simp only [List.set_cons_zero] | simp only [List.set_cons_succ])
            refine wpAnyH_take (i := 6) (oi := { dst := some 25, op := Op.load 31 (Operand.tmp 24), type := 31, pos := "know.go:199", after := #[{ on := 5, ground := Ground.data }], guard := none }) (v := ?_) rfl (by kernel_rfl) (by kernel_rfl) (by kernel_rfl) (fun _ _ _ h => h) (Or.inl ⟨by rfl, ?_⟩) (by assumption) ?_
            rotate_left
            · intro w hSw; obtain ⟨s0, s1, s2, _⟩ := hSw; go_simp; try (with_reducible rfl)
            repeat (first | simp only [Act.put] | simp only [List.setIfInBounds_toArray] | simp only [List.set_cons_zero] | simp only [List.set_cons_succ])
            refine wpAnyH_take (i := 7) (oi := { dst := some 26, op := Op.indexAddr 31 (Operand.tmp 25) (Operand.const (Value.int IntKind.i64 1)), type := 0, pos := "know.go:199", after := #[{ on := 6, ground := Ground.data }], guard := none }) (v := ?_) rfl (by kernel_rfl) (by kernel_rfl) (by kernel_rfl) (fun _ _ _ h => h) (Or.inl ⟨by rfl, ?_⟩) (by assumption) ?_
            rotate_left
            · intro w hSw; obtain ⟨s0, s1, s2, _⟩ := hSw; go_simp; try (with_reducible rfl)
            repeat (first | simp only [Act.put] | simp only [List.setIfInBounds_toArray] | simp only [List.set_cons_zero] | simp only [List.set_cons_succ])
            refine wpAnyH_take (i := 8) (oi := { dst := some 27, op := Op.load 26 (Operand.tmp 26), type := 26, pos := "know.go:199", after := #[{ on := 7, ground := Ground.data }], guard := none }) (v := ?_) rfl (by kernel_rfl) (by kernel_rfl) (by kernel_rfl) (fun _ _ _ h => h) (Or.inl ⟨by rfl, ?_⟩) (by assumption) ?_
            rotate_left
            · intro w hSw; obtain ⟨s0, s1, s2, _⟩ := hSw; go_simp; try (with_reducible rfl)
            repeat (first | simp only [Act.put] | simp only [List.setIfInBounds_toArray] | simp only [List.set_cons_zero] | simp only [List.set_cons_succ])
            refine wpAnyH_ready (rs := [9]) (by kernel_rfl) (by simp) ?_
            refine AllReadyH.cons (o := { dst := some 28, op := Op.call { callee := Callee.value (Operand.func 47), args := #[Operand.tmp 19, Operand.tmp 23, Operand.tmp 27], argTypes := #[54, 26, 26] }, type := 4, pos := "know.go:199", after := #[{ on := 0, ground := Ground.data }, { on := 4, ground := Ground.data }, { on := 8, ground := Ground.data }], guard := none }) rfl (fun K hK => ?_) AllReadyH.nil
            go_simp
            with_reducible refine (c01 _ (Sx.mnd hSd)).mono ?_
            rintro e w1 ⟨rfl, hb1⟩
            have hSd1 := hSd.next hb1
            clear hSd hb1
            refine hK.out _ _ ?_ (fun hHeld => ?_)
            · exact hSd1
            clear hK K
            repeat (first | simp only [Act.put] | simp only [List.setIfInBounds_toArray] | simp only [List.set_cons_zero] | simp only [List.set_cons_succ])
            refine wpAnyH_take (i := 10) (oi := { dst := some 29, op := Op.move (Operand.tmp 28), type := 4, pos := "know.go:199", after := #[{ on := 9, ground := Ground.data }, { on := 9, ground := Ground.chain }], guard := none }) (v := ?_) rfl (by kernel_rfl) (by kernel_rfl) (by kernel_rfl) (fun _ _ _ h => h) (Or.inl ⟨by rfl, ?_⟩) (by assumption) ?_
            rotate_left
            · intro w hSw; obtain ⟨s0, s1, s2, _⟩ := hSw; go_simp; try (with_reducible rfl)
            repeat (first | simp only [Act.put] | simp only [List.setIfInBounds_toArray] | simp only [List.set_cons_zero] | simp only [List.set_cons_succ])
            refine wpAnyH_take (i := 11) (oi := { dst := some 30, op := Op.move (Operand.tmp 0), type := 54, pos := "know.go:199", after := #[{ on := 10, ground := Ground.guard }], guard := some (10, false) }) (v := ?_) rfl (by kernel_rfl) (by kernel_rfl) (by kernel_rfl) (fun _ _ _ h => h) (Or.inl ⟨by rfl, ?_⟩) (by assumption) ?_
            rotate_left
            · intro w hSw; obtain ⟨s0, s1, s2, _⟩ := hSw; go_simp; try (with_reducible rfl)
            repeat (first | simp only [Act.put] | simp only [List.setIfInBounds_toArray] | simp only [List.set_cons_zero] | simp only [List.set_cons_succ])
            refine wpAnyH_take (i := 12) (oi := { dst := some 31, op := Op.fieldAddr 47 (Operand.tmp 6) 2, type := 0, pos := "know.go:199", after := #[{ on := 10, ground := Ground.guard }], guard := some (10, false) }) (v := ?_) rfl (by kernel_rfl) (by kernel_rfl) (by kernel_rfl) (fun _ _ _ h => h) (Or.inl ⟨by rfl, ?_⟩) (by assumption) ?_
            rotate_left
            · intro w hSw; obtain ⟨s0, s1, s2, _⟩ := hSw; go_simp; try (with_reducible rfl)
            repeat (first | simp only [Act.put] | simp only [List.setIfInBounds_toArray] | simp only [List.set_cons_zero] | simp only [List.set_cons_succ])
            refine wpAnyH_take (i := 13) (oi := { dst := some 32, op := Op.load 31 (Operand.tmp 31), type := 31, pos := "know.go:199", after := #[{ on := 12, ground := Ground.data }, { on := 10, ground := Ground.guard }], guard := some (10, false) }) (v := ?_) rfl (by kernel_rfl) (by kernel_rfl) (by kernel_rfl) (fun _ _ _ h => h) (Or.inl ⟨by rfl, ?_⟩) (by assumption) ?_
            rotate_left
            · intro w hSw; obtain ⟨s0, s1, s2, _⟩ := hSw; go_simp; try (with_reducible rfl)
            repeat (first | simp only [Act.put] | simp only [List.setIfInBounds_toArray] | simp only [List.set_cons_zero] | simp only [List.set_cons_succ])
            refine wpAnyH_take (i := 14) (oi := { dst := some 33, op := Op.indexAddr 31 (Operand.tmp 32) (Operand.const (Value.int IntKind.i64 1)), type := 0, pos := "know.go:199", after := #[{ on := 13, ground := Ground.data }, { on := 10, ground := Ground.guard }], guard := some (10, false) }) (v := ?_) rfl (by kernel_rfl) (by kernel_rfl) (by kernel_rfl) (fun _ _ _ h => h) (Or.inl ⟨by rfl, ?_⟩) (by assumption) ?_
            rotate_left
            · intro w hSw; obtain ⟨s0, s1, s2, _⟩ := hSw; go_simp; try (with_reducible rfl)
            repeat (first | simp only [Act.put] | simp only [List.setIfInBounds_toArray] | simp only [List.set_cons_zero] | simp only [List.set_cons_succ])
            refine wpAnyH_take (i := 15) (oi := { dst := some 34, op := Op.load 26 (Operand.tmp 33), type := 26, pos := "know.go:199", after := #[{ on := 14, ground := Ground.data }, { on := 10, ground := Ground.guard }], guard := some (10, false) }) (v := ?_) rfl (by kernel_rfl) (by kernel_rfl) (by kernel_rfl) (fun _ _ _ h => h) (Or.inl ⟨by rfl, ?_⟩) (by assumption) ?_
            rotate_left
            · intro w hSw; obtain ⟨s0, s1, s2, _⟩ := hSw; go_simp; try (with_reducible rfl)
            repeat (first | simp only [Act.put] | simp only [List.setIfInBounds_toArray] | simp only [List.set_cons_zero] | simp only [List.set_cons_succ])
            refine wpAnyH_take (i := 16) (oi := { dst := some 35, op := Op.fieldAddr 47 (Operand.tmp 6) 2, type := 0, pos := "know.go:199", after := #[{ on := 10, ground := Ground.guard }], guard := some (10, false) }) (v := ?_) rfl (by kernel_rfl) (by kernel_rfl) (by kernel_rfl) (fun _ _ _ h => h) (Or.inl ⟨by rfl, ?_⟩) (by assumption) ?_
            rotate_left
            · intro w hSw; obtain ⟨s0, s1, s2, _⟩ := hSw; go_simp; try (with_reducible rfl)
            repeat (first | simp only [Act.put] | simp only [List.setIfInBounds_toArray] | simp only [List.set_cons_zero] | simp only [List.set_cons_succ])
            refine wpAnyH_take (i := 17) (oi := { dst := some 36, op := Op.load 31 (Operand.tmp 35), type := 31, pos := "know.go:199", after := #[{ on := 16, ground := Ground.data }, { on := 10, ground := Ground.guard }], guard := some (10, false) }) (v := ?_) rfl (by kernel_rfl) (by kernel_rfl) (by kernel_rfl) (fun _ _ _ h => h) (Or.inl ⟨by rfl, ?_⟩) (by assumption) ?_
            rotate_left
            · intro w hSw; obtain ⟨s0, s1, s2, _⟩ := hSw; go_simp; try (with_reducible rfl)
            repeat (first | simp only [Act.put] | simp only [List.setIfInBounds_toArray] | simp only [List.set_cons_zero] | simp only [List.set_cons_succ])
            refine wpAnyH_take (i := 18) (oi := { dst := some 37, op := Op.indexAddr 31 (Operand.tmp 36) (Operand.const (Value.int IntKind.i64 0)), type := 0, pos := "know.go:199", after := #[{ on := 17, ground := Ground.data }, { on := 10, ground := Ground.guard }], guard := some (10, false) }) (v := ?_) rfl (by kernel_rfl) (by kernel_rfl) (by kernel_rfl) (fun _ _ _ h => h) (Or.inl ⟨by rfl, ?_⟩) (by assumption) ?_
            rotate_left
            · intro w hSw; obtain ⟨s0, s1, s2, _⟩ := hSw; go_simp; try (with_reducible rfl)
            repeat (first | simp only [Act.put] | simp only [List.setIfInBounds_toArray] | simp only [List.set_cons_zero] | simp only [List.set_cons_succ])
            refine wpAnyH_take (i := 19) (oi := { dst := some 38, op := Op.load 26 (Operand.tmp 37), type := 26, pos := "know.go:199", after := #[{ on := 18, ground := Ground.data }, { on := 10, ground := Ground.guard }], guard := some (10, false) }) (v := ?_) rfl (by kernel_rfl) (by kernel_rfl) (by kernel_rfl) (fun _ _ _ h => h) (Or.inl ⟨by rfl, ?_⟩) (by assumption) ?_
            rotate_left
            · intro w hSw; obtain ⟨s0, s1, s2, _⟩ := hSw; go_simp; try (with_reducible rfl)
            repeat (first | simp only [Act.put] | simp only [List.setIfInBounds_toArray] | simp only [List.set_cons_zero] | simp only [List.set_cons_succ])
            refine wpAnyH_ready (rs := [20]) (by kernel_rfl) (by simp) ?_
            refine AllReadyH.cons (o := { dst := some 39, op := Op.call { callee := Callee.value (Operand.func 47), args := #[Operand.tmp 30, Operand.tmp 34, Operand.tmp 38], argTypes := #[54, 26, 26] }, type := 4, pos := "know.go:199", after := #[{ on := 11, ground := Ground.data }, { on := 15, ground := Ground.data }, { on := 19, ground := Ground.data }, { on := 10, ground := Ground.chain }, { on := 10, ground := Ground.guard }], guard := some (10, false) }) rfl (fun K hK => ?_) AllReadyH.nil
            go_simp
            with_reducible refine (c10 _ (Sx.mnd hSd1)).mono ?_
            rintro e w2 ⟨rfl, hb2⟩
            have hSd2 := hSd1.next hb2
            clear hSd1 hb2
            refine hK.out _ _ ?_ (fun hHeld => ?_)
            · exact hSd2
            clear hK K
            repeat (first | simp only [Act.put] | simp only [List.setIfInBounds_toArray] | simp only [List.set_cons_zero] | simp only [List.set_cons_succ])
            refine wpAnyH_take (i := 21) (oi := { dst := some 40, op := Op.pick (Operand.tmp 29) (Operand.const (Value.bool true)) (Operand.tmp 39), type := 4, pos := "know.go:199", after := #[{ on := 10, ground := Ground.data }, { on := 20, ground := Ground.data }], guard := none }) (v := ?_) rfl (by kernel_rfl) (by kernel_rfl) (by kernel_rfl) (fun _ _ _ h => h) (Or.inl ⟨by rfl, ?_⟩) (by assumption) ?_
            rotate_left
            · intro w hSw; obtain ⟨s0, s1, s2, _⟩ := hSw; go_simp; try (with_reducible rfl)
            repeat (first | simp only [Act.put] | simp only [List.setIfInBounds_toArray] | simp only [List.set_cons_zero] | simp only [List.set_cons_succ])
            refine wpAnyH_done (by kernel_rfl) ?_ _
            simp only [Exit.then]
            refine ‹∀ (a : Act) (w : World), Code.wp Try.prog _ _ a w → _› _ _ ?_
            obtain ⟨s0, s1, s2, s3, s4⟩ := hSd2
            go_wp2_with fail
            go_ret
            exact FIN.out _ false rfl s1 s2 s4
          · go_enter Try.func40, Try.ntmps40
            go_wp2_with fail
            refine wp_region_held_drew (S := Sx F r S c w b off cap p0 p1) (by kernel_rfl) hSd (fun hHeld => ?_)
            refine wpAnyH_take (i := 0) (oi := { dst := some 19, op := Op.move (Operand.tmp 0), type := 54, pos := "know.go:199", after := #[], guard := none }) (v := ?_) rfl (by kernel_rfl) (by kernel_rfl) (by kernel_rfl) (fun _ _ _ h => h) (Or.inl ⟨by rfl, ?_⟩) (by assumption) ?_
            rotate_left
            · intro w hSw; obtain ⟨s0, s1, s2, _⟩ := hSw; go_simp; try (with_reducible rfl)
            repeat (first | simp only [Act.put] | simp only [List.setIfInBounds_toArray] | simp only [List.set_cons_zero] | simp only [List.set_cons_succ])
            refine wpAnyH_take (i := 1) (oi := { dst := some 20, op := Op.fieldAddr 47 (Operand.tmp 6) 2, type := 0, pos := "know.go:199", after := #[], guard := none }) (v := ?_) rfl (by kernel_rfl) (by kernel_rfl) (by kernel_rfl) (fun _ _ _ h => h) (Or.inl ⟨by rfl, ?_⟩) (by assumption) ?_
            rotate_left
            · intro w hSw; obtain ⟨s0, s1, s2, _⟩ := hSw; go_simp; try (with_reducible rfl)
            repeat (first | simp only [Act.put] | simp only [List.setIfInBounds_toArray] | simp only [List.set_cons_zero] | simp only [List.set_cons_succ])
            refine wpAnyH_take (i := 2) (oi := { dst := some 21, op := Op.load 31 (Operand.tmp 20), type := 31, pos := "know.go:199", after := #[{ on := 1, ground := Ground.data }], guard := none }) (v := ?_) rfl (by kernel_rfl) (by kernel_rfl) (by kernel_rfl) (fun _ _ _ h => h) (Or.inl ⟨by rfl, ?_⟩) (by assumption) ?_
            rotate_left
            · intro w hSw; obtain ⟨s0, s1, s2, _⟩ := hSw; go_simp; try (with_reducible rfl)
            repeat (first | simp only [Act.put] | simp only [List.setIfInBounds_toArray] | simp only [List.set_cons_zero] | simp only [List.set_cons_succ])
            refine wpAnyH_take (i := 3) (oi := { dst := some 22, op := Op.indexAddr 31 (Operand.tmp 21) (Operand.const (Value.int IntKind.i64 0)), type := 0, pos := "know.go:199", after := #[{ on := 2, ground := Ground.data }], guard := none }) (v := ?_) rfl (by kernel_rfl) (by kernel_rfl) (by kernel_rfl) (fun _ _ _ h => h) (Or.inl ⟨by rfl, ?_⟩) (by assumption) ?_
            rotate_left
            · intro w hSw; obtain ⟨s0, s1, s2, _⟩ := hSw; go_simp; try (with_reducible rfl)
            repeat (first | simp only [Act.put] | simp only [List.setIfInBounds_toArray] | simp only [List.set_cons_zero] | simp only [List.set_cons_succ])
            refine wpAnyH_take (i := 4) (oi := { dst := some 23, op := Op.load 26 (Operand.tmp 22), type := 26, pos := "know.go:199", after := #[{ on := 3, ground := Ground.data }], guard := none }) (v := ?_) rfl (by kernel_rfl) (by kernel_rfl) (by kernel_rfl) (fun _ _ _ h => h) (Or.inl ⟨by rfl, ?_⟩) (by assumption) ?_
            rotate_left
            · intro w hSw; obtain ⟨s0, s1, s2, _⟩ := hSw; go_simp; try (with_reducible rfl)
            repeat (first | simp only [Act.put] | simp only [List.setIfInBounds_toArray] | simp only [List.set_cons_zero] | simp only [List.set_cons_succ])
            refine wpAnyH_take (i := 5) (oi := { dst := some 24, op := Op.fieldAddr 47 (Operand.tmp 6) 2, type := 0, pos := "know.go:199", after := #[], guard := none }) (v := ?_) rfl (by kernel_rfl) (by kernel_rfl) (by kernel_rfl) (fun _ _ _ h => h) (Or.inl ⟨by rfl, ?_⟩) (by assumption) ?_
            rotate_left
            · intro w hSw; obtain ⟨s0, s1, s2, _⟩ := hSw; go_simp; try (with_reducible rfl)
            repeat (first | simp only [Act.put] | simp only [List.setIfInBounds_toArray] | simp only [List.set_cons_zero] | simp only [List.set_cons_succ])
            refine wpAnyH_take (i := 6) (oi := { dst := some 25, op := Op.load 31 (Operand.tmp 24), type := 31, pos := "know.go:199", after := #[{ on := 5, ground := Ground.data }], guard := none }) (v := ?_) rfl (by kernel_rfl) (by kernel_rfl) (by kernel_rfl) (fun _ _ _ h => h) (Or.inl ⟨by rfl, ?_⟩) (by assumption) ?_
            rotate_left
            · intro w hSw; obtain ⟨s0, s1, s2, _⟩ := hSw; go_simp; try (with_reducible rfl)
            repeat (first | simp only [Act.put] | simp only [List.setIfInBounds_toArray] | simp only [List.set_cons_zero] | simp only [List.set_cons_succ])
            refine wpAnyH_take (i := 7) (oi := { dst := some 26, op := Op.indexAddr 31 (Operand.tmp 25) (Operand.const (Value.int IntKind.i64 1)), type := 0, pos := "know.go:199", after := #[{ on := 6, ground := Ground.data }], guard := none }) (v := ?_) rfl (by kernel_rfl) (by kernel_rfl) (by kernel_rfl) (fun _ _ _ h => h) (Or.inl ⟨by rfl, ?_⟩) (by assumption) ?_
            rotate_left
            · intro w hSw; obtain ⟨s0, s1, s2, _⟩ := hSw; go_simp; try (with_reducible rfl)
            repeat (first | simp only [Act.put] | simp only [List.setIfInBounds_toArray] | simp only [List.set_cons_zero] | simp only [List.set_cons_succ])
            refine wpAnyH_take (i := 8) (oi := { dst := some 27, op := Op.load 26 (Operand.tmp 26), type := 26, pos := "know.go:199", after := #[{ on := 7, ground := Ground.data }], guard := none }) (v := ?_) rfl (by kernel_rfl) (by kernel_rfl) (by kernel_rfl) (fun _ _ _ h => h) (Or.inl ⟨by rfl, ?_⟩) (by assumption) ?_
            rotate_left
            · intro w hSw; obtain ⟨s0, s1, s2, _⟩ := hSw; go_simp; try (with_reducible rfl)
            repeat (first | simp only [Act.put] | simp only [List.setIfInBounds_toArray] | simp only [List.set_cons_zero] | simp only [List.set_cons_succ])
            refine wpAnyH_ready (rs := [9]) (by kernel_rfl) (by simp) ?_
            refine AllReadyH.cons (o := { dst := some 28, op := Op.call { callee := Callee.value (Operand.func 47), args := #[Operand.tmp 19, Operand.tmp 23, Operand.tmp 27], argTypes := #[54, 26, 26] }, type := 4, pos := "know.go:199", after := #[{ on := 0, ground := Ground.data }, { on := 4, ground := Ground.data }, { on := 8, ground := Ground.data }], guard := none }) rfl (fun K hK => ?_) AllReadyH.nil
            go_simp
            with_reducible refine (c01 _ (Sx.mnd hSd)).mono ?_
            rintro e w1 ⟨rfl, hb1⟩
            have hSd1 := hSd.next hb1
            clear hSd hb1
            refine hK.out _ _ ?_ (fun hHeld => ?_)
            · exact hSd1
            clear hK K
            repeat (first | simp only [Act.put] | simp only [List.setIfInBounds_toArray] | simp only [List.set_cons_zero] | simp only [List.set_cons_succ])
            refine wpAnyH_take (i := 10) (oi := { dst := some 29, op := Op.move (Operand.tmp 28), type := 4, pos := "know.go:199", after := #[{ on := 9, ground := Ground.data }, { on := 9, ground := Ground.chain }], guard := none }) (v := ?_) rfl (by kernel_rfl) (by kernel_rfl) (by kernel_rfl) (fun _ _ _ h => h) (Or.inl ⟨by rfl, ?_⟩) (by assumption) ?_
            rotate_left
            · intro w hSw; obtain ⟨s0, s1, s2, _⟩ := hSw; go_simp; try (with_reducible rfl)
            repeat (first | simp only [Act.put] | simp only [List.setIfInBounds_toArray] | simp only [List.set_cons_zero] | simp only [List.set_cons_succ])
            refine wpAnyH_take (i := 11) (oi := { dst := some 30, op := Op.move (Operand.tmp 0), type := 54, pos := "know.go:199", after := #[{ on := 10, ground := Ground.guard }], guard := some (10, false) }) (v := ?_) rfl (by kernel_rfl) (by kernel_rfl) (by kernel_rfl) (fun _ _ _ h => h) (Or.inl ⟨by rfl, ?_⟩) (by assumption) ?_
            rotate_left
            · intro w hSw; obtain ⟨s0, s1, s2, _⟩ := hSw; go_simp; try (with_reducible rfl)
            repeat (first | simp only [Act.put] | simp only [List.setIfInBounds_toArray] | simp only [List.set_cons_zero] | simp only [List.set_cons_succ])
            refine wpAnyH_take (i := 12) (oi := { dst := some 31, op := Op.fieldAddr 47 (Operand.tmp 6) 2, type := 0, pos := "know.go:199", after := #[{ on := 10, ground := Ground.guard }], guard := some (10, false) }) (v := ?_) rfl (by kernel_rfl) (by kernel_rfl) (by kernel_rfl) (fun _ _ _ h => h) (Or.inl ⟨by rfl, ?_⟩) (by assumption) ?_
            rotate_left
            · intro w hSw; obtain ⟨s0, s1, s2, _⟩ := hSw; go_simp; try (with_reducible rfl)
            repeat (first | simp only [Act.put] | simp only [List.setIfInBounds_toArray] | simp only [List.set_cons_zero] | simp only [List.set_cons_succ])
            refine wpAnyH_take (i := 13) (oi := { dst := some 32, op := Op.load 31 (Operand.tmp 31), type := 31, pos := "know.go:199", after := #[{ on := 12, ground := Ground.data }, { on := 10, ground := Ground.guard }], guard := some (10, false) }) (v := ?_) rfl (by kernel_rfl) (by kernel_rfl) (by kernel_rfl) (fun _ _ _ h => h) (Or.inl ⟨by rfl, ?_⟩) (by assumption) ?_
            rotate_left
            · intro w hSw; obtain ⟨s0, s1, s2, _⟩ := hSw; go_simp; try (with_reducible rfl)
            repeat (first | simp only [Act.put] | simp only [List.setIfInBounds_toArray] | simp only [List.set_cons_zero] | simp only [List.set_cons_succ])
            refine wpAnyH_take (i := 14) (oi := { dst := some 33, op := Op.indexAddr 31 (Operand.tmp 32) (Operand.const (Value.int IntKind.i64 1)), type := 0, pos := "know.go:199", after := #[{ on := 13, ground := Ground.data }, { on := 10, ground := Ground.guard }], guard := some (10, false) }) (v := ?_) rfl (by kernel_rfl) (by kernel_rfl) (by kernel_rfl) (fun _ _ _ h => h) (Or.inl ⟨by rfl, ?_⟩) (by assumption) ?_
            rotate_left
            · intro w hSw; obtain ⟨s0, s1, s2, _⟩ := hSw; go_simp; try (with_reducible rfl)
            repeat (first | simp only [Act.put] | simp only [List.setIfInBounds_toArray] | simp only [List.set_cons_zero] | simp only [List.set_cons_succ])
            refine wpAnyH_take (i := 15) (oi := { dst := some 34, op := Op.load 26 (Operand.tmp 33), type := 26, pos := "know.go:199", after := #[{ on := 14, ground := Ground.data }, { on := 10, ground := Ground.guard }], guard := some (10, false) }) (v := ?_) rfl (by kernel_rfl) (by kernel_rfl) (by kernel_rfl) (fun _ _ _ h => h) (Or.inl ⟨by rfl, ?_⟩) (by assumption) ?_
            rotate_left
            · intro w hSw; obtain ⟨s0, s1, s2, _⟩ := hSw; go_simp; try (with_reducible rfl)
            repeat (first | simp only [Act.put] | simp only [List.setIfInBounds_toArray] | simp only [List.set_cons_zero] | simp only [List.set_cons_succ])
            refine wpAnyH_take (i := 16) (oi := { dst := some 35, op := Op.fieldAddr 47 (Operand.tmp 6) 2, type := 0, pos := "know.go:199", after := #[{ on := 10, ground := Ground.guard }], guard := some (10, false) }) (v := ?_) rfl (by kernel_rfl) (by kernel_rfl) (by kernel_rfl) (fun _ _ _ h => h) (Or.inl ⟨by rfl, ?_⟩) (by assumption) ?_
            rotate_left
            · intro w hSw; obtain ⟨s0, s1, s2, _⟩ := hSw; go_simp; try (with_reducible rfl)
            repeat (first | simp only [Act.put] | simp only [List.setIfInBounds_toArray] | simp only [List.set_cons_zero] | simp only [List.set_cons_succ])
            refine wpAnyH_take (i := 17) (oi := { dst := some 36, op := Op.load 31 (Operand.tmp 35), type := 31, pos := "know.go:199", after := #[{ on := 16, ground := Ground.data }, { on := 10, ground := Ground.guard }], guard := some (10, false) }) (v := ?_) rfl (by kernel_rfl) (by kernel_rfl) (by kernel_rfl) (fun _ _ _ h => h) (Or.inl ⟨by rfl, ?_⟩) (by assumption) ?_
            rotate_left
            · intro w hSw; obtain ⟨s0, s1, s2, _⟩ := hSw; go_simp; try (with_reducible rfl)
            repeat (first | simp only [Act.put] | simp only [List.setIfInBounds_toArray] | simp only [List.set_cons_zero] | simp only [List.set_cons_succ])
            refine wpAnyH_take (i := 18) (oi := { dst := some 37, op := Op.indexAddr 31 (Operand.tmp 36) (Operand.const (Value.int IntKind.i64 0)), type := 0, pos := "know.go:199", after := #[{ on := 17, ground := Ground.data }, { on := 10, ground := Ground.guard }], guard := some (10, false) }) (v := ?_) rfl (by kernel_rfl) (by kernel_rfl) (by kernel_rfl) (fun _ _ _ h => h) (Or.inl ⟨by rfl, ?_⟩) (by assumption) ?_
            rotate_left
            · intro w hSw; obtain ⟨s0, s1, s2, _⟩ := hSw; go_simp; try (with_reducible rfl)
            repeat (first | simp only [Act.put] | simp only [List.setIfInBounds_toArray] | simp only [List.set_cons_zero] | simp only [List.set_cons_succ])
            refine wpAnyH_take (i := 19) (oi := { dst := some 38, op := Op.load 26 (Operand.tmp 37), type := 26, pos := "know.go:199", after := #[{ on := 18, ground := Ground.data }, { on := 10, ground := Ground.guard }], guard := some (10, false) }) (v := ?_) rfl (by kernel_rfl) (by kernel_rfl) (by kernel_rfl) (fun _ _ _ h => h) (Or.inl ⟨by rfl, ?_⟩) (by assumption) ?_
            rotate_left
            · intro w hSw; obtain ⟨s0, s1, s2, _⟩ := hSw; go_simp; try (with_reducible rfl)
            repeat (first | simp only [Act.put] | simp only [List.setIfInBounds_toArray] | simp only [List.set_cons_zero] | simp only [List.set_cons_succ])
            refine wpAnyH_ready (rs := [20]) (by kernel_rfl) (by simp) ?_
            refine AllReadyH.cons (o := { dst := some 39, op := Op.call { callee := Callee.value (Operand.func 47), args := #[Operand.tmp 30, Operand.tmp 34, Operand.tmp 38], argTypes := #[54, 26, 26] }, type := 4, pos := "know.go:199", after := #[{ on := 11, ground := Ground.data }, { on := 15, ground := Ground.data }, { on := 19, ground := Ground.data }, { on := 10, ground := Ground.chain }, { on := 10, ground := Ground.guard }], guard := some (10, false) }) rfl (fun K hK => ?_) AllReadyH.nil
            go_simp
            with_reducible refine (c10 _ (Sx.mnd hSd1)).mono ?_
            rintro e w2 ⟨rfl, hb2⟩
            have hSd2 := hSd1.next hb2
            clear hSd1 hb2
            refine hK.out _ _ ?_ (fun hHeld => ?_)
            · exact hSd2
            clear hK K
            repeat (first | simp only [Act.put] | simp only [List.setIfInBounds_toArray] | simp only [List.set_cons_zero] | simp only [List.set_cons_succ])
            refine wpAnyH_take (i := 21) (oi := { dst := some 40, op := Op.pick (Operand.tmp 29) (Operand.const (Value.bool true)) (Operand.tmp 39), type := 4, pos := "know.go:199", after := #[{ on := 10, ground := Ground.data }, { on := 20, ground := Ground.data }], guard := none }) (v := ?_) rfl (by kernel_rfl) (by kernel_rfl) (by kernel_rfl) (fun _ _ _ h => h) (Or.inl ⟨by rfl, ?_⟩) (by assumption) ?_
            rotate_left
            · intro w hSw; obtain ⟨s0, s1, s2, _⟩ := hSw; go_simp; try (with_reducible rfl)
            repeat (first | simp only [Act.put] | simp only [List.setIfInBounds_toArray] | simp only [List.set_cons_zero] | simp only [List.set_cons_succ])
            refine wpAnyH_done (by kernel_rfl) ?_ _
            simp only [Exit.then]
            refine ‹∀ (a : Act) (w : World), Code.wp Try.prog _ _ a w → _› _ _ ?_
            obtain ⟨s0, s1, s2, s3, s4⟩ := hSd2
            go_wp2_with fail
            go_ret
            exact FIN.out _ true rfl s1 s2 s4
        · go_enter Try.func40, Try.ntmps40
          go_wp2_with fail
          refine wp_region_held_drew (S := Sx F r S c w b off cap p0 p1) (by kernel_rfl) hSd (fun hHeld => ?_)
          refine wpAnyH_take (i := 0) (oi := { dst := some 19, op := Op.move (Operand.tmp 0), type := 54, pos := "know.go:199", after := #[], guard := none }) (v := ?_) rfl (by kernel_rfl) (by kernel_rfl) (by kernel_rfl) (fun _ _ _ h => h) (Or.inl ⟨by rfl, ?_⟩) (by assumption) ?_
          rotate_left
          · intro w hSw; obtain ⟨s0, s1, s2, _⟩ := hSw; go_simp; try (with_reducible rfl)
          repeat (first | simp only [Act.put] | simp only [List.setIfInBounds_toArray] | simp only [List.set_cons_zero] | simp only [List.set_cons_succ])
          refine wpAnyH_take (i := 1) (oi := { dst := some 20, op := Op.fieldAddr 47 (Operand.tmp 6) 2, type := 0, pos := "know.go:199", after := #[], guard := none }) (v := ?_) rfl (by kernel_rfl) (by kernel_rfl) (by kernel_rfl) (fun _ _ _ h => h) (Or.inl ⟨by rfl, ?_⟩) (by assumption) ?_
          rotate_left
          · intro w hSw; obtain ⟨s0, s1, s2, _⟩ := hSw; go_simp; try (with_reducible rfl)
          repeat (first | simp only [Act.put] | simp only [List.setIfInBounds_toArray] | simp only [List.set_cons_zero] | simp only [List.set_cons_succ])
          refine wpAnyH_take (i := 2) (oi := { dst := some 21, op := Op.load 31 (Operand.tmp 20), type := 31, pos := "know.go:199", after := #[{ on := 1, ground := Ground.data }], guard := none }) (v := ?_) rfl (by kernel_rfl) (by kernel_rfl) (by kernel_rfl) (fun _ _ _ h => h) (Or.inl ⟨by rfl, ?_⟩) (by assumption) ?_
          rotate_left
          · intro w hSw; obtain ⟨s0, s1, s2, _⟩ := hSw; go_simp; try (with_reducible rfl)
          repeat (first | simp only [Act.put] | simp only [List.setIfInBounds_toArray] | simp only [List.set_cons_zero] | simp only [List.set_cons_succ])
          refine wpAnyH_take (i := 3) (oi := { dst := some 22, op := Op.indexAddr 31 (Operand.tmp 21) (Operand.const (Value.int IntKind.i64 0)), type := 0, pos := "know.go:199", after := #[{ on := 2, ground := Ground.data }], guard := none }) (v := ?_) rfl (by kernel_rfl) (by kernel_rfl) (by kernel_rfl) (fun _ _ _ h => h) (Or.inl ⟨by rfl, ?_⟩) (by assumption) ?_
          rotate_left
          · intro w hSw; obtain ⟨s0, s1, s2, _⟩ := hSw; go_simp; try (with_reducible rfl)
          repeat (first | simp only [Act.put] | simp only [List.setIfInBounds_toArray] | simp only [List.set_cons_zero] | simp only [List.set_cons_succ])
          refine wpAnyH_take (i := 4) (oi := { dst := some 23, op := Op.load 26 (Operand.tmp 22), type := 26, pos := "know.go:199", after := #[{ on := 3, ground := Ground.data }], guard := none }) (v := ?_) rfl (by kernel_rfl) (by kernel_rfl) (by kernel_rfl) (fun _ _ _ h => h) (Or.inl ⟨by rfl, ?_⟩) (by assumption) ?_
          rotate_left
          · intro w hSw; obtain ⟨s0, s1, s2, _⟩ := hSw; go_simp; try (with_reducible rfl)
          repeat (first | simp only [Act.put] | simp only [List.setIfInBounds_toArray] | simp only [List.set_cons_zero] | simp only [List.set_cons_succ])
          refine wpAnyH_take (i := 5) (oi := { dst := some 24, op := Op.fieldAddr 47 (Operand.tmp 6) 2, type := 0, pos := "know.go:199", after := #[], guard := none }) (v := ?_) rfl (by kernel_rfl) (by kernel_rfl) (by kernel_rfl) (fun _ _ _ h => h) (Or.inl ⟨by rfl, ?_⟩) (by assumption) ?_
          rotate_left
          · intro w hSw; obtain ⟨s0, s1, s2, _⟩ := hSw; go_simp; try (with_reducible rfl)
          repeat (first | simp only [Act.put] | simp only [List.setIfInBounds_toArray] | simp only [List.set_cons_zero] | simp only [List.set_cons_succ])
          refine wpAnyH_take (i := 6) (oi := { dst := some 25, op := Op.load 31 (Operand.tmp 24), type := 31, pos := "know.go:199", after := #[{ on := 5, ground := Ground.data }], guard := none }) (v := ?_) rfl (by kernel_rfl) (by kernel_rfl) (by kernel_rfl) (fun _ _ _ h => h) (Or.inl ⟨by rfl, ?_⟩) (by assumption) ?_
          rotate_left
          · intro w hSw; obtain ⟨s0, s1, s2, _⟩ := hSw; go_simp; try (with_reducible rfl)
          repeat (first | simp only [Act.put] | simp only [List.setIfInBounds_toArray] | simp only [List.set_cons_zero] | simp only [List.set_cons_succ])
          refine wpAnyH_take (i := 7) (oi := { dst := some 26, op := Op.indexAddr 31 (Operand.tmp 25) (Operand.const (Value.int IntKind.i64 1)), type := 0, pos := "know.go:199", after := #[{ on := 6, ground := Ground.data }], guard := none }) (v := ?_) rfl (by kernel_rfl) (by kernel_rfl) (by kernel_rfl) (fun _ _ _ h => h) (Or.inl ⟨by rfl, ?_⟩) (by assumption) ?_
          rotate_left
          · intro w hSw; obtain ⟨s0, s1, s2, _⟩ := hSw; go_simp; try (with_reducible rfl)
          repeat (first | simp only [Act.put] | simp only [List.setIfInBounds_toArray] | simp only [List.set_cons_zero] | simp only [List.set_cons_succ])
          refine wpAnyH_take (i := 8) (oi := { dst := some 27, op := Op.load 26 (Operand.tmp 26), type := 26, pos := "know.go:199", after := #[{ on := 7, ground := Ground.data }], guard := none }) (v := ?_) rfl (by kernel_rfl) (by kernel_rfl) (by kernel_rfl) (fun _ _ _ h => h) (Or.inl ⟨by rfl, ?_⟩) (by assumption) ?_
          rotate_left
          · intro w hSw; obtain ⟨s0, s1, s2, _⟩ := hSw; go_simp; try (with_reducible rfl)
          repeat (first | simp only [Act.put] | simp only [List.setIfInBounds_toArray] | simp only [List.set_cons_zero] | simp only [List.set_cons_succ])
          refine wpAnyH_ready (rs := [9]) (by kernel_rfl) (by simp) ?_
          refine AllReadyH.cons (o := { dst := some 28, op := Op.call { callee := Callee.value (Operand.func 47), args := #[Operand.tmp 19, Operand.tmp 23, Operand.tmp 27], argTypes := #[54, 26, 26] }, type := 4, pos := "know.go:199", after := #[{ on := 0, ground := Ground.data }, { on := 4, ground := Ground.data }, { on := 8, ground := Ground.data }], guard := none }) rfl (fun K hK => ?_) AllReadyH.nil
          go_simp
          with_reducible refine (c01 _ (Sx.mnd hSd)).mono ?_
          rintro e w1 ⟨rfl, hb1⟩
          have hSd1 := hSd.next hb1
          clear hSd hb1
          refine hK.out _ _ ?_ (fun hHeld => ?_)
          · exact hSd1
          clear hK K
          repeat (first | simp only [Act.put] | simp only [List.setIfInBounds_toArray] | simp only [List.set_cons_zero] | simp only [List.set_cons_succ])
          refine wpAnyH_take (i := 10) (oi := { dst := some 29, op := Op.move (Operand.tmp 28), type := 4, pos := "know.go:199", after := #[{ on := 9, ground := Ground.data }, { on := 9, ground := Ground.chain }], guard := none }) (v := ?_) rfl (by kernel_rfl) (by kernel_rfl) (by kernel_rfl) (fun _ _ _ h => h) (Or.inl ⟨by rfl, ?_⟩) (by assumption) ?_
          rotate_left
          · intro w hSw; obtain ⟨s0, s1, s2, _⟩ := hSw; go_simp; try (with_reducible rfl)
          repeat (first | simp only [Act.put] | simp only [List.setIfInBounds_toArray] | simp only [List.set_cons_zero] | simp only [List.set_cons_succ])
          refine wpAnyH_take (i := 11) (oi := { dst := some 30, op := Op.move (Operand.tmp 0), type := 54, pos := "know.go:199", after := #[{ on := 10, ground := Ground.guard }], guard := some (10, false) }) (v := undef) rfl (by kernel_rfl) (by kernel_rfl) (by kernel_rfl) (fun _ _ _ h => h) (Or.inr ⟨by rfl, rfl⟩) (by assumption) ?_
          repeat (first | simp only [Act.put] | simp only [List.setIfInBounds_toArray] | simp only [List.set_cons_zero] | simp only [List.set_cons_succ])
          refine wpAnyH_take (i := 12) (oi := { dst := some 31, op := Op.fieldAddr 47 (Operand.tmp 6) 2, type := 0, pos := "know.go:199", after := #[{ on := 10, ground := Ground.guard }], guard := some (10, false) }) (v := undef) rfl (by kernel_rfl) (by kernel_rfl) (by kernel_rfl) (fun _ _ _ h => h) (Or.inr ⟨by rfl, rfl⟩) (by assumption) ?_
          repeat (first | simp only [Act.put] | simp only [List.setIfInBounds_toArray] | simp only [List.set_cons_zero] | simp only [List.set_cons_succ])
          refine wpAnyH_take (i := 13) (oi := { dst := some 32, op := Op.load 31 (Operand.tmp 31), type := 31, pos := "know.go:199", after := #[{ on := 12, ground := Ground.data }, { on := 10, ground := Ground.guard }], guard := some (10, false) }) (v := undef) rfl (by kernel_rfl) (by kernel_rfl) (by kernel_rfl) (fun _ _ _ h => h) (Or.inr ⟨by rfl, rfl⟩) (by assumption) ?_
          repeat (first | simp only [Act.put] | simp only [List.setIfInBounds_toArray] | simp only [List.set_cons_zero] | simp only [List.set_cons_succ])
          refine wpAnyH_take (i := 14) (oi := { dst := some 33, op := Op.indexAddr 31 (Operand.tmp 32) (Operand.const (Value.int IntKind.i64 1)), type := 0, pos := "know.go:199", after := #[{ on := 13, ground := Ground.data }, { on := 10, ground := Ground.guard }], guard := some (10, false) }) (v := undef) rfl (by kernel_rfl) (by kernel_rfl) (by kernel_rfl) (fun _ _ _ h => h) (Or.inr ⟨by rfl, rfl⟩) (by assumption) ?_
          repeat (first | simp only [Act.put] | simp only [List.setIfInBounds_toArray] | simp only [List.set_cons_zero] | simp only [List.set_cons_succ])
          refine wpAnyH_take (i := 15) (oi := { dst := some 34, op := Op.load 26 (Operand.tmp 33), type := 26, pos := "know.go:199", after := #[{ on := 14, ground := Ground.data }, { on := 10, ground := Ground.guard }], guard := some (10, false) }) (v := undef) rfl (by kernel_rfl) (by kernel_rfl) (by kernel_rfl) (fun _ _ _ h => h) (Or.inr ⟨by rfl, rfl⟩) (by assumption) ?_
          repeat (first | simp only [Act.put] | simp only [List.setIfInBounds_toArray] | simp only [List.set_cons_zero] | simp only [List.set_cons_succ])
          refine wpAnyH_take (i := 16) (oi := { dst := some 35, op := Op.fieldAddr 47 (Operand.tmp 6) 2, type := 0, pos := "know.go:199", after := #[{ on := 10, ground := Ground.guard }], guard := some (10, false) }) (v := undef) rfl (by kernel_rfl) (by kernel_rfl) (by kernel_rfl) (fun _ _ _ h => h) (Or.inr ⟨by rfl, rfl⟩) (by assumption) ?_
          repeat (first | simp only [Act.put] | simp only [List.setIfInBounds_toArray] | simp only [List.set_cons_zero] | simp only [List.set_cons_succ])
          refine wpAnyH_take (i := 17) (oi := { dst := some 36, op := Op.load 31 (Operand.tmp 35), type := 31, pos := "know.go:199", after := #[{ on := 16, ground := Ground.data }, { on := 10, ground := Ground.guard }], guard := some (10, false) }) (v := undef) rfl (by kernel_rfl) (by kernel_rfl) (by kernel_rfl) (fun _ _ _ h => h) (Or.inr ⟨by rfl, rfl⟩) (by assumption) ?_
          repeat (first | simp only [Act.put] | simp only [List.setIfInBounds_toArray] | simp only [List.set_cons_zero] | simp only [List.set_cons_succ])
          refine wpAnyH_take (i := 18) (oi := { dst := some 37, op := Op.indexAddr 31 (Operand.tmp 36) (Operand.const (Value.int IntKind.i64 0)), type := 0, pos := "know.go:199", after := #[{ on := 17, ground := Ground.data }, { on := 10, ground := Ground.guard }], guard := some (10, false) }) (v := undef) rfl (by kernel_rfl) (by kernel_rfl) (by kernel_rfl) (fun _ _ _ h => h) (Or.inr ⟨by rfl, rfl⟩) (by assumption) ?_
          repeat (first | simp only [Act.put] | simp only [List.setIfInBounds_toArray] | simp only [List.set_cons_zero] | simp only [List.set_cons_succ])
          refine wpAnyH_take (i := 19) (oi := { dst := some 38, op := Op.load 26 (Operand.tmp 37), type := 26, pos := "know.go:199", after := #[{ on := 18, ground := Ground.data }, { on := 10, ground := Ground.guard }], guard := some (10, false) }) (v := undef) rfl (by kernel_rfl) (by kernel_rfl) (by kernel_rfl) (fun _ _ _ h => h) (Or.inr ⟨by rfl, rfl⟩) (by assumption) ?_
          repeat (first | simp only [Act.put] | simp only [List.setIfInBounds_toArray] | simp only [List.set_cons_zero] | simp only [List.set_cons_succ])
          refine wpAnyH_take (i := 20) (oi := { dst := some 39, op := Op.call { callee := Callee.value (Operand.func 47), args := #[Operand.tmp 30, Operand.tmp 34, Operand.tmp 38], argTypes := #[54, 26, 26] }, type := 4, pos := "know.go:199", after := #[{ on := 11, ground := Ground.data }, { on := 15, ground := Ground.data }, { on := 19, ground := Ground.data }, { on := 10, ground := Ground.chain }, { on := 10, ground := Ground.guard }], guard := some (10, false) }) (v := undef) rfl (by kernel_rfl) (by kernel_rfl) (by kernel_rfl) (fun _ _ _ h => h) (Or.inr ⟨by rfl, rfl⟩) (by assumption) ?_
          repeat (first | simp only [Act.put] | simp only [List.setIfInBounds_toArray] | simp only [List.set_cons_zero] | simp only [List.set_cons_succ])
          refine wpAnyH_take (i := 21) (oi := { dst := some 40, op := Op.pick (Operand.tmp 29) (Operand.const (Value.bool true)) (Operand.tmp 39), type := 4, pos := "know.go:199", after := #[{ on := 10, ground := Ground.data }, { on := 20, ground := Ground.data }], guard := none }) (v := ?_) rfl (by kernel_rfl) (by kernel_rfl) (by kernel_rfl) (fun _ _ _ h => h) (Or.inl ⟨by rfl, ?_⟩) (by assumption) ?_
          rotate_left
          · intro w hSw; obtain ⟨s0, s1, s2, _⟩ := hSw; go_simp; try (with_reducible rfl)
          repeat (first | simp only [Act.put] | simp only [List.setIfInBounds_toArray] | simp only [List.set_cons_zero] | simp only [List.set_cons_succ])
          refine wpAnyH_done (by kernel_rfl) ?_ _
          simp only [Exit.then]
          refine ‹∀ (a : Act) (w : World), Code.wp Try.prog _ _ a w → _› _ _ ?_
          obtain ⟨s0, s1, s2, s3, s4⟩ := hSd1
          go_wp2_with fail
          go_ret
          exact FIN.out _ true rfl s1 s2 s4
    · have e1 : lackP S cn x k ps = oneL (ps.find? (fun y => !cn y)) := by unfold lackP; rw [if_neg h2, if_neg h8']
      rw [e1]
      have h2' : (k == 2) = false := by simp [h2]
      have h8'' : (k == 8) = false := by simp [h8']
      have d2 : (w.alloc (.cells #[.int .i64 k, .string s, .slice ao ps.length cap] 47)).cell? ⟨w.heap.size, 2, none⟩ = some (.slice ao ps.length cap) := by unfold World.cell?; rw [hnw]; rfl
      have d0 : (w.alloc (.cells #[.int .i64 k, .string s, .slice ao ps.length cap] 47)).cell? ⟨w.heap.size, 0, none⟩ = some (.int .i64 k) := by unfold World.cell?; rw [hnw]; rfl
      have HQ1 := Lib.hid q1
      have HQ2 := Lib.hid q2
      have HQ3 := Lib.hid q3
      have HQ4 := Lib.hid q4
      have HO := Lib.hid ho
      have HPS := Lib.hid hps
      have HL := Lib.hid hl
      clear e1 q1 q2 q3 q4 ho hps h8 hl h hlt h2 h8' hnw
      go_enter Try.func40, Try.ntmps40
      go_wp2_with fail
      generalize hW : w.alloc (.cells #[.int .i64 k, .string s, .slice ao ps.length cap] 47) = W at *
      clear hW d0
      go_loopw [46] (fun i wr => ∃ j : Nat, j ≤ ps.length ∧ i = .int .i64 j ∧ (∀ q, q < j → cn (ps.getD q 0) = true) ∧ Below W.heap.size W wr) (fun i _ => ps.length - (RowKit.intOf i).toNat)
      case atStart => exact ⟨0, Nat.zero_le _, rfl, (fun q hq => by omega), Below.refl _ _⟩
      case round =>
        obtain ⟨j, hj, rfl, hT, hb⟩ := hrel
        have hB := hbx.trans (hb.mono hbx.size)
        by_cases hlt : j < ps.length
        · have hlt' : (j : Int) < (ps.length : Int) := by omega
          cases ao with
          | none => have := HQ3.out rfl; have := HQ1.out; omega
          | some ad =>
            obtain ⟨b, off, spot⟩ := ad
            have a0 := HQ4.out _ rfl 0 (by omega)
            have hs : spot = none := by simpa [Addr.add] using World.cell?_spot a0
            subst hs
            have aj := HQ4.out _ rfl j hlt
            rw [Addr.add_lit] at aj
            have ajr := keepS hB aj
            have d2r := keepS hb d2
            have hw0 := HPS.out _ (getD_mem hlt)
            have hc := hcan wr hB (ps.getD j 0) hw0
            have HE := Lib.hid (find_at (cn := cn) ps j)
            have HT := Lib.hid hT
            have HB := Lib.hid hB
            have HBr := Lib.hid hb
            have hcap : cap ≤ 9223372036854775807 := by have := HQ2.out; unfold maxLen at this; exact this
            have hsl := piece_one (b := b) (off := off) (n := ps.length) (cap := cap) j hlt HQ1.out
            have HSL := Lib.hid hsl
            have HAJ := Lib.hid aj
            have hle := HQ1.out
            clear hT aj hcan hsl hB hb a0
            generalize hy : ps.getD j 0 = y at *
            cases hcy : cn y with
            | true =>
              rw [hcy] at hc
              go_wp2_with (go_at_call 37; refine hc.mono ?_; rintro e w3 ⟨rfl, hb3⟩)
              go_roundw
              case rel => exact ⟨j + 1, by omega, by go_num, (fun q hq => by
                by_cases e : q = j
                · subst e; rw [hy]; exact hcy
                · exact HT.out q (by omega)), HBr.out.trans (hb3.mono HBr.out.size)⟩
              case measure => simp [RowKit.intOf]; omega
            | false =>
              rw [hcy] at hc
              go_wp2_with (go_at_call 37; refine hc.mono ?_; rintro e w3 ⟨rfl, hb3⟩; have d2s := keepS hb3 d2r; have hs3 := HSL.out w3)
              go_ret
              have hfd := HE.out HT.out hlt hcy
              rw [hfd, show oneL (some y) = [y] from rfl]
              refine ⟨_, rfl, ⟨some ⟨b, off + j, none⟩, cap - j, rfl, by simp; omega, by have := HQ2.out; omega, (fun e => by cases e), fun a e i hi => ?_⟩, fun a n cp e => ?_, HB.out.trans (hb3.mono HB.out.size)⟩
              · cases e
                have : i = 0 := by simp at hi; omega
                subst this
                rw [Addr.add_lit]
                simpa using keepS (HB.out.trans (hb3.mono HB.out.size)) HAJ.out
              · cases e
                exact (HO.out (fun e => by rw [e] at hlt; simp at hlt) ⟨b, off, none⟩ _ _ rfl : ¬ F b)
        · obtain rfl : j = ps.length := by omega
          have hN := find_none (cn := cn) hT
          have HN := Lib.hid hN
          clear hN hT hcan
          go_wp2_with fail
          go_ret
          rw [HN.out]
          exact ⟨_, rfl, Rd.nil _ _, OutF.nil F, hB⟩

end Go.Proofs.Ytmplcibaoanlnaa
