/- law 13: StreamActs: what pieces make, and which messages are taken, act by act. -/
import Derived.Test.YtfgjlfcadpmkhaaSDuo
import Derived.Test.YtfgjlfcadpmkhaaSAwake
import Derived.Test.YtfgjlfcadpmkhaaActIn
import Derived.Test.YtfgjlfcadpmkhaaHSame
namespace Go.Proofs.Ytfgjlfcadpmkhaa
open Go Go.RowKit

theorem wp_append_fresh2 {w : World} {o : Oper} {a : Act} {K : Act → World → Prop} {Q : Exit → Act → World → Prop} (s x : Operand)
    (ho : o.op = .call { callee := .builtin .append, args := #[s, x], argTypes := #[29, 29] }) (g : Nat) (hs : a.eval s = .slice (some ⟨g, 0, none⟩) 0 0)
    (xv : Value) (zs : List Int) (hx : a.eval x = xv) (hr : Rd w xv zs) (hl : zs.length ≤ 1000000) {lo : Nat} (hlo : lo ≤ w.heap.size)
    (h : ∀ v' w', Ra lo w' v' zs → Plain v' → Below w.heap.size w w' → K (a.put o.dst v') w') : o.wp Try.prog a w K Q := by
  obtain ⟨i, hi, hz0, hz1, hz2⟩ := info_row5
  obtain ⟨ao, cap, rfl, h1, h2, h3, hbt, hc⟩ := hr
  have key : ∃ v' w', (Builtin.append_ #[29, 29] o.type #[.slice (some ⟨g, 0, none⟩) 0 0, .slice ao zs.length cap]).run Try.prog w = .ok v' w' ∧ Ra w.heap.size w' v' zs ∧ Plain v' ∧ Below w.heap.size w w' := by
    by_cases hzs : zs.length = 0
    · refine ⟨.slice (some ⟨g, 0, none⟩) 0 0, w, ?_, ?_, .inr ⟨_, _, _, _, rfl⟩, Below.refl _ _⟩
      · rw [hzs]
        cases ao <;> simp [Builtin.append_, run_underlying Try.underlying29, sizeOf, typeInfo, hi, Builtin.lenOf, Builtin.firstCells, storeCells, loadCells, loadCellsFrom]
      · obtain rfl := List.eq_nil_of_length_eq_zero hzs
        exact ⟨⟨_, 0, rfl, Nat.le_refl _, by simp [maxLen], (fun _ => rfl), Byt.nil, fun a _ j hj => by simp at hj⟩, fun _ _ _ _ hz => absurd rfl hz⟩
    · cases ao with
      | none => have := h3 rfl; omega
      | some ad =>
        obtain ⟨v', w', hrun, hown, hg⟩ := run_append_arg_grows (P := Try.prog) (w := w) 29 o.type 5 i (.int .u8 0) 1 1 Try.underlying29 hi hz0 hz1 hz2 rfl (by decide) ⟨g, 0, none⟩ 0 0 [] rfl (fun j u hu => by cases hu) ad zs.length cap (by8 zs) (by simp [by8_len])
          (fun j u hu => by
            have hj : j < zs.length := by
              have := (List.getElem?_eq_some_iff.1 hu).1
              simpa [by8_len] using this
            rw [by8_get zs j hj] at hu
            cases hu
            exact hc ad rfl j hj) (by omega) (by unfold maxLen; omega) (by omega)
        refine ⟨v', w', hrun, ⟨(Rd.of_own hown hbt).1, fun a n cap' e _ => ?_⟩, ?_, below_made hg⟩
        · subst e
          rcases hown.2 with ⟨e2, _⟩ | ⟨g2, cap2, cur, e2, hg2, _⟩
          · cases e2
          · cases e2; exact hg2
        · rcases hown.2 with ⟨e2, _⟩ | ⟨g2, cap2, cur, e2, hg2, _⟩
          · exact .inl e2
          · exact .inr ⟨_, _, _, _, e2⟩
  obtain ⟨v', w', hrun, hrd, hpl, hb⟩ := key
  unfold Oper.wp execOp
  simp only [ho, resolve, invoke, builtin, Sem.run_bind, Sem.run_pure, Result.andThen_ok, List.map_toArray, List.map_cons, List.map_nil, hs, hx, hrun]
  exact h v' w' (hrd.mono hlo) hpl hb
theorem step_append_fresh2 {w : World} {ops : Array Oper} {o : Oper} {a : Act} {K : Act → World → Prop} {Q : Exit → Act → World → Prop} {E : Prop} (hgd : o.guard = none) (s x : Operand)
    (ho : o.op = .call { callee := .builtin .append, args := #[s, x], argTypes := #[29, 29] }) (g : Nat) (hs : a.eval s = .slice (some ⟨g, 0, none⟩) 0 0)
    (xv : Value) (zs : List Int) (hx : a.eval x = xv) (hr : Rd w xv zs) (hl : zs.length ≤ 1000000) {lo : Nat} (hlo : lo ≤ w.heap.size)
    (h : ∀ v' w', Ra lo w' v' zs → Plain v' → Below w.heap.size w w' → K (a.put o.dst v') w') :
    if Region.wanted o (yielded ops a.tmps) = true then Oper.wp Try.prog o a w K Q else E := by
  have hw : Region.wanted o (yielded ops a.tmps) = true := by simp [Region.wanted, hgd]
  rw [if_pos hw]
  exact wp_append_fresh2 s x ho g hs xv zs hx hr hl hlo h

theorem next_nil (w : World) : Calls Try.prog 4 #[.pointer none] w fun e w' => e = .returned (.tuple #[.slice none 0 0, .int .i64 1]) ∧ w = w' := by
  go_enter Try.func4, Try.ntmps4
  go_wp2_with fail
  go_ret2
  exact ⟨rfl, rfl⟩
theorem put_nil (w : World) : Calls Try.prog 7 #[.pointer none, .int .i64 0, .slice none 0 0] w fun e w' => e = .returned (.int .i64 1) ∧ w = w' := by
  go_enter Try.func7, Try.ntmps7
  go_wp2_with fail
  go_ret
  exact ⟨rfl, rfl⟩
theorem taken_nil (w : World) : Calls Try.prog 9 #[.pointer none] w fun e w' => e = .returned (.int .i64 0) ∧ w = w' := by
  go_enter Try.func9, Try.ntmps9
  go_wp2_with fail
  go_ret
  exact ⟨rfl, rfl⟩
theorem duo_new (w : World) : Du w w.heap.size (w.heap.size + 1) (w.heap.size + 2) 0 0 none (fun _ => none) (.slice none 0 0) (.slice none 0 0) [] ((w.alloc (.cells #[.int .i64 0, .map none] 26)).alloc (.cells #[.int .i64 0, .slice none 0 0, .slice none 0 0] 31)) := by
  have h1 := heap_alloc_new w (.cells #[.int .i64 0, .map none] 26)
  have h2 := heap_alloc_new (w.alloc (.cells #[.int .i64 0, .map none] 26)) (.cells #[.int .i64 0, .slice none 0 0, .slice none 0 0] 31)
  rw [World.size_alloc] at h2
  have h3 := row_keep (below_alloc (w.alloc (.cells #[.int .i64 0, .map none] 26)) (.cells #[.int .i64 0, .slice none 0 0, .slice none 0 0] 31)) h1
  refine ⟨St.fresh (fun g hg => ?_) h3, ⟨h2, World.ownsRow_nil _ _ _ _, World.ownsRow_nil _ _ _ _, (fun _ h => by cases h), by omega⟩, ⟨⟨fun _ _ h => (by cases h), fun _ _ _ _ h => (by cases h)⟩, fun _ _ h => (by cases h), fun p => ⟨fun ⟨_, _, h, _⟩ => (by cases h), fun h => absurd h (by rw [heldL_nil]; decide)⟩⟩, fun _ h => (by cases h), by simp, (below_alloc w _).alloc (by simp) _, ⟨Nat.le_refl _, by omega, by omega, by simp⟩, by omega⟩
  rcases List.mem_cons.1 hg with rfl | hg
  · simp
  · cases hg
set_option maxRecDepth 20000 in
set_option maxHeartbeats 8000000 in
theorem sacts_any {w : World} {v : Value} {l : List ActV} (h : Acts w v l) : Calls Try.prog 3 #[v] w fun e w' => e = .returned (.bool true) ∧ Below w.heap.size w w' := by
  have HA := Lib.hid h
  have HDN := Lib.hid (duo_new w)
  obtain ⟨ao, cap, rfl⟩ := h.shape
  clear h
  by_cases h40 : 40 < l.length
  · have h40' : (40 : Int) < (l.length : Int) := by omega
    clear h40
    go_enter Try.func3, Try.ntmps3
    go_wp2_with fail
    go_ret
    exact ⟨rfl, Below.refl _ _⟩
  have h40' : ¬ (40 : Int) < (l.length : Int) := by omega
  go_enter Try.func3, Try.ntmps3
  go_wp2_with fail
  generalize (w.alloc (.cells #[.int .i64 0, .map none] 26)).alloc (.cells #[.int .i64 0, .slice none 0 0, .slice none 0 0] 31) = wA at HDN ⊢
  generalize w.heap.size + 2 = base at HDN
  generalize w.heap.size + 1 = R at HDN ⊢
  have HDA : Hid (Duo w w.heap.size R base 0 0 wA) := Lib.hid ⟨_, _, _, _, _, HDN.out⟩
  clear HDN
  go_loopw [5] (fun i wr => ∃ k t : Nat, i = .int .i64 k ∧ k ≤ l.length ∧ Hid (Duo w w.heap.size R base k t wr)) (fun i _ => l.length - (intOf i).toNat)
  case atStart => exact ⟨0, 0, rfl, by omega, HDA⟩
  case round =>
    rename_i wr
    obtain ⟨k, t, rfl, hk, HDU⟩ := hrel
    have hk' : (k : Int) ≤ (l.length : Int) := by omega
    by_cases hlt : k < l.length
    · have hlt' : (k : Int) < (l.length : Int) := by omega
      obtain ⟨mo, E, av, bv, hl, hD⟩ := HDU.out
      have HD := Lib.hid hD
      obtain ⟨b, off, cap', e0, hat⟩ := HA.out.at (by omega)
      simp only [Value.slice.injEq] at e0
      obtain ⟨rfl, _, rfl⟩ := e0
      obtain ⟨s, hs⟩ : ∃ s, l[k]? = some s := ⟨_, List.getElem?_eq_getElem hlt⟩
      obtain ⟨c0, c1, c2, hrd⟩ := hat k s hs
      obtain ⟨sn, aa, sv, d⟩ := s
      simp only at c0 c1 c2 hrd
      have HRD := Lib.hid hrd
      obtain ⟨da, dc, rfl⟩ := hrd.shape
      have HIN0 : Hid (∀ W, Below w.heap.size w W → W.cell? ⟨b, off + k * 3, none⟩ = some (.bool sn)) := Lib.hid fun W hb => keepS hb c0
      have HIN : Hid (∀ W, Below w.heap.size w W → W.cell? ⟨b, off + k * 3 + 1, none⟩ = some (.int .i64 aa) ∧ W.cell? ⟨b, off + k * 3 + 2, none⟩ = some (.slice da d.length dc)) := Lib.hid fun W hb => ⟨keepS hb c1, keepS hb c2⟩
      have c0' := HIN0.out _ hD.bel
      obtain ⟨c1', c2'⟩ := HIN.out _ hD.bel
      clear hat hs hD hrd c0 c1 c2 HIN0
      by_cases h60 : 60 < d.length
      · have h60' : (60 : Int) < (d.length : Int) := by omega
        have HBB := Lib.hid HD.out.bel
        rcases Nat.eq_zero_or_pos k with rfl | hk0
        · simp only [Nat.zero_mul, Nat.add_zero] at c0' c1' c2'
          go_wp2_with fail
          go_ret
          exact ⟨rfl, HBB.out⟩
        · go_wp2_with fail
          go_ret
          exact ⟨rfl, HBB.out⟩
      · have h60' : ¬ (60 : Int) < (d.length : Int) := by omega
        have hd60 : d.length ≤ 60 := by omega
        have hk40 : k ≤ 40 := by omega
        rcases Nat.eq_zero_or_pos k with rfl | hk0
        · skip
          simp only [Nat.zero_mul, Nat.add_zero] at c0' c1' c2' HIN
          cases sn with
          | true =>
            have hnx := duo_next HD.out (by omega)
            go_wp2_with fail
            refine hnx.mono ?_
            rintro e w2 ⟨v2, c2, xs, rfl, hr2, hnx2⟩
            have hsh2 := hr2.shape
            obtain ⟨q2, n2, rfl⟩ := hsh2
            clear hnx hr2 c0' c1' c2' HIN
            go_wp2_with fail
            refine hnx2.mono ?_
            rintro e w3 ⟨v3, t3, rfl, hr2, hr3, mo3, E3, av3, bv3, hl3, hD3⟩
            have hsm := same_true hr2 hr3
            have HD3 := Lib.hid hD3
            obtain ⟨q3, n3, rfl⟩ := hr3.shape
            have hcc : (c2 != c2) = false := by simp
            clear hnx2 hr2 hr3 hD3
            go_wp2_with (go_at_call 6; refine hsm.mono ?_; rintro e w4 ⟨rfl, hb4⟩; have HD4 := Lib.hid (HD3.out.below hb4); clear hb4 hsm)
            refine wp_region_end 6 (fun w' => w'.cell? ⟨R, 0, none⟩ = some (.int .i64 (t3 : Int))) (by kernel_rfl) ?_
            have HD8 := Lib.hid (HD4.out.below (below_drewR w4))
            have HC8 : Hid (w4.drew.cell? ⟨R, 0, none⟩ = some (.int .i64 (t3 : Int))) := Lib.hid ((cell_of_row _ R 0 _ 31 (0, 0) HD8.out.rs.box).trans rfl)
            have htk := taken_any HD8.out.st
            generalize w4.drew = Z at HD8 HC8 htk ⊢
            refine wpAnyE_take [1, 0] (i := 0) (oi := { dst := some 84, op := Op.move (Operand.tmp 3), type := 23, pos := "law.go:57", after := #[], guard := none }) (v := ?_) rfl (by kernel_rfl) (by kernel_rfl) (by kernel_rfl) (by kernel_rfl) rfl rfl (by kernel_rfl) (by kernel_rfl) (fun _ _ _ h => h) (Or.inl ⟨by rfl, ?_⟩) (by exact HC8.out) ?_
            rotate_left
            · intro w hSw; (try dsimp only at hSw); go_simp; try (with_reducible rfl)
            repeat (first | simp only [Act.put] | simp only [List.setIfInBounds_toArray] | simp only [List.set_cons_zero] | simp only [List.set_cons_succ])
            refine wpAnyE_take [5, 4, 3, 2] (i := 2) (oi := { dst := some 86, op := Op.move (Operand.tmp 4), type := 27, pos := "law.go:57", after := #[], guard := none }) (v := ?_) rfl (by kernel_rfl) (by kernel_rfl) (by kernel_rfl) (by kernel_rfl) rfl rfl (by kernel_rfl) (by kernel_rfl) (fun _ _ _ h => h) (Or.inl ⟨by rfl, ?_⟩) (by exact HC8.out) ?_
            rotate_left
            · intro w hSw; (try dsimp only at hSw); go_simp; try (with_reducible rfl)
            repeat (first | simp only [Act.put] | simp only [List.setIfInBounds_toArray] | simp only [List.set_cons_zero] | simp only [List.set_cons_succ])
            refine wpAnyE_take [5, 4, 3] (i := 3) (oi := { dst := some 87, op := Op.nilCheck (Operand.tmp 86), type := 0, pos := "law.go:57", after := #[{ on := 2, ground := Ground.data }], guard := none }) (v := ?_) rfl (by kernel_rfl) (by kernel_rfl) (by kernel_rfl) (by kernel_rfl) rfl rfl (by kernel_rfl) (by kernel_rfl) (fun _ _ _ h => h) (Or.inl ⟨by rfl, ?_⟩) (by exact HC8.out) ?_
            rotate_left
            · intro w hSw; (try dsimp only at hSw); go_simp; try (with_reducible rfl)
            repeat (first | simp only [Act.put] | simp only [List.setIfInBounds_toArray] | simp only [List.set_cons_zero] | simp only [List.set_cons_succ])
            refine wpAnyE_take [5, 4] (i := 4) (oi := { dst := some 88, op := Op.fieldAddr 31 (Operand.tmp 87) 0, type := 0, pos := "law.go:57", after := #[{ on := 3, ground := Ground.data }], guard := none }) (v := ?_) rfl (by kernel_rfl) (by kernel_rfl) (by kernel_rfl) (by kernel_rfl) rfl rfl (by kernel_rfl) (by kernel_rfl) (fun _ _ _ h => h) (Or.inl ⟨by rfl, ?_⟩) (by exact HC8.out) ?_
            rotate_left
            · intro w hSw; (try dsimp only at hSw); go_simp; try (with_reducible rfl)
            repeat (first | simp only [Act.put] | simp only [List.setIfInBounds_toArray] | simp only [List.set_cons_zero] | simp only [List.set_cons_succ])
            refine wpAnyE_take [5] (i := 5) (oi := { dst := some 89, op := Op.load 3 (Operand.tmp 88), type := 3, pos := "law.go:57", after := #[{ on := 4, ground := Ground.data }], guard := none }) (v := ?_) rfl (by kernel_rfl) (by kernel_rfl) (by kernel_rfl) (by kernel_rfl) rfl rfl (by kernel_rfl) (by kernel_rfl) (fun _ _ _ h => h) (Or.inl ⟨by rfl, ?_⟩) (by exact HC8.out) ?_
            rotate_left
            · intro w hSw; (try dsimp only at hSw); go_simp; try (with_reducible rfl)
            repeat (first | simp only [Act.put] | simp only [List.setIfInBounds_toArray] | simp only [List.set_cons_zero] | simp only [List.set_cons_succ])
            refine wpAnyE_one (i := 1) (o := { dst := some 85, op := Op.call { callee := Callee.value (Operand.func 9), args := #[Operand.tmp 84], argTypes := #[23] }, type := 3, pos := "law.go:57", after := #[{ on := 0, ground := Ground.data }], guard := none }) (by kernel_rfl) rfl (fun K hK => ?_)
            go_simp
            refine htk.mono ?_
            rintro e w9 ⟨rfl, rfl⟩
            refine hK.out _ _ (fun hL => ?_) ?_
            · exact HC8.out
            clear hK K
            repeat (first | simp only [Act.put] | simp only [List.setIfInBounds_toArray] | simp only [List.set_cons_zero] | simp only [List.set_cons_succ])
            refine wpAnyE_one (i := 6) (o := { dst := some 90, op := Op.binOp BinOp.neq 3 (Operand.tmp 85) (Operand.tmp 89) 3, type := 4, pos := "law.go:57", after := #[{ on := 1, ground := Ground.data }, { on := 5, ground := Ground.data }], guard := none }) (by kernel_rfl) rfl (fun K hK => ?_)
            have htt : ((t3 : Int) != (t3 : Int)) = false := by simp
            go_simp
            refine hK.out _ _ (fun hL => absurd hL (by decide)) ?_
            clear hK K
            repeat (first | simp only [Act.put] | simp only [List.setIfInBounds_toArray] | simp only [List.set_cons_zero] | simp only [List.set_cons_succ])
            refine wpAnyE_done (by kernel_rfl) ?_ _
            go_wp2_with fail
            go_roundw
            case rel => exact ⟨0 + 1, t3, by go_num, by omega, Lib.hid ⟨_, _, _, _, _, HD8.out⟩⟩
            case measure => simp [intOf] <;> omega
          | false =>
            go_wp2_with fail
            clear c0' c1' c2'
            refine wp_region_end 26 (fun w' => w'.cell? ⟨b, off + 1, none⟩ = some (.int .i64 aa) ∧ w'.cell? ⟨b, off + 2, none⟩ = some (.slice da d.length dc)) (by kernel_rfl) ?_
            have HD0 := Lib.hid (HD.out.below (below_drewR wr))
            have HC0 := Lib.hid (HIN.out wr.drew HD0.out.bel)
            generalize wr.drew = Y at HD0 HC0 ⊢
            refine wpAnyE_take [13, 0] (i := 0) (oi := { dst := some 57, op := Op.move (Operand.tmp 3), type := 23, pos := "law.go:54", after := #[], guard := none }) (v := ?_) rfl (by kernel_rfl) (by kernel_rfl) (by kernel_rfl) (by kernel_rfl) rfl rfl (by kernel_rfl) (by kernel_rfl) (fun _ _ _ h => h) (Or.inl ⟨by rfl, ?_⟩) (by exact HC0.out) ?_
            rotate_left
            · intro w hSw; (try dsimp only at hSw); obtain ⟨r0, r1⟩ := hSw; go_simp; try (with_reducible rfl)
            repeat (first | simp only [Act.put] | simp only [List.setIfInBounds_toArray] | simp only [List.set_cons_zero] | simp only [List.set_cons_succ])
            refine wpAnyE_take [13, 5, 4, 3, 1] (i := 1) (oi := { dst := some 58, op := Op.move (Operand.tmp 0), type := 22, pos := "law.go:54", after := #[], guard := none }) (v := ?_) rfl (by kernel_rfl) (by kernel_rfl) (by kernel_rfl) (by kernel_rfl) rfl rfl (by kernel_rfl) (by kernel_rfl) (fun _ _ _ h => h) (Or.inl ⟨by rfl, ?_⟩) (by exact HC0.out) ?_
            rotate_left
            · intro w hSw; (try dsimp only at hSw); obtain ⟨r0, r1⟩ := hSw; go_simp; try (with_reducible rfl)
            repeat (first | simp only [Act.put] | simp only [List.setIfInBounds_toArray] | simp only [List.set_cons_zero] | simp only [List.set_cons_succ])
            refine wpAnyE_take [13, 5, 4, 3, 2] (i := 2) (oi := { dst := some 59, op := Op.move (Operand.tmp 5), type := 3, pos := "law.go:54", after := #[], guard := none }) (v := ?_) rfl (by kernel_rfl) (by kernel_rfl) (by kernel_rfl) (by kernel_rfl) rfl rfl (by kernel_rfl) (by kernel_rfl) (fun _ _ _ h => h) (Or.inl ⟨by rfl, ?_⟩) (by exact HC0.out) ?_
            rotate_left
            · intro w hSw; (try dsimp only at hSw); obtain ⟨r0, r1⟩ := hSw; go_simp; try (with_reducible rfl)
            repeat (first | simp only [Act.put] | simp only [List.setIfInBounds_toArray] | simp only [List.set_cons_zero] | simp only [List.set_cons_succ])
            refine wpAnyE_take [13, 5, 4, 3] (i := 3) (oi := { dst := some 60, op := Op.indexAddr 22 (Operand.tmp 58) (Operand.tmp 59), type := 0, pos := "law.go:54", after := #[{ on := 1, ground := Ground.data }, { on := 2, ground := Ground.data }], guard := none }) (v := ?_) rfl (by kernel_rfl) (by kernel_rfl) (by kernel_rfl) (by kernel_rfl) rfl rfl (by kernel_rfl) (by kernel_rfl) (fun _ _ _ h => h) (Or.inl ⟨by rfl, ?_⟩) (by exact HC0.out) ?_
            rotate_left
            · intro w hSw; (try dsimp only at hSw); obtain ⟨r0, r1⟩ := hSw; go_simp; try (with_reducible rfl)
            repeat (first | simp only [Act.put] | simp only [List.setIfInBounds_toArray] | simp only [List.set_cons_zero] | simp only [List.set_cons_succ])
            refine wpAnyE_take [13, 5, 4] (i := 4) (oi := { dst := some 61, op := Op.fieldAddr 33 (Operand.tmp 60) 1, type := 0, pos := "law.go:54", after := #[{ on := 3, ground := Ground.data }], guard := none }) (v := ?_) rfl (by kernel_rfl) (by kernel_rfl) (by kernel_rfl) (by kernel_rfl) rfl rfl (by kernel_rfl) (by kernel_rfl) (fun _ _ _ h => h) (Or.inl ⟨by rfl, ?_⟩) (by exact HC0.out) ?_
            rotate_left
            · intro w hSw; (try dsimp only at hSw); obtain ⟨r0, r1⟩ := hSw; go_simp; try (with_reducible rfl)
            repeat (first | simp only [Act.put] | simp only [List.setIfInBounds_toArray] | simp only [List.set_cons_zero] | simp only [List.set_cons_succ])
            refine wpAnyE_take [13, 5] (i := 5) (oi := { dst := some 62, op := Op.load 3 (Operand.tmp 61), type := 3, pos := "law.go:54", after := #[{ on := 4, ground := Ground.data }], guard := none }) (v := ?_) rfl (by kernel_rfl) (by kernel_rfl) (by kernel_rfl) (by kernel_rfl) rfl rfl (by kernel_rfl) (by kernel_rfl) (fun _ _ _ h => h) (Or.inl ⟨by rfl, ?_⟩) (by exact HC0.out) ?_
            rotate_left
            · intro w hSw; (try dsimp only at hSw); obtain ⟨r0, r1⟩ := hSw; go_simp; try (with_reducible rfl)
            repeat (first | simp only [Act.put] | simp only [List.setIfInBounds_toArray] | simp only [List.set_cons_zero] | simp only [List.set_cons_succ])
            refine wpAnyE_take [13, 12, 11, 10, 9, 7] (i := 7) (oi := { dst := some 64, op := Op.move (Operand.tmp 0), type := 22, pos := "law.go:54", after := #[], guard := none }) (v := ?_) rfl (by kernel_rfl) (by kernel_rfl) (by kernel_rfl) (by kernel_rfl) rfl rfl (by kernel_rfl) (by kernel_rfl) (fun _ _ _ h => h) (Or.inl ⟨by rfl, ?_⟩) (by exact HC0.out) ?_
            rotate_left
            · intro w hSw; (try dsimp only at hSw); obtain ⟨r0, r1⟩ := hSw; go_simp; try (with_reducible rfl)
            repeat (first | simp only [Act.put] | simp only [List.setIfInBounds_toArray] | simp only [List.set_cons_zero] | simp only [List.set_cons_succ])
            refine wpAnyE_take [13, 12, 11, 10, 9, 8] (i := 8) (oi := { dst := some 65, op := Op.move (Operand.tmp 5), type := 3, pos := "law.go:54", after := #[], guard := none }) (v := ?_) rfl (by kernel_rfl) (by kernel_rfl) (by kernel_rfl) (by kernel_rfl) rfl rfl (by kernel_rfl) (by kernel_rfl) (fun _ _ _ h => h) (Or.inl ⟨by rfl, ?_⟩) (by exact HC0.out) ?_
            rotate_left
            · intro w hSw; (try dsimp only at hSw); obtain ⟨r0, r1⟩ := hSw; go_simp; try (with_reducible rfl)
            repeat (first | simp only [Act.put] | simp only [List.setIfInBounds_toArray] | simp only [List.set_cons_zero] | simp only [List.set_cons_succ])
            refine wpAnyE_take [13, 12, 11, 10, 9] (i := 9) (oi := { dst := some 66, op := Op.indexAddr 22 (Operand.tmp 64) (Operand.tmp 65), type := 0, pos := "law.go:54", after := #[{ on := 7, ground := Ground.data }, { on := 8, ground := Ground.data }], guard := none }) (v := ?_) rfl (by kernel_rfl) (by kernel_rfl) (by kernel_rfl) (by kernel_rfl) rfl rfl (by kernel_rfl) (by kernel_rfl) (fun _ _ _ h => h) (Or.inl ⟨by rfl, ?_⟩) (by exact HC0.out) ?_
            rotate_left
            · intro w hSw; (try dsimp only at hSw); obtain ⟨r0, r1⟩ := hSw; go_simp; try (with_reducible rfl)
            repeat (first | simp only [Act.put] | simp only [List.setIfInBounds_toArray] | simp only [List.set_cons_zero] | simp only [List.set_cons_succ])
            refine wpAnyE_take [13, 12, 11, 10] (i := 10) (oi := { dst := some 67, op := Op.fieldAddr 33 (Operand.tmp 66) 2, type := 0, pos := "law.go:54", after := #[{ on := 9, ground := Ground.data }], guard := none }) (v := ?_) rfl (by kernel_rfl) (by kernel_rfl) (by kernel_rfl) (by kernel_rfl) rfl rfl (by kernel_rfl) (by kernel_rfl) (fun _ _ _ h => h) (Or.inl ⟨by rfl, ?_⟩) (by exact HC0.out) ?_
            rotate_left
            · intro w hSw; (try dsimp only at hSw); obtain ⟨r0, r1⟩ := hSw; go_simp; try (with_reducible rfl)
            repeat (first | simp only [Act.put] | simp only [List.setIfInBounds_toArray] | simp only [List.set_cons_zero] | simp only [List.set_cons_succ])
            refine wpAnyE_take [13, 12, 11] (i := 11) (oi := { dst := some 68, op := Op.load 29 (Operand.tmp 67), type := 29, pos := "law.go:54", after := #[{ on := 10, ground := Ground.data }], guard := none }) (v := ?_) rfl (by kernel_rfl) (by kernel_rfl) (by kernel_rfl) (by kernel_rfl) rfl rfl (by kernel_rfl) (by kernel_rfl) (fun _ _ _ h => h) (Or.inl ⟨by rfl, ?_⟩) (by exact HC0.out) ?_
            rotate_left
            · intro w hSw; (try dsimp only at hSw); obtain ⟨r0, r1⟩ := hSw; go_simp; try (with_reducible rfl)
            repeat (first | simp only [Act.put] | simp only [List.setIfInBounds_toArray] | simp only [List.set_cons_zero] | simp only [List.set_cons_succ])
            refine wpAnyE_take [25, 14] (i := 14) (oi := { dst := some 71, op := Op.move (Operand.tmp 4), type := 27, pos := "law.go:54", after := #[], guard := none }) (v := ?_) rfl (by kernel_rfl) (by kernel_rfl) (by kernel_rfl) (by kernel_rfl) rfl rfl (by kernel_rfl) (by kernel_rfl) (fun _ _ _ h => h) (Or.inl ⟨by rfl, ?_⟩) (by exact HC0.out) ?_
            rotate_left
            · intro w hSw; (try dsimp only at hSw); obtain ⟨r0, r1⟩ := hSw; go_simp; try (with_reducible rfl)
            repeat (first | simp only [Act.put] | simp only [List.setIfInBounds_toArray] | simp only [List.set_cons_zero] | simp only [List.set_cons_succ])
            refine wpAnyE_take [25, 19, 18, 17, 15] (i := 15) (oi := { dst := some 72, op := Op.move (Operand.tmp 0), type := 22, pos := "law.go:54", after := #[], guard := none }) (v := ?_) rfl (by kernel_rfl) (by kernel_rfl) (by kernel_rfl) (by kernel_rfl) rfl rfl (by kernel_rfl) (by kernel_rfl) (fun _ _ _ h => h) (Or.inl ⟨by rfl, ?_⟩) (by exact HC0.out) ?_
            rotate_left
            · intro w hSw; (try dsimp only at hSw); obtain ⟨r0, r1⟩ := hSw; go_simp; try (with_reducible rfl)
            repeat (first | simp only [Act.put] | simp only [List.setIfInBounds_toArray] | simp only [List.set_cons_zero] | simp only [List.set_cons_succ])
            refine wpAnyE_take [25, 19, 18, 17, 16] (i := 16) (oi := { dst := some 73, op := Op.move (Operand.tmp 5), type := 3, pos := "law.go:54", after := #[], guard := none }) (v := ?_) rfl (by kernel_rfl) (by kernel_rfl) (by kernel_rfl) (by kernel_rfl) rfl rfl (by kernel_rfl) (by kernel_rfl) (fun _ _ _ h => h) (Or.inl ⟨by rfl, ?_⟩) (by exact HC0.out) ?_
            rotate_left
            · intro w hSw; (try dsimp only at hSw); obtain ⟨r0, r1⟩ := hSw; go_simp; try (with_reducible rfl)
            repeat (first | simp only [Act.put] | simp only [List.setIfInBounds_toArray] | simp only [List.set_cons_zero] | simp only [List.set_cons_succ])
            refine wpAnyE_take [25, 19, 18, 17] (i := 17) (oi := { dst := some 74, op := Op.indexAddr 22 (Operand.tmp 72) (Operand.tmp 73), type := 0, pos := "law.go:54", after := #[{ on := 15, ground := Ground.data }, { on := 16, ground := Ground.data }], guard := none }) (v := ?_) rfl (by kernel_rfl) (by kernel_rfl) (by kernel_rfl) (by kernel_rfl) rfl rfl (by kernel_rfl) (by kernel_rfl) (fun _ _ _ h => h) (Or.inl ⟨by rfl, ?_⟩) (by exact HC0.out) ?_
            rotate_left
            · intro w hSw; (try dsimp only at hSw); obtain ⟨r0, r1⟩ := hSw; go_simp; try (with_reducible rfl)
            repeat (first | simp only [Act.put] | simp only [List.setIfInBounds_toArray] | simp only [List.set_cons_zero] | simp only [List.set_cons_succ])
            refine wpAnyE_take [25, 19, 18] (i := 18) (oi := { dst := some 75, op := Op.fieldAddr 33 (Operand.tmp 74) 1, type := 0, pos := "law.go:54", after := #[{ on := 17, ground := Ground.data }], guard := none }) (v := ?_) rfl (by kernel_rfl) (by kernel_rfl) (by kernel_rfl) (by kernel_rfl) rfl rfl (by kernel_rfl) (by kernel_rfl) (fun _ _ _ h => h) (Or.inl ⟨by rfl, ?_⟩) (by exact HC0.out) ?_
            rotate_left
            · intro w hSw; (try dsimp only at hSw); obtain ⟨r0, r1⟩ := hSw; go_simp; try (with_reducible rfl)
            repeat (first | simp only [Act.put] | simp only [List.setIfInBounds_toArray] | simp only [List.set_cons_zero] | simp only [List.set_cons_succ])
            refine wpAnyE_take [25, 19] (i := 19) (oi := { dst := some 76, op := Op.load 3 (Operand.tmp 75), type := 3, pos := "law.go:54", after := #[{ on := 18, ground := Ground.data }], guard := none }) (v := ?_) rfl (by kernel_rfl) (by kernel_rfl) (by kernel_rfl) (by kernel_rfl) rfl rfl (by kernel_rfl) (by kernel_rfl) (fun _ _ _ h => h) (Or.inl ⟨by rfl, ?_⟩) (by exact HC0.out) ?_
            rotate_left
            · intro w hSw; (try dsimp only at hSw); obtain ⟨r0, r1⟩ := hSw; go_simp; try (with_reducible rfl)
            repeat (first | simp only [Act.put] | simp only [List.setIfInBounds_toArray] | simp only [List.set_cons_zero] | simp only [List.set_cons_succ])
            refine wpAnyE_take [25, 24, 23, 22, 20] (i := 20) (oi := { dst := some 77, op := Op.move (Operand.tmp 0), type := 22, pos := "law.go:54", after := #[], guard := none }) (v := ?_) rfl (by kernel_rfl) (by kernel_rfl) (by kernel_rfl) (by kernel_rfl) rfl rfl (by kernel_rfl) (by kernel_rfl) (fun _ _ _ h => h) (Or.inl ⟨by rfl, ?_⟩) (by exact HC0.out) ?_
            rotate_left
            · intro w hSw; (try dsimp only at hSw); obtain ⟨r0, r1⟩ := hSw; go_simp; try (with_reducible rfl)
            repeat (first | simp only [Act.put] | simp only [List.setIfInBounds_toArray] | simp only [List.set_cons_zero] | simp only [List.set_cons_succ])
            refine wpAnyE_take [25, 24, 23, 22, 21] (i := 21) (oi := { dst := some 78, op := Op.move (Operand.tmp 5), type := 3, pos := "law.go:54", after := #[], guard := none }) (v := ?_) rfl (by kernel_rfl) (by kernel_rfl) (by kernel_rfl) (by kernel_rfl) rfl rfl (by kernel_rfl) (by kernel_rfl) (fun _ _ _ h => h) (Or.inl ⟨by rfl, ?_⟩) (by exact HC0.out) ?_
            rotate_left
            · intro w hSw; (try dsimp only at hSw); obtain ⟨r0, r1⟩ := hSw; go_simp; try (with_reducible rfl)
            repeat (first | simp only [Act.put] | simp only [List.setIfInBounds_toArray] | simp only [List.set_cons_zero] | simp only [List.set_cons_succ])
            refine wpAnyE_take [25, 24, 23, 22] (i := 22) (oi := { dst := some 79, op := Op.indexAddr 22 (Operand.tmp 77) (Operand.tmp 78), type := 0, pos := "law.go:54", after := #[{ on := 20, ground := Ground.data }, { on := 21, ground := Ground.data }], guard := none }) (v := ?_) rfl (by kernel_rfl) (by kernel_rfl) (by kernel_rfl) (by kernel_rfl) rfl rfl (by kernel_rfl) (by kernel_rfl) (fun _ _ _ h => h) (Or.inl ⟨by rfl, ?_⟩) (by exact HC0.out) ?_
            rotate_left
            · intro w hSw; (try dsimp only at hSw); obtain ⟨r0, r1⟩ := hSw; go_simp; try (with_reducible rfl)
            repeat (first | simp only [Act.put] | simp only [List.setIfInBounds_toArray] | simp only [List.set_cons_zero] | simp only [List.set_cons_succ])
            refine wpAnyE_take [25, 24, 23] (i := 23) (oi := { dst := some 80, op := Op.fieldAddr 33 (Operand.tmp 79) 2, type := 0, pos := "law.go:54", after := #[{ on := 22, ground := Ground.data }], guard := none }) (v := ?_) rfl (by kernel_rfl) (by kernel_rfl) (by kernel_rfl) (by kernel_rfl) rfl rfl (by kernel_rfl) (by kernel_rfl) (fun _ _ _ h => h) (Or.inl ⟨by rfl, ?_⟩) (by exact HC0.out) ?_
            rotate_left
            · intro w hSw; (try dsimp only at hSw); obtain ⟨r0, r1⟩ := hSw; go_simp; try (with_reducible rfl)
            repeat (first | simp only [Act.put] | simp only [List.setIfInBounds_toArray] | simp only [List.set_cons_zero] | simp only [List.set_cons_succ])
            refine wpAnyE_take [25, 24] (i := 24) (oi := { dst := some 81, op := Op.load 29 (Operand.tmp 80), type := 29, pos := "law.go:54", after := #[{ on := 23, ground := Ground.data }], guard := none }) (v := ?_) rfl (by kernel_rfl) (by kernel_rfl) (by kernel_rfl) (by kernel_rfl) rfl rfl (by kernel_rfl) (by kernel_rfl) (fun _ _ _ h => h) (Or.inl ⟨by rfl, ?_⟩) (by exact HC0.out) ?_
            rotate_left
            · intro w hSw; (try dsimp only at hSw); obtain ⟨r0, r1⟩ := hSw; go_simp; try (with_reducible rfl)
            repeat (first | simp only [Act.put] | simp only [List.setIfInBounds_toArray] | simp only [List.set_cons_zero] | simp only [List.set_cons_succ])
            refine wpAnyE_one (i := 6) (o := { dst := some 63, op := Op.buildSlice 29 0 #[], type := 29, pos := "law.go:54", after := #[], guard := none }) (by kernel_rfl) rfl (fun K hK => ?_)
            go_simp
            have HD1 := Lib.hid (HD0.out.below (below_alloc Y (.cells #[] 5)))
            have HC1 := Lib.hid (HIN.out _ HD1.out.bel)
            refine hK.out _ _ (fun hL => ?_) ?_
            · exact HC1.out
            clear hK K
            repeat (first | simp only [Act.put] | simp only [List.setIfInBounds_toArray] | simp only [List.set_cons_zero] | simp only [List.set_cons_succ])
            refine wpAnyE_one (i := 12) (o := { dst := some 69, op := Op.call { callee := Callee.builtin Builtin.append, args := #[Operand.tmp 63, Operand.tmp 68], argTypes := #[29, 29] }, type := 29, pos := "law.go:54", after := #[{ on := 6, ground := Ground.data }, { on := 11, ground := Ground.data }], guard := none }) (by kernel_rfl) rfl (fun K hK => ?_)
            refine step_append_fresh2 (by rfl) _ _ (by rfl) _ (by rfl) (.slice da d.length dc) d (by rfl) (HRD.out.below HD1.out.bel) (by omega) (lo := _) (Nat.le_refl _) ?_
            intro v3 w3 hv3 hp3 hb3
            have HD3 := Lib.hid (HD1.out.below hb3)
            have HC3 := Lib.hid (HIN.out _ HD3.out.bel)
            have hput := duo_put aa HD3.out (by omega) hv3.rd hp3 HRD.out hd60
            obtain ⟨a3, c3, rfl⟩ := hv3.rd.shape
            clear hv3 hp3 hb3
            refine hK.out _ _ (fun hL => ?_) ?_
            · exact HC3.out
            clear hK K
            repeat (first | simp only [Act.put] | simp only [List.setIfInBounds_toArray] | simp only [List.set_cons_zero] | simp only [List.set_cons_succ])
            refine wpAnyE_one (i := 13) (o := { dst := some 70, op := Op.call { callee := Callee.value (Operand.func 7), args := #[Operand.tmp 57, Operand.tmp 62, Operand.tmp 69], argTypes := #[23, 3, 29] }, type := 34, pos := "law.go:54", after := #[{ on := 0, ground := Ground.data }, { on := 5, ground := Ground.data }, { on := 12, ground := Ground.data }, { on := 12, ground := Ground.chain }], guard := none }) (by kernel_rfl) rfl (fun K hK => ?_)
            go_simp
            refine hput.mono ?_
            rintro e w4 ⟨c4, rfl, hb4, hput2⟩
            have HC4 := Lib.hid (HIN.out _ hb4)
            clear hput hb4
            refine hK.out _ _ (fun hL => ?_) ?_
            · exact HC4.out
            clear hK K
            repeat (first | simp only [Act.put] | simp only [List.setIfInBounds_toArray] | simp only [List.set_cons_zero] | simp only [List.set_cons_succ])
            refine wpAnyE_one (i := 25) (o := { dst := some 82, op := Op.call { callee := Callee.value (Operand.func 8), args := #[Operand.tmp 71, Operand.tmp 76, Operand.tmp 81], argTypes := #[27, 3, 29] }, type := 3, pos := "law.go:54", after := #[{ on := 14, ground := Ground.data }, { on := 19, ground := Ground.data }, { on := 24, ground := Ground.data }, { on := 13, ground := Ground.chain }], guard := none }) (by kernel_rfl) rfl (fun K hK => ?_)
            go_simp
            refine hput2.mono ?_
            rintro e w5 ⟨rfl, mo5, E5, av5, bv5, hl5, hD5⟩
            have HD5 := Lib.hid hD5
            have HC5 := Lib.hid (HIN.out _ hD5.bel)
            clear hput2 hD5
            refine hK.out _ _ (fun hL => ?_) ?_
            · exact HC5.out
            clear hK K
            repeat (first | simp only [Act.put] | simp only [List.setIfInBounds_toArray] | simp only [List.set_cons_zero] | simp only [List.set_cons_succ])
            refine wpAnyE_one (i := 26) (o := { dst := some 83, op := Op.binOp BinOp.neq 3 (Operand.tmp 70) (Operand.tmp 82) 3, type := 4, pos := "law.go:54", after := #[{ on := 13, ground := Ground.data }, { on := 25, ground := Ground.data }], guard := none }) (by kernel_rfl) rfl (fun K hK => ?_)
            have hcc : (c4 != c4) = false := by simp
            go_simp
            refine hK.out _ _ (fun hL => absurd hL (by decide)) ?_
            clear hK K
            repeat (first | simp only [Act.put] | simp only [List.setIfInBounds_toArray] | simp only [List.set_cons_zero] | simp only [List.set_cons_succ])
            refine wpAnyE_done (by kernel_rfl) ?_ _
            go_wp2_with fail
            refine wp_region_end 6 (fun w' => w'.cell? ⟨R, 0, none⟩ = some (.int .i64 (t : Int))) (by kernel_rfl) ?_
            have HD8 := Lib.hid (HD5.out.below (below_drewR w5))
            have HC8 : Hid (w5.drew.cell? ⟨R, 0, none⟩ = some (.int .i64 (t : Int))) := Lib.hid ((cell_of_row _ R 0 _ 31 (0, 0) HD8.out.rs.box).trans rfl)
            have htk := taken_any HD8.out.st
            generalize w5.drew = Z at HD8 HC8 htk ⊢
            refine wpAnyE_take [1, 0] (i := 0) (oi := { dst := some 84, op := Op.move (Operand.tmp 3), type := 23, pos := "law.go:57", after := #[], guard := none }) (v := ?_) rfl (by kernel_rfl) (by kernel_rfl) (by kernel_rfl) (by kernel_rfl) rfl rfl (by kernel_rfl) (by kernel_rfl) (fun _ _ _ h => h) (Or.inl ⟨by rfl, ?_⟩) (by exact HC8.out) ?_
            rotate_left
            · intro w hSw; (try dsimp only at hSw); go_simp; try (with_reducible rfl)
            repeat (first | simp only [Act.put] | simp only [List.setIfInBounds_toArray] | simp only [List.set_cons_zero] | simp only [List.set_cons_succ])
            refine wpAnyE_take [5, 4, 3, 2] (i := 2) (oi := { dst := some 86, op := Op.move (Operand.tmp 4), type := 27, pos := "law.go:57", after := #[], guard := none }) (v := ?_) rfl (by kernel_rfl) (by kernel_rfl) (by kernel_rfl) (by kernel_rfl) rfl rfl (by kernel_rfl) (by kernel_rfl) (fun _ _ _ h => h) (Or.inl ⟨by rfl, ?_⟩) (by exact HC8.out) ?_
            rotate_left
            · intro w hSw; (try dsimp only at hSw); go_simp; try (with_reducible rfl)
            repeat (first | simp only [Act.put] | simp only [List.setIfInBounds_toArray] | simp only [List.set_cons_zero] | simp only [List.set_cons_succ])
            refine wpAnyE_take [5, 4, 3] (i := 3) (oi := { dst := some 87, op := Op.nilCheck (Operand.tmp 86), type := 0, pos := "law.go:57", after := #[{ on := 2, ground := Ground.data }], guard := none }) (v := ?_) rfl (by kernel_rfl) (by kernel_rfl) (by kernel_rfl) (by kernel_rfl) rfl rfl (by kernel_rfl) (by kernel_rfl) (fun _ _ _ h => h) (Or.inl ⟨by rfl, ?_⟩) (by exact HC8.out) ?_
            rotate_left
            · intro w hSw; (try dsimp only at hSw); go_simp; try (with_reducible rfl)
            repeat (first | simp only [Act.put] | simp only [List.setIfInBounds_toArray] | simp only [List.set_cons_zero] | simp only [List.set_cons_succ])
            refine wpAnyE_take [5, 4] (i := 4) (oi := { dst := some 88, op := Op.fieldAddr 31 (Operand.tmp 87) 0, type := 0, pos := "law.go:57", after := #[{ on := 3, ground := Ground.data }], guard := none }) (v := ?_) rfl (by kernel_rfl) (by kernel_rfl) (by kernel_rfl) (by kernel_rfl) rfl rfl (by kernel_rfl) (by kernel_rfl) (fun _ _ _ h => h) (Or.inl ⟨by rfl, ?_⟩) (by exact HC8.out) ?_
            rotate_left
            · intro w hSw; (try dsimp only at hSw); go_simp; try (with_reducible rfl)
            repeat (first | simp only [Act.put] | simp only [List.setIfInBounds_toArray] | simp only [List.set_cons_zero] | simp only [List.set_cons_succ])
            refine wpAnyE_take [5] (i := 5) (oi := { dst := some 89, op := Op.load 3 (Operand.tmp 88), type := 3, pos := "law.go:57", after := #[{ on := 4, ground := Ground.data }], guard := none }) (v := ?_) rfl (by kernel_rfl) (by kernel_rfl) (by kernel_rfl) (by kernel_rfl) rfl rfl (by kernel_rfl) (by kernel_rfl) (fun _ _ _ h => h) (Or.inl ⟨by rfl, ?_⟩) (by exact HC8.out) ?_
            rotate_left
            · intro w hSw; (try dsimp only at hSw); go_simp; try (with_reducible rfl)
            repeat (first | simp only [Act.put] | simp only [List.setIfInBounds_toArray] | simp only [List.set_cons_zero] | simp only [List.set_cons_succ])
            refine wpAnyE_one (i := 1) (o := { dst := some 85, op := Op.call { callee := Callee.value (Operand.func 9), args := #[Operand.tmp 84], argTypes := #[23] }, type := 3, pos := "law.go:57", after := #[{ on := 0, ground := Ground.data }], guard := none }) (by kernel_rfl) rfl (fun K hK => ?_)
            go_simp
            refine htk.mono ?_
            rintro e w9 ⟨rfl, rfl⟩
            refine hK.out _ _ (fun hL => ?_) ?_
            · exact HC8.out
            clear hK K
            repeat (first | simp only [Act.put] | simp only [List.setIfInBounds_toArray] | simp only [List.set_cons_zero] | simp only [List.set_cons_succ])
            refine wpAnyE_one (i := 6) (o := { dst := some 90, op := Op.binOp BinOp.neq 3 (Operand.tmp 85) (Operand.tmp 89) 3, type := 4, pos := "law.go:57", after := #[{ on := 1, ground := Ground.data }, { on := 5, ground := Ground.data }], guard := none }) (by kernel_rfl) rfl (fun K hK => ?_)
            have htt : ((t : Int) != (t : Int)) = false := by simp
            go_simp
            refine hK.out _ _ (fun hL => absurd hL (by decide)) ?_
            clear hK K
            repeat (first | simp only [Act.put] | simp only [List.setIfInBounds_toArray] | simp only [List.set_cons_zero] | simp only [List.set_cons_succ])
            refine wpAnyE_done (by kernel_rfl) ?_ _
            go_wp2_with fail
            go_roundw
            case rel => exact ⟨0 + 1, t, by go_num, by omega, Lib.hid ⟨_, _, _, _, _, HD8.out⟩⟩
            case measure => simp [intOf] <;> omega
        · skip
          cases sn with
          | true =>
            have hnx := duo_next HD.out (by omega)
            go_wp2_with fail
            refine hnx.mono ?_
            rintro e w2 ⟨v2, c2, xs, rfl, hr2, hnx2⟩
            have hsh2 := hr2.shape
            obtain ⟨q2, n2, rfl⟩ := hsh2
            clear hnx hr2 c0' c1' c2' HIN
            go_wp2_with fail
            refine hnx2.mono ?_
            rintro e w3 ⟨v3, t3, rfl, hr2, hr3, mo3, E3, av3, bv3, hl3, hD3⟩
            have hsm := same_true hr2 hr3
            have HD3 := Lib.hid hD3
            obtain ⟨q3, n3, rfl⟩ := hr3.shape
            have hcc : (c2 != c2) = false := by simp
            clear hnx2 hr2 hr3 hD3
            go_wp2_with (go_at_call 6; refine hsm.mono ?_; rintro e w4 ⟨rfl, hb4⟩; have HD4 := Lib.hid (HD3.out.below hb4); clear hb4 hsm)
            refine wp_region_end 6 (fun w' => w'.cell? ⟨R, 0, none⟩ = some (.int .i64 (t3 : Int))) (by kernel_rfl) ?_
            have HD8 := Lib.hid (HD4.out.below (below_drewR w4))
            have HC8 : Hid (w4.drew.cell? ⟨R, 0, none⟩ = some (.int .i64 (t3 : Int))) := Lib.hid ((cell_of_row _ R 0 _ 31 (0, 0) HD8.out.rs.box).trans rfl)
            have htk := taken_any HD8.out.st
            generalize w4.drew = Z at HD8 HC8 htk ⊢
            refine wpAnyE_take [1, 0] (i := 0) (oi := { dst := some 84, op := Op.move (Operand.tmp 3), type := 23, pos := "law.go:57", after := #[], guard := none }) (v := ?_) rfl (by kernel_rfl) (by kernel_rfl) (by kernel_rfl) (by kernel_rfl) rfl rfl (by kernel_rfl) (by kernel_rfl) (fun _ _ _ h => h) (Or.inl ⟨by rfl, ?_⟩) (by exact HC8.out) ?_
            rotate_left
            · intro w hSw; (try dsimp only at hSw); go_simp; try (with_reducible rfl)
            repeat (first | simp only [Act.put] | simp only [List.setIfInBounds_toArray] | simp only [List.set_cons_zero] | simp only [List.set_cons_succ])
            refine wpAnyE_take [5, 4, 3, 2] (i := 2) (oi := { dst := some 86, op := Op.move (Operand.tmp 4), type := 27, pos := "law.go:57", after := #[], guard := none }) (v := ?_) rfl (by kernel_rfl) (by kernel_rfl) (by kernel_rfl) (by kernel_rfl) rfl rfl (by kernel_rfl) (by kernel_rfl) (fun _ _ _ h => h) (Or.inl ⟨by rfl, ?_⟩) (by exact HC8.out) ?_
            rotate_left
            · intro w hSw; (try dsimp only at hSw); go_simp; try (with_reducible rfl)
            repeat (first | simp only [Act.put] | simp only [List.setIfInBounds_toArray] | simp only [List.set_cons_zero] | simp only [List.set_cons_succ])
            refine wpAnyE_take [5, 4, 3] (i := 3) (oi := { dst := some 87, op := Op.nilCheck (Operand.tmp 86), type := 0, pos := "law.go:57", after := #[{ on := 2, ground := Ground.data }], guard := none }) (v := ?_) rfl (by kernel_rfl) (by kernel_rfl) (by kernel_rfl) (by kernel_rfl) rfl rfl (by kernel_rfl) (by kernel_rfl) (fun _ _ _ h => h) (Or.inl ⟨by rfl, ?_⟩) (by exact HC8.out) ?_
            rotate_left
            · intro w hSw; (try dsimp only at hSw); go_simp; try (with_reducible rfl)
            repeat (first | simp only [Act.put] | simp only [List.setIfInBounds_toArray] | simp only [List.set_cons_zero] | simp only [List.set_cons_succ])
            refine wpAnyE_take [5, 4] (i := 4) (oi := { dst := some 88, op := Op.fieldAddr 31 (Operand.tmp 87) 0, type := 0, pos := "law.go:57", after := #[{ on := 3, ground := Ground.data }], guard := none }) (v := ?_) rfl (by kernel_rfl) (by kernel_rfl) (by kernel_rfl) (by kernel_rfl) rfl rfl (by kernel_rfl) (by kernel_rfl) (fun _ _ _ h => h) (Or.inl ⟨by rfl, ?_⟩) (by exact HC8.out) ?_
            rotate_left
            · intro w hSw; (try dsimp only at hSw); go_simp; try (with_reducible rfl)
            repeat (first | simp only [Act.put] | simp only [List.setIfInBounds_toArray] | simp only [List.set_cons_zero] | simp only [List.set_cons_succ])
            refine wpAnyE_take [5] (i := 5) (oi := { dst := some 89, op := Op.load 3 (Operand.tmp 88), type := 3, pos := "law.go:57", after := #[{ on := 4, ground := Ground.data }], guard := none }) (v := ?_) rfl (by kernel_rfl) (by kernel_rfl) (by kernel_rfl) (by kernel_rfl) rfl rfl (by kernel_rfl) (by kernel_rfl) (fun _ _ _ h => h) (Or.inl ⟨by rfl, ?_⟩) (by exact HC8.out) ?_
            rotate_left
            · intro w hSw; (try dsimp only at hSw); go_simp; try (with_reducible rfl)
            repeat (first | simp only [Act.put] | simp only [List.setIfInBounds_toArray] | simp only [List.set_cons_zero] | simp only [List.set_cons_succ])
            refine wpAnyE_one (i := 1) (o := { dst := some 85, op := Op.call { callee := Callee.value (Operand.func 9), args := #[Operand.tmp 84], argTypes := #[23] }, type := 3, pos := "law.go:57", after := #[{ on := 0, ground := Ground.data }], guard := none }) (by kernel_rfl) rfl (fun K hK => ?_)
            go_simp
            refine htk.mono ?_
            rintro e w9 ⟨rfl, rfl⟩
            refine hK.out _ _ (fun hL => ?_) ?_
            · exact HC8.out
            clear hK K
            repeat (first | simp only [Act.put] | simp only [List.setIfInBounds_toArray] | simp only [List.set_cons_zero] | simp only [List.set_cons_succ])
            refine wpAnyE_one (i := 6) (o := { dst := some 90, op := Op.binOp BinOp.neq 3 (Operand.tmp 85) (Operand.tmp 89) 3, type := 4, pos := "law.go:57", after := #[{ on := 1, ground := Ground.data }, { on := 5, ground := Ground.data }], guard := none }) (by kernel_rfl) rfl (fun K hK => ?_)
            have htt : ((t3 : Int) != (t3 : Int)) = false := by simp
            go_simp
            refine hK.out _ _ (fun hL => absurd hL (by decide)) ?_
            clear hK K
            repeat (first | simp only [Act.put] | simp only [List.setIfInBounds_toArray] | simp only [List.set_cons_zero] | simp only [List.set_cons_succ])
            refine wpAnyE_done (by kernel_rfl) ?_ _
            go_wp2_with fail
            go_roundw
            case rel => exact ⟨k + 1, t3, by go_num, by omega, Lib.hid ⟨_, _, _, _, _, HD8.out⟩⟩
            case measure => simp [intOf] <;> omega
          | false =>
            go_wp2_with fail
            clear c0' c1' c2'
            refine wp_region_end 26 (fun w' => w'.cell? ⟨b, (off + k * 3) + 1, none⟩ = some (.int .i64 aa) ∧ w'.cell? ⟨b, (off + k * 3) + 2, none⟩ = some (.slice da d.length dc)) (by kernel_rfl) ?_
            have HD0 := Lib.hid (HD.out.below (below_drewR wr))
            have HC0 := Lib.hid (HIN.out wr.drew HD0.out.bel)
            generalize wr.drew = Y at HD0 HC0 ⊢
            refine wpAnyE_take [13, 0] (i := 0) (oi := { dst := some 57, op := Op.move (Operand.tmp 3), type := 23, pos := "law.go:54", after := #[], guard := none }) (v := ?_) rfl (by kernel_rfl) (by kernel_rfl) (by kernel_rfl) (by kernel_rfl) rfl rfl (by kernel_rfl) (by kernel_rfl) (fun _ _ _ h => h) (Or.inl ⟨by rfl, ?_⟩) (by exact HC0.out) ?_
            rotate_left
            · intro w hSw; (try dsimp only at hSw); obtain ⟨r0, r1⟩ := hSw; go_simp; try (with_reducible rfl)
            repeat (first | simp only [Act.put] | simp only [List.setIfInBounds_toArray] | simp only [List.set_cons_zero] | simp only [List.set_cons_succ])
            refine wpAnyE_take [13, 5, 4, 3, 1] (i := 1) (oi := { dst := some 58, op := Op.move (Operand.tmp 0), type := 22, pos := "law.go:54", after := #[], guard := none }) (v := ?_) rfl (by kernel_rfl) (by kernel_rfl) (by kernel_rfl) (by kernel_rfl) rfl rfl (by kernel_rfl) (by kernel_rfl) (fun _ _ _ h => h) (Or.inl ⟨by rfl, ?_⟩) (by exact HC0.out) ?_
            rotate_left
            · intro w hSw; (try dsimp only at hSw); obtain ⟨r0, r1⟩ := hSw; go_simp; try (with_reducible rfl)
            repeat (first | simp only [Act.put] | simp only [List.setIfInBounds_toArray] | simp only [List.set_cons_zero] | simp only [List.set_cons_succ])
            refine wpAnyE_take [13, 5, 4, 3, 2] (i := 2) (oi := { dst := some 59, op := Op.move (Operand.tmp 5), type := 3, pos := "law.go:54", after := #[], guard := none }) (v := ?_) rfl (by kernel_rfl) (by kernel_rfl) (by kernel_rfl) (by kernel_rfl) rfl rfl (by kernel_rfl) (by kernel_rfl) (fun _ _ _ h => h) (Or.inl ⟨by rfl, ?_⟩) (by exact HC0.out) ?_
            rotate_left
            · intro w hSw; (try dsimp only at hSw); obtain ⟨r0, r1⟩ := hSw; go_simp; try (with_reducible rfl)
            repeat (first | simp only [Act.put] | simp only [List.setIfInBounds_toArray] | simp only [List.set_cons_zero] | simp only [List.set_cons_succ])
            refine wpAnyE_take [13, 5, 4, 3] (i := 3) (oi := { dst := some 60, op := Op.indexAddr 22 (Operand.tmp 58) (Operand.tmp 59), type := 0, pos := "law.go:54", after := #[{ on := 1, ground := Ground.data }, { on := 2, ground := Ground.data }], guard := none }) (v := ?_) rfl (by kernel_rfl) (by kernel_rfl) (by kernel_rfl) (by kernel_rfl) rfl rfl (by kernel_rfl) (by kernel_rfl) (fun _ _ _ h => h) (Or.inl ⟨by rfl, ?_⟩) (by exact HC0.out) ?_
            rotate_left
            · intro w hSw; (try dsimp only at hSw); obtain ⟨r0, r1⟩ := hSw; go_simp; try (with_reducible rfl)
            repeat (first | simp only [Act.put] | simp only [List.setIfInBounds_toArray] | simp only [List.set_cons_zero] | simp only [List.set_cons_succ])
            refine wpAnyE_take [13, 5, 4] (i := 4) (oi := { dst := some 61, op := Op.fieldAddr 33 (Operand.tmp 60) 1, type := 0, pos := "law.go:54", after := #[{ on := 3, ground := Ground.data }], guard := none }) (v := ?_) rfl (by kernel_rfl) (by kernel_rfl) (by kernel_rfl) (by kernel_rfl) rfl rfl (by kernel_rfl) (by kernel_rfl) (fun _ _ _ h => h) (Or.inl ⟨by rfl, ?_⟩) (by exact HC0.out) ?_
            rotate_left
            · intro w hSw; (try dsimp only at hSw); obtain ⟨r0, r1⟩ := hSw; go_simp; try (with_reducible rfl)
            repeat (first | simp only [Act.put] | simp only [List.setIfInBounds_toArray] | simp only [List.set_cons_zero] | simp only [List.set_cons_succ])
            refine wpAnyE_take [13, 5] (i := 5) (oi := { dst := some 62, op := Op.load 3 (Operand.tmp 61), type := 3, pos := "law.go:54", after := #[{ on := 4, ground := Ground.data }], guard := none }) (v := ?_) rfl (by kernel_rfl) (by kernel_rfl) (by kernel_rfl) (by kernel_rfl) rfl rfl (by kernel_rfl) (by kernel_rfl) (fun _ _ _ h => h) (Or.inl ⟨by rfl, ?_⟩) (by exact HC0.out) ?_
            rotate_left
            · intro w hSw; (try dsimp only at hSw); obtain ⟨r0, r1⟩ := hSw; go_simp; try (with_reducible rfl)
            repeat (first | simp only [Act.put] | simp only [List.setIfInBounds_toArray] | simp only [List.set_cons_zero] | simp only [List.set_cons_succ])
            refine wpAnyE_take [13, 12, 11, 10, 9, 7] (i := 7) (oi := { dst := some 64, op := Op.move (Operand.tmp 0), type := 22, pos := "law.go:54", after := #[], guard := none }) (v := ?_) rfl (by kernel_rfl) (by kernel_rfl) (by kernel_rfl) (by kernel_rfl) rfl rfl (by kernel_rfl) (by kernel_rfl) (fun _ _ _ h => h) (Or.inl ⟨by rfl, ?_⟩) (by exact HC0.out) ?_
            rotate_left
            · intro w hSw; (try dsimp only at hSw); obtain ⟨r0, r1⟩ := hSw; go_simp; try (with_reducible rfl)
            repeat (first | simp only [Act.put] | simp only [List.setIfInBounds_toArray] | simp only [List.set_cons_zero] | simp only [List.set_cons_succ])
            refine wpAnyE_take [13, 12, 11, 10, 9, 8] (i := 8) (oi := { dst := some 65, op := Op.move (Operand.tmp 5), type := 3, pos := "law.go:54", after := #[], guard := none }) (v := ?_) rfl (by kernel_rfl) (by kernel_rfl) (by kernel_rfl) (by kernel_rfl) rfl rfl (by kernel_rfl) (by kernel_rfl) (fun _ _ _ h => h) (Or.inl ⟨by rfl, ?_⟩) (by exact HC0.out) ?_
            rotate_left
            · intro w hSw; (try dsimp only at hSw); obtain ⟨r0, r1⟩ := hSw; go_simp; try (with_reducible rfl)
            repeat (first | simp only [Act.put] | simp only [List.setIfInBounds_toArray] | simp only [List.set_cons_zero] | simp only [List.set_cons_succ])
            refine wpAnyE_take [13, 12, 11, 10, 9] (i := 9) (oi := { dst := some 66, op := Op.indexAddr 22 (Operand.tmp 64) (Operand.tmp 65), type := 0, pos := "law.go:54", after := #[{ on := 7, ground := Ground.data }, { on := 8, ground := Ground.data }], guard := none }) (v := ?_) rfl (by kernel_rfl) (by kernel_rfl) (by kernel_rfl) (by kernel_rfl) rfl rfl (by kernel_rfl) (by kernel_rfl) (fun _ _ _ h => h) (Or.inl ⟨by rfl, ?_⟩) (by exact HC0.out) ?_
            rotate_left
            · intro w hSw; (try dsimp only at hSw); obtain ⟨r0, r1⟩ := hSw; go_simp; try (with_reducible rfl)
            repeat (first | simp only [Act.put] | simp only [List.setIfInBounds_toArray] | simp only [List.set_cons_zero] | simp only [List.set_cons_succ])
            refine wpAnyE_take [13, 12, 11, 10] (i := 10) (oi := { dst := some 67, op := Op.fieldAddr 33 (Operand.tmp 66) 2, type := 0, pos := "law.go:54", after := #[{ on := 9, ground := Ground.data }], guard := none }) (v := ?_) rfl (by kernel_rfl) (by kernel_rfl) (by kernel_rfl) (by kernel_rfl) rfl rfl (by kernel_rfl) (by kernel_rfl) (fun _ _ _ h => h) (Or.inl ⟨by rfl, ?_⟩) (by exact HC0.out) ?_
            rotate_left
            · intro w hSw; (try dsimp only at hSw); obtain ⟨r0, r1⟩ := hSw; go_simp; try (with_reducible rfl)
            repeat (first | simp only [Act.put] | simp only [List.setIfInBounds_toArray] | simp only [List.set_cons_zero] | simp only [List.set_cons_succ])
            refine wpAnyE_take [13, 12, 11] (i := 11) (oi := { dst := some 68, op := Op.load 29 (Operand.tmp 67), type := 29, pos := "law.go:54", after := #[{ on := 10, ground := Ground.data }], guard := none }) (v := ?_) rfl (by kernel_rfl) (by kernel_rfl) (by kernel_rfl) (by kernel_rfl) rfl rfl (by kernel_rfl) (by kernel_rfl) (fun _ _ _ h => h) (Or.inl ⟨by rfl, ?_⟩) (by exact HC0.out) ?_
            rotate_left
            · intro w hSw; (try dsimp only at hSw); obtain ⟨r0, r1⟩ := hSw; go_simp; try (with_reducible rfl)
            repeat (first | simp only [Act.put] | simp only [List.setIfInBounds_toArray] | simp only [List.set_cons_zero] | simp only [List.set_cons_succ])
            refine wpAnyE_take [25, 14] (i := 14) (oi := { dst := some 71, op := Op.move (Operand.tmp 4), type := 27, pos := "law.go:54", after := #[], guard := none }) (v := ?_) rfl (by kernel_rfl) (by kernel_rfl) (by kernel_rfl) (by kernel_rfl) rfl rfl (by kernel_rfl) (by kernel_rfl) (fun _ _ _ h => h) (Or.inl ⟨by rfl, ?_⟩) (by exact HC0.out) ?_
            rotate_left
            · intro w hSw; (try dsimp only at hSw); obtain ⟨r0, r1⟩ := hSw; go_simp; try (with_reducible rfl)
            repeat (first | simp only [Act.put] | simp only [List.setIfInBounds_toArray] | simp only [List.set_cons_zero] | simp only [List.set_cons_succ])
            refine wpAnyE_take [25, 19, 18, 17, 15] (i := 15) (oi := { dst := some 72, op := Op.move (Operand.tmp 0), type := 22, pos := "law.go:54", after := #[], guard := none }) (v := ?_) rfl (by kernel_rfl) (by kernel_rfl) (by kernel_rfl) (by kernel_rfl) rfl rfl (by kernel_rfl) (by kernel_rfl) (fun _ _ _ h => h) (Or.inl ⟨by rfl, ?_⟩) (by exact HC0.out) ?_
            rotate_left
            · intro w hSw; (try dsimp only at hSw); obtain ⟨r0, r1⟩ := hSw; go_simp; try (with_reducible rfl)
            repeat (first | simp only [Act.put] | simp only [List.setIfInBounds_toArray] | simp only [List.set_cons_zero] | simp only [List.set_cons_succ])
            refine wpAnyE_take [25, 19, 18, 17, 16] (i := 16) (oi := { dst := some 73, op := Op.move (Operand.tmp 5), type := 3, pos := "law.go:54", after := #[], guard := none }) (v := ?_) rfl (by kernel_rfl) (by kernel_rfl) (by kernel_rfl) (by kernel_rfl) rfl rfl (by kernel_rfl) (by kernel_rfl) (fun _ _ _ h => h) (Or.inl ⟨by rfl, ?_⟩) (by exact HC0.out) ?_
            rotate_left
            · intro w hSw; (try dsimp only at hSw); obtain ⟨r0, r1⟩ := hSw; go_simp; try (with_reducible rfl)
            repeat (first | simp only [Act.put] | simp only [List.setIfInBounds_toArray] | simp only [List.set_cons_zero] | simp only [List.set_cons_succ])
            refine wpAnyE_take [25, 19, 18, 17] (i := 17) (oi := { dst := some 74, op := Op.indexAddr 22 (Operand.tmp 72) (Operand.tmp 73), type := 0, pos := "law.go:54", after := #[{ on := 15, ground := Ground.data }, { on := 16, ground := Ground.data }], guard := none }) (v := ?_) rfl (by kernel_rfl) (by kernel_rfl) (by kernel_rfl) (by kernel_rfl) rfl rfl (by kernel_rfl) (by kernel_rfl) (fun _ _ _ h => h) (Or.inl ⟨by rfl, ?_⟩) (by exact HC0.out) ?_
            rotate_left
            · intro w hSw; (try dsimp only at hSw); obtain ⟨r0, r1⟩ := hSw; go_simp; try (with_reducible rfl)
            repeat (first | simp only [Act.put] | simp only [List.setIfInBounds_toArray] | simp only [List.set_cons_zero] | simp only [List.set_cons_succ])
            refine wpAnyE_take [25, 19, 18] (i := 18) (oi := { dst := some 75, op := Op.fieldAddr 33 (Operand.tmp 74) 1, type := 0, pos := "law.go:54", after := #[{ on := 17, ground := Ground.data }], guard := none }) (v := ?_) rfl (by kernel_rfl) (by kernel_rfl) (by kernel_rfl) (by kernel_rfl) rfl rfl (by kernel_rfl) (by kernel_rfl) (fun _ _ _ h => h) (Or.inl ⟨by rfl, ?_⟩) (by exact HC0.out) ?_
            rotate_left
            · intro w hSw; (try dsimp only at hSw); obtain ⟨r0, r1⟩ := hSw; go_simp; try (with_reducible rfl)
            repeat (first | simp only [Act.put] | simp only [List.setIfInBounds_toArray] | simp only [List.set_cons_zero] | simp only [List.set_cons_succ])
            refine wpAnyE_take [25, 19] (i := 19) (oi := { dst := some 76, op := Op.load 3 (Operand.tmp 75), type := 3, pos := "law.go:54", after := #[{ on := 18, ground := Ground.data }], guard := none }) (v := ?_) rfl (by kernel_rfl) (by kernel_rfl) (by kernel_rfl) (by kernel_rfl) rfl rfl (by kernel_rfl) (by kernel_rfl) (fun _ _ _ h => h) (Or.inl ⟨by rfl, ?_⟩) (by exact HC0.out) ?_
            rotate_left
            · intro w hSw; (try dsimp only at hSw); obtain ⟨r0, r1⟩ := hSw; go_simp; try (with_reducible rfl)
            repeat (first | simp only [Act.put] | simp only [List.setIfInBounds_toArray] | simp only [List.set_cons_zero] | simp only [List.set_cons_succ])
            refine wpAnyE_take [25, 24, 23, 22, 20] (i := 20) (oi := { dst := some 77, op := Op.move (Operand.tmp 0), type := 22, pos := "law.go:54", after := #[], guard := none }) (v := ?_) rfl (by kernel_rfl) (by kernel_rfl) (by kernel_rfl) (by kernel_rfl) rfl rfl (by kernel_rfl) (by kernel_rfl) (fun _ _ _ h => h) (Or.inl ⟨by rfl, ?_⟩) (by exact HC0.out) ?_
            rotate_left
            · intro w hSw; (try dsimp only at hSw); obtain ⟨r0, r1⟩ := hSw; go_simp; try (with_reducible rfl)
            repeat (first | simp only [Act.put] | simp only [List.setIfInBounds_toArray] | simp only [List.set_cons_zero] | simp only [List.set_cons_succ])
            refine wpAnyE_take [25, 24, 23, 22, 21] (i := 21) (oi := { dst := some 78, op := Op.move (Operand.tmp 5), type := 3, pos := "law.go:54", after := #[], guard := none }) (v := ?_) rfl (by kernel_rfl) (by kernel_rfl) (by kernel_rfl) (by kernel_rfl) rfl rfl (by kernel_rfl) (by kernel_rfl) (fun _ _ _ h => h) (Or.inl ⟨by rfl, ?_⟩) (by exact HC0.out) ?_
            rotate_left
            · intro w hSw; (try dsimp only at hSw); obtain ⟨r0, r1⟩ := hSw; go_simp; try (with_reducible rfl)
            repeat (first | simp only [Act.put] | simp only [List.setIfInBounds_toArray] | simp only [List.set_cons_zero] | simp only [List.set_cons_succ])
            refine wpAnyE_take [25, 24, 23, 22] (i := 22) (oi := { dst := some 79, op := Op.indexAddr 22 (Operand.tmp 77) (Operand.tmp 78), type := 0, pos := "law.go:54", after := #[{ on := 20, ground := Ground.data }, { on := 21, ground := Ground.data }], guard := none }) (v := ?_) rfl (by kernel_rfl) (by kernel_rfl) (by kernel_rfl) (by kernel_rfl) rfl rfl (by kernel_rfl) (by kernel_rfl) (fun _ _ _ h => h) (Or.inl ⟨by rfl, ?_⟩) (by exact HC0.out) ?_
            rotate_left
            · intro w hSw; (try dsimp only at hSw); obtain ⟨r0, r1⟩ := hSw; go_simp; try (with_reducible rfl)
            repeat (first | simp only [Act.put] | simp only [List.setIfInBounds_toArray] | simp only [List.set_cons_zero] | simp only [List.set_cons_succ])
            refine wpAnyE_take [25, 24, 23] (i := 23) (oi := { dst := some 80, op := Op.fieldAddr 33 (Operand.tmp 79) 2, type := 0, pos := "law.go:54", after := #[{ on := 22, ground := Ground.data }], guard := none }) (v := ?_) rfl (by kernel_rfl) (by kernel_rfl) (by kernel_rfl) (by kernel_rfl) rfl rfl (by kernel_rfl) (by kernel_rfl) (fun _ _ _ h => h) (Or.inl ⟨by rfl, ?_⟩) (by exact HC0.out) ?_
            rotate_left
            · intro w hSw; (try dsimp only at hSw); obtain ⟨r0, r1⟩ := hSw; go_simp; try (with_reducible rfl)
            repeat (first | simp only [Act.put] | simp only [List.setIfInBounds_toArray] | simp only [List.set_cons_zero] | simp only [List.set_cons_succ])
            refine wpAnyE_take [25, 24] (i := 24) (oi := { dst := some 81, op := Op.load 29 (Operand.tmp 80), type := 29, pos := "law.go:54", after := #[{ on := 23, ground := Ground.data }], guard := none }) (v := ?_) rfl (by kernel_rfl) (by kernel_rfl) (by kernel_rfl) (by kernel_rfl) rfl rfl (by kernel_rfl) (by kernel_rfl) (fun _ _ _ h => h) (Or.inl ⟨by rfl, ?_⟩) (by exact HC0.out) ?_
            rotate_left
            · intro w hSw; (try dsimp only at hSw); obtain ⟨r0, r1⟩ := hSw; go_simp; try (with_reducible rfl)
            repeat (first | simp only [Act.put] | simp only [List.setIfInBounds_toArray] | simp only [List.set_cons_zero] | simp only [List.set_cons_succ])
            refine wpAnyE_one (i := 6) (o := { dst := some 63, op := Op.buildSlice 29 0 #[], type := 29, pos := "law.go:54", after := #[], guard := none }) (by kernel_rfl) rfl (fun K hK => ?_)
            go_simp
            have HD1 := Lib.hid (HD0.out.below (below_alloc Y (.cells #[] 5)))
            have HC1 := Lib.hid (HIN.out _ HD1.out.bel)
            refine hK.out _ _ (fun hL => ?_) ?_
            · exact HC1.out
            clear hK K
            repeat (first | simp only [Act.put] | simp only [List.setIfInBounds_toArray] | simp only [List.set_cons_zero] | simp only [List.set_cons_succ])
            refine wpAnyE_one (i := 12) (o := { dst := some 69, op := Op.call { callee := Callee.builtin Builtin.append, args := #[Operand.tmp 63, Operand.tmp 68], argTypes := #[29, 29] }, type := 29, pos := "law.go:54", after := #[{ on := 6, ground := Ground.data }, { on := 11, ground := Ground.data }], guard := none }) (by kernel_rfl) rfl (fun K hK => ?_)
            refine step_append_fresh2 (by rfl) _ _ (by rfl) _ (by rfl) (.slice da d.length dc) d (by rfl) (HRD.out.below HD1.out.bel) (by omega) (lo := _) (Nat.le_refl _) ?_
            intro v3 w3 hv3 hp3 hb3
            have HD3 := Lib.hid (HD1.out.below hb3)
            have HC3 := Lib.hid (HIN.out _ HD3.out.bel)
            have hput := duo_put aa HD3.out (by omega) hv3.rd hp3 HRD.out hd60
            obtain ⟨a3, c3, rfl⟩ := hv3.rd.shape
            clear hv3 hp3 hb3
            refine hK.out _ _ (fun hL => ?_) ?_
            · exact HC3.out
            clear hK K
            repeat (first | simp only [Act.put] | simp only [List.setIfInBounds_toArray] | simp only [List.set_cons_zero] | simp only [List.set_cons_succ])
            refine wpAnyE_one (i := 13) (o := { dst := some 70, op := Op.call { callee := Callee.value (Operand.func 7), args := #[Operand.tmp 57, Operand.tmp 62, Operand.tmp 69], argTypes := #[23, 3, 29] }, type := 34, pos := "law.go:54", after := #[{ on := 0, ground := Ground.data }, { on := 5, ground := Ground.data }, { on := 12, ground := Ground.data }, { on := 12, ground := Ground.chain }], guard := none }) (by kernel_rfl) rfl (fun K hK => ?_)
            go_simp
            refine hput.mono ?_
            rintro e w4 ⟨c4, rfl, hb4, hput2⟩
            have HC4 := Lib.hid (HIN.out _ hb4)
            clear hput hb4
            refine hK.out _ _ (fun hL => ?_) ?_
            · exact HC4.out
            clear hK K
            repeat (first | simp only [Act.put] | simp only [List.setIfInBounds_toArray] | simp only [List.set_cons_zero] | simp only [List.set_cons_succ])
            refine wpAnyE_one (i := 25) (o := { dst := some 82, op := Op.call { callee := Callee.value (Operand.func 8), args := #[Operand.tmp 71, Operand.tmp 76, Operand.tmp 81], argTypes := #[27, 3, 29] }, type := 3, pos := "law.go:54", after := #[{ on := 14, ground := Ground.data }, { on := 19, ground := Ground.data }, { on := 24, ground := Ground.data }, { on := 13, ground := Ground.chain }], guard := none }) (by kernel_rfl) rfl (fun K hK => ?_)
            go_simp
            refine hput2.mono ?_
            rintro e w5 ⟨rfl, mo5, E5, av5, bv5, hl5, hD5⟩
            have HD5 := Lib.hid hD5
            have HC5 := Lib.hid (HIN.out _ hD5.bel)
            clear hput2 hD5
            refine hK.out _ _ (fun hL => ?_) ?_
            · exact HC5.out
            clear hK K
            repeat (first | simp only [Act.put] | simp only [List.setIfInBounds_toArray] | simp only [List.set_cons_zero] | simp only [List.set_cons_succ])
            refine wpAnyE_one (i := 26) (o := { dst := some 83, op := Op.binOp BinOp.neq 3 (Operand.tmp 70) (Operand.tmp 82) 3, type := 4, pos := "law.go:54", after := #[{ on := 13, ground := Ground.data }, { on := 25, ground := Ground.data }], guard := none }) (by kernel_rfl) rfl (fun K hK => ?_)
            have hcc : (c4 != c4) = false := by simp
            go_simp
            refine hK.out _ _ (fun hL => absurd hL (by decide)) ?_
            clear hK K
            repeat (first | simp only [Act.put] | simp only [List.setIfInBounds_toArray] | simp only [List.set_cons_zero] | simp only [List.set_cons_succ])
            refine wpAnyE_done (by kernel_rfl) ?_ _
            go_wp2_with fail
            refine wp_region_end 6 (fun w' => w'.cell? ⟨R, 0, none⟩ = some (.int .i64 (t : Int))) (by kernel_rfl) ?_
            have HD8 := Lib.hid (HD5.out.below (below_drewR w5))
            have HC8 : Hid (w5.drew.cell? ⟨R, 0, none⟩ = some (.int .i64 (t : Int))) := Lib.hid ((cell_of_row _ R 0 _ 31 (0, 0) HD8.out.rs.box).trans rfl)
            have htk := taken_any HD8.out.st
            generalize w5.drew = Z at HD8 HC8 htk ⊢
            refine wpAnyE_take [1, 0] (i := 0) (oi := { dst := some 84, op := Op.move (Operand.tmp 3), type := 23, pos := "law.go:57", after := #[], guard := none }) (v := ?_) rfl (by kernel_rfl) (by kernel_rfl) (by kernel_rfl) (by kernel_rfl) rfl rfl (by kernel_rfl) (by kernel_rfl) (fun _ _ _ h => h) (Or.inl ⟨by rfl, ?_⟩) (by exact HC8.out) ?_
            rotate_left
            · intro w hSw; (try dsimp only at hSw); go_simp; try (with_reducible rfl)
            repeat (first | simp only [Act.put] | simp only [List.setIfInBounds_toArray] | simp only [List.set_cons_zero] | simp only [List.set_cons_succ])
            refine wpAnyE_take [5, 4, 3, 2] (i := 2) (oi := { dst := some 86, op := Op.move (Operand.tmp 4), type := 27, pos := "law.go:57", after := #[], guard := none }) (v := ?_) rfl (by kernel_rfl) (by kernel_rfl) (by kernel_rfl) (by kernel_rfl) rfl rfl (by kernel_rfl) (by kernel_rfl) (fun _ _ _ h => h) (Or.inl ⟨by rfl, ?_⟩) (by exact HC8.out) ?_
            rotate_left
            · intro w hSw; (try dsimp only at hSw); go_simp; try (with_reducible rfl)
            repeat (first | simp only [Act.put] | simp only [List.setIfInBounds_toArray] | simp only [List.set_cons_zero] | simp only [List.set_cons_succ])
            refine wpAnyE_take [5, 4, 3] (i := 3) (oi := { dst := some 87, op := Op.nilCheck (Operand.tmp 86), type := 0, pos := "law.go:57", after := #[{ on := 2, ground := Ground.data }], guard := none }) (v := ?_) rfl (by kernel_rfl) (by kernel_rfl) (by kernel_rfl) (by kernel_rfl) rfl rfl (by kernel_rfl) (by kernel_rfl) (fun _ _ _ h => h) (Or.inl ⟨by rfl, ?_⟩) (by exact HC8.out) ?_
            rotate_left
            · intro w hSw; (try dsimp only at hSw); go_simp; try (with_reducible rfl)
            repeat (first | simp only [Act.put] | simp only [List.setIfInBounds_toArray] | simp only [List.set_cons_zero] | simp only [List.set_cons_succ])
            refine wpAnyE_take [5, 4] (i := 4) (oi := { dst := some 88, op := Op.fieldAddr 31 (Operand.tmp 87) 0, type := 0, pos := "law.go:57", after := #[{ on := 3, ground := Ground.data }], guard := none }) (v := ?_) rfl (by kernel_rfl) (by kernel_rfl) (by kernel_rfl) (by kernel_rfl) rfl rfl (by kernel_rfl) (by kernel_rfl) (fun _ _ _ h => h) (Or.inl ⟨by rfl, ?_⟩) (by exact HC8.out) ?_
            rotate_left
            · intro w hSw; (try dsimp only at hSw); go_simp; try (with_reducible rfl)
            repeat (first | simp only [Act.put] | simp only [List.setIfInBounds_toArray] | simp only [List.set_cons_zero] | simp only [List.set_cons_succ])
            refine wpAnyE_take [5] (i := 5) (oi := { dst := some 89, op := Op.load 3 (Operand.tmp 88), type := 3, pos := "law.go:57", after := #[{ on := 4, ground := Ground.data }], guard := none }) (v := ?_) rfl (by kernel_rfl) (by kernel_rfl) (by kernel_rfl) (by kernel_rfl) rfl rfl (by kernel_rfl) (by kernel_rfl) (fun _ _ _ h => h) (Or.inl ⟨by rfl, ?_⟩) (by exact HC8.out) ?_
            rotate_left
            · intro w hSw; (try dsimp only at hSw); go_simp; try (with_reducible rfl)
            repeat (first | simp only [Act.put] | simp only [List.setIfInBounds_toArray] | simp only [List.set_cons_zero] | simp only [List.set_cons_succ])
            refine wpAnyE_one (i := 1) (o := { dst := some 85, op := Op.call { callee := Callee.value (Operand.func 9), args := #[Operand.tmp 84], argTypes := #[23] }, type := 3, pos := "law.go:57", after := #[{ on := 0, ground := Ground.data }], guard := none }) (by kernel_rfl) rfl (fun K hK => ?_)
            go_simp
            refine htk.mono ?_
            rintro e w9 ⟨rfl, rfl⟩
            refine hK.out _ _ (fun hL => ?_) ?_
            · exact HC8.out
            clear hK K
            repeat (first | simp only [Act.put] | simp only [List.setIfInBounds_toArray] | simp only [List.set_cons_zero] | simp only [List.set_cons_succ])
            refine wpAnyE_one (i := 6) (o := { dst := some 90, op := Op.binOp BinOp.neq 3 (Operand.tmp 85) (Operand.tmp 89) 3, type := 4, pos := "law.go:57", after := #[{ on := 1, ground := Ground.data }, { on := 5, ground := Ground.data }], guard := none }) (by kernel_rfl) rfl (fun K hK => ?_)
            have htt : ((t : Int) != (t : Int)) = false := by simp
            go_simp
            refine hK.out _ _ (fun hL => absurd hL (by decide)) ?_
            clear hK K
            repeat (first | simp only [Act.put] | simp only [List.setIfInBounds_toArray] | simp only [List.set_cons_zero] | simp only [List.set_cons_succ])
            refine wpAnyE_done (by kernel_rfl) ?_ _
            go_wp2_with fail
            go_roundw
            case rel => exact ⟨k + 1, t, by go_num, by omega, Lib.hid ⟨_, _, _, _, _, HD8.out⟩⟩
            case measure => simp [intOf] <;> omega
    · obtain rfl : k = l.length := by omega
      obtain ⟨mo, E, av, bv, hl, hD⟩ := HDU.out
      have HBB := Lib.hid hD.bel
      clear hD
      go_wp2_with (first
        | (go_at_call 4; refine (next_nil _).mono ?_; rintro e w5 ⟨rfl, rfl⟩)
        | (go_at_call 7; refine (put_nil _).mono ?_; rintro e w5 ⟨rfl, rfl⟩)
        | (go_at_call 9; refine (taken_nil _).mono ?_; rintro e w5 ⟨rfl, rfl⟩)
        | (go_at_call 10; refine awake_any.mono ?_; rintro e w6 ⟨rfl, hb6⟩))
      go_ret
      exact ⟨rfl, HBB.out.trans (hb6.mono HBB.out.size)⟩
#print axioms sacts_any
end Go.Proofs.Ytfgjlfcadpmkhaa
