/- The document's stream: its Put. -/
import Derived.Test.YtfgjlfcadpmkhaaRPutA
import Derived.Test.YtfgjlfcadpmkhaaEndP
namespace Go.Proofs.Ytfgjlfcadpmkhaa
open Go Go.RowKit

theorem Pj.cc {wr X : World} {R base na nb : Nat} {tv av0 bv0 va vb zv : Value} {pz : Addr} {xs ys : List Value} (h : Pj wr R base tv av0 bv0 pz zv va na xs vb nb ys X) : X.cell? pz = some zv ∧ X.cell? ⟨R, 1, none⟩ = some av0 ∧ X.cell? ⟨R, 2, none⟩ = some bv0 := ⟨h.zc, h.f1, h.f2⟩
set_option maxRecDepth 20000 in
set_option maxHeartbeats 8000000 in
theorem rput_any {w0 w : World} {R base t : Nat} {av bv v : Value} {hl : List (Int × Int)} {zs : List Int} (at' : Int) (h : Rs w R base t av bv hl) (hn : hl.length ≤ 900000) (ht : t ≤ 2000000000) (hb0 : Below w0.heap.size w0 w) (hr : Rd w0 v zs) (hz : zs.length ≤ 1000) (hbs : w0.heap.size ≤ R) (hbw : base ≤ w.heap.size) :
    Calls Try.prog 8 #[.pointer (some ⟨R, 0, none⟩), .int .i64 at', v] w (RPutPost w R base t av bv hl at' zs) := by
  have c0 : w.cell? ⟨R, 0, none⟩ = some (.int .i64 t) := (cell_of_row w R 0 _ 31 (0, 0) h.box).trans rfl
  have H := Lib.hid h
  have HR := Lib.hid hr
  have HB0 := Lib.hid hb0
  have hrw := hr.below hb0
  obtain ⟨ao, cap, rfl⟩ := hr.shape
  have HRW := Lib.hid hrw
  clear h hr hb0 hrw
  by_cases hbad : at' < 0
  · go_enter Try.func8, Try.ntmps8
    go_wp2_with fail
    go_ret
    exact .inl ⟨1, rfl, .bad (.inl hbad), rfl⟩
  by_cases hbad2 : 1073741824 < at'
  · go_enter Try.func8, Try.ntmps8
    go_wp2_with fail
    go_ret
    exact .inl ⟨1, rfl, .bad (.inr hbad2), rfl⟩
  have hat : 0 ≤ at' ∧ at' ≤ 1073741824 := by omega
  have HAT := Lib.hid hat
  go_enter Try.func8, Try.ntmps8
  go_wp2_with fail
  go_loopw [7] (fun iv wr => ∃ i : Nat, iv = .int .i64 (i : Int) ∧ i ≤ zs.length ∧ Hid (∀ j : Nat, j < i → at' + j - t < 4096) ∧ w = wr) (fun iv _ => zs.length - (intOf iv).toNat)
  case atStart => exact ⟨0, rfl, Nat.zero_le _, Lib.hid (fun j hj => absurd hj (by omega)), rfl⟩
  case round =>
    obtain ⟨i, rfl, hi, HI, rfl⟩ := hrel
    by_cases hlt : i < zs.length
    · have e1 : IntKind.i64.wrap (at' + (i : Int)) = at' + (i : Int) := IntWalk.i64_in _ ⟨by omega, by omega⟩
      have e2 : IntKind.i64.wrap (at' + (i : Int) - (t : Int)) = at' + (i : Int) - (t : Int) := IntWalk.i64_in _ ⟨by omega, by omega⟩
      by_cases hf : 4096 ≤ at' + (i : Int) - (t : Int)
      · go_wp2_with fail
        go_ret
        exact .inl ⟨4, rfl, .far HAT.out ⟨i, hlt, hf⟩, rfl⟩
      · have e3 : IntKind.i64.wrap ((i : Int) + 1) = ((i + 1 : Nat) : Int) := IntWalk.i64_in _ ⟨by omega, by omega⟩
        have HI2 : Hid (∀ j : Nat, j < i + 1 → at' + j - t < 4096) := Lib.hid fun j hj => by
          rcases Nat.lt_or_ge j i with h | h
          · exact HI.out j h
          · obtain rfl : j = i := by omega
            omega
        go_wp2_with fail
        go_round
        case rel => exact ⟨i + 1, rfl, by omega, HI2, by trivial⟩
        case measure => simp [intOf]; omega
    · obtain rfl : i = zs.length := by omega
      have HF := Lib.hid HI.out
      clear HI hlt hi
      go_wp2_with fail
      go_loopw [8] (fun iv wr => ∃ i : Nat, iv = .int .i64 (i : Int) ∧ i ≤ zs.length ∧ Hid (∀ j : Nat, j < i → heldL hl (at' + j) < 0 ∨ heldL hl (at' + j) = zs.getD j 0) ∧ w = wr) (fun iv _ => zs.length - (intOf iv).toNat)
      case atStart => exact ⟨0, rfl, Nat.zero_le _, Lib.hid (fun j hj => absurd hj (by omega)), rfl⟩
      case round =>
        obtain ⟨i, rfl, hi, HI, rfl⟩ := hrel
        by_cases hlt : i < zs.length
        · have e1 : IntKind.i64.wrap (at' + (i : Int)) = at' + (i : Int) := IntWalk.i64_in _ ⟨by omega, by omega⟩
          have e3 : IntKind.i64.wrap ((i : Int) + 1) = ((i + 1 : Nat) : Int) := IntWalk.i64_in _ ⟨by omega, by omega⟩
          have HH := Lib.hid (held_any (at' + (i : Int)) H.out (by omega))
          have HSTEP : Hid (heldL hl (at' + (i : Int)) < 0 ∨ heldL hl (at' + (i : Int)) = zs.getD i 0 → ∀ j : Nat, j < i + 1 → heldL hl (at' + j) < 0 ∨ heldL hl (at' + j) = zs.getD j 0) := Lib.hid fun hs j hj => by
            rcases Nat.lt_or_ge j i with h | h
            · exact HI.out j h
            · obtain rfl : j = i := by omega
              exact hs
          have HCL : Hid (0 ≤ heldL hl (at' + (i : Int)) → heldL hl (at' + (i : Int)) ≠ zs.getD i 0 → RPut hl t at' zs 12) := Lib.hid fun h1 h2 => .clash HAT.out HF.out ⟨i, hlt, h1, h2⟩
          obtain ⟨ab, rfl, d1⟩ := rd_at HRW.out hlt
          have hbx : 0 ≤ zs.getD i 0 ∧ zs.getD i 0 ≤ 255 := HRW.out.byt _ (by rw [List.getD_eq_getElem?_getD, List.getElem?_eq_getElem hlt]; exact List.getElem_mem hlt)
          have hbz := held_byte H.out.byt (at' + (i : Int))
          generalize hxd : zs.getD i 0 = x at *
          generalize hz' : heldL hl (at' + (i : Int)) = z at *
          clear hz' hxd
          have wx : IntKind.i64.wrap x = x := IntWalk.i64_in _ ⟨by omega, by omega⟩
          have hii : (i : Int) < (zs.length : Int) := by omega
          clear hbx
          by_cases hz0 : z < 0
          · have HS2 := Lib.hid (HSTEP.out (.inl hz0))
            have hg0 : ¬ 0 ≤ z := by omega
            clear hbz
            go_wp2_with (refine HH.out.mono ?_; rintro e w1 ⟨rfl, rfl⟩)
            exact ⟨⟨i + 1, by go_num, by omega, HS2, trivial⟩, by simp [intOf]; omega⟩
          · have hg0 : 0 ≤ z := by omega
            clear hbz hz0
            by_cases hzx : z = x
            · have HS2 := Lib.hid (HSTEP.out (.inr hzx))
              subst hzx
              go_wp2_with (refine HH.out.mono ?_; rintro e w1 ⟨rfl, rfl⟩)
              exact ⟨⟨i + 1, by go_num, by omega, HS2, trivial⟩, by simp [intOf]; omega⟩
            · have HS2 := Lib.hid (HCL.out hg0 hzx)
              go_wp2_with (refine HH.out.mono ?_; rintro e w1 ⟨rfl, rfl⟩)
              go_ret
              exact .inl ⟨12, rfl, HS2.out, rfl⟩
        · obtain rfl : i = zs.length := by omega
          have HG := Lib.hid HI.out
          clear HI hlt hi
          go_wp2_with fail
          go_loopw [10] (fun iv wr => ∃ (i : Nat) (av' bv' : Value) (hl' : List (Int × Int)), iv = .int .i64 (i : Int) ∧ i ≤ zs.length ∧ Hid (Rs wr R base t av' bv' hl') ∧ Hid (Adds hl t at' zs i hl') ∧ Hid (Chg (blksR R av bv) w wr) ∧ Hid (NewOr w av av' ∧ NewOr w bv bv')) (fun iv _ => zs.length - (intOf iv).toNat)
          case atStart => exact ⟨0, av, bv, hl, rfl, Nat.zero_le _, H, Lib.hid ⟨fun p => by rw [if_neg (by omega)], by omega⟩, Lib.hid (Chg.refl _ _), Lib.hid ⟨fun g hg => .inl hg, fun g hg => .inl hg⟩⟩
          case round =>
            obtain ⟨i, av', bv', hl', rfl, hi, H1, HA, HC, HN⟩ := hrel
            by_cases hlt : i < zs.length
            · have hB := HC.out.below HB0.out (blks_ge H.out hbs)
              have HRr := Lib.hid (HR.out.below hB)
              have d0 : wr.cell? ⟨R, 0, none⟩ = some (.int .i64 t) := (cell_of_row wr R 0 _ 31 (0, 0) H1.out.box).trans rfl
              have d1 : wr.cell? ⟨R, 1, none⟩ = some av' := (cell_of_row wr R 1 _ 31 (0, 0) H1.out.box).trans rfl
              have d2 : wr.cell? ⟨R, 2, none⟩ = some bv' := (cell_of_row wr R 2 _ 31 (0, 0) H1.out.box).trans rfl
              have hlen := HA.out.2
              have HH := Lib.hid (held_any (at' + (i : Int)) H1.out (by omega))
              have e1 : IntKind.i64.wrap (at' + (i : Int)) = at' + (i : Int) := IntWalk.i64_in _ ⟨by omega, by omega⟩
              have hii : (i : Int) < (zs.length : Int) := by omega
              have HSK : Hid (¬ (t : Int) ≤ at' + i ∨ ¬ heldL hl' (at' + i) < 0 → Adds hl t at' zs (i + 1) hl') := Lib.hid (adds_skip HA.out)
              have HON : Hid ((t : Int) ≤ at' + i → heldL hl' (at' + i) < 0 → Adds hl t at' zs (i + 1) (hl' ++ [(at' + i, zs.getD i 0)])) := Lib.hid fun h1 h2 => adds_one HA.out h1 h2 fun y hy => (H1.out.byt y.2 (List.mem_map.2 ⟨y, hy, rfl⟩)).1
              clear hB c0
              by_cases hti : (t : Int) ≤ at' + (i : Int)
              · generalize hz' : heldL hl' (at' + (i : Int)) = z at *
                by_cases hz0 : z < 0
                · have HA2 := Lib.hid (HON.out hti hz0)
                  clear HON HSK HA
                  obtain ⟨ab, rfl, dz⟩ := rd_at HRr.out hlt
                  obtain ⟨ab', e', dz'⟩ := rd_at HR.out hlt
                  have hpz : ab.block < w0.heap.size := by cases e'; have := World.block_lt_of_cell? w0 _ dz'; rwa [show (ab.add i).block = ab.block from by unfold Addr.add; split <;> rfl] at this
                  clear e' dz' ab'
                  have hlow := H1.out.low
                  have hzb : (ab.add i).block = ab.block := by unfold Addr.add; split <;> rfl
                  have hP0 := Lib.hid (H1.out.pj (by omega) (by omega) (Nat.le_trans hbw HC.out.size) dz)
                  have HX : Hid (0 ≤ zs.getD i 0 ∧ zs.getD i 0 ≤ 255) := Lib.hid (HRr.out.byt _ (by rw [List.getD_eq_getElem?_getD, List.getElem?_eq_getElem hlt]; exact List.getElem_mem hlt))
                  clear hpz hzb hlow
                  generalize zs.getD i 0 = x at HA2 HX hP0 dz
                  go_wp2_with (refine HH.out.mono ?_; rintro e w1 ⟨rfl, rfl⟩)
                  clear HH
                  clear d0 d1 d2 dz
                  refine wp_region_end 23 (fun w' => w'.cell? (ab.add i) = some (.int .u8 x) ∧ w'.cell? ⟨R, 1, none⟩ = some av' ∧ w'.cell? ⟨R, 2, none⟩ = some bv') (by kernel_rfl) ?_
                  generalize w1.drew = Y at hP0 ⊢
                  refine wpAnyE_pure (i := 1) (oi := { dst := some 77, op := Op.move (Operand.tmp 0), type := 27, pos := "ref.go:38", after := #[{ on := 23, ground := Ground.gcOnly Departure.lateStores }], guard := none }) (v := ?_) rfl (by kernel_rfl) (by kernel_rfl) (by kernel_rfl) (by decide) (fun _ _ _ h => h) (Or.inl ⟨by rfl, ?_⟩) (fun _ => hP0.out.cc) ?_
                  rotate_left
                  · intro w _; go_simp; try (with_reducible rfl)
                  repeat (first | simp only [Act.put] | simp only [List.setIfInBounds_toArray] | simp only [List.set_cons_zero] | simp only [List.set_cons_succ])
                  refine wpAnyE_take [0] (i := 0) (oi := { dst := some 76, op := Op.move (Operand.tmp 0), type := 27, pos := "ref.go:38", after := #[], guard := none }) (v := ?_) rfl (by kernel_rfl) (by kernel_rfl) (by kernel_rfl) (by kernel_rfl) rfl rfl (by kernel_rfl) (by kernel_rfl) (fun _ _ _ h => h) (Or.inl ⟨by rfl, ?_⟩) (by exact hP0.out.cc) ?_
                  rotate_left
                  · intro w hSw; (try dsimp only at hSw); obtain ⟨r0, r1, r2⟩ := hSw; go_simp; try (with_reducible rfl)
                  repeat (first | simp only [Act.put] | simp only [List.setIfInBounds_toArray] | simp only [List.set_cons_zero] | simp only [List.set_cons_succ])
                  refine wpAnyE_take [2] (i := 2) (oi := { dst := some 78, op := Op.move (Operand.tmp 0), type := 27, pos := "ref.go:38", after := #[], guard := none }) (v := ?_) rfl (by kernel_rfl) (by kernel_rfl) (by kernel_rfl) (by kernel_rfl) rfl rfl (by kernel_rfl) (by kernel_rfl) (fun _ _ _ h => h) (Or.inl ⟨by rfl, ?_⟩) (by exact hP0.out.cc) ?_
                  rotate_left
                  · intro w hSw; (try dsimp only at hSw); obtain ⟨r0, r1, r2⟩ := hSw; go_simp; try (with_reducible rfl)
                  repeat (first | simp only [Act.put] | simp only [List.setIfInBounds_toArray] | simp only [List.set_cons_zero] | simp only [List.set_cons_succ])
                  refine wpAnyE_take [3] (i := 3) (oi := { dst := some 79, op := Op.nilCheck (Operand.tmp 78), type := 0, pos := "ref.go:38", after := #[{ on := 2, ground := Ground.data }], guard := none }) (v := ?_) rfl (by kernel_rfl) (by kernel_rfl) (by kernel_rfl) (by kernel_rfl) rfl rfl (by kernel_rfl) (by kernel_rfl) (fun _ _ _ h => h) (Or.inl ⟨by rfl, ?_⟩) (by exact hP0.out.cc) ?_
                  rotate_left
                  · intro w hSw; (try dsimp only at hSw); obtain ⟨r0, r1, r2⟩ := hSw; go_simp; try (with_reducible rfl)
                  repeat (first | simp only [Act.put] | simp only [List.setIfInBounds_toArray] | simp only [List.set_cons_zero] | simp only [List.set_cons_succ])
                  refine wpAnyE_take [4] (i := 4) (oi := { dst := some 80, op := Op.fieldAddr 31 (Operand.tmp 79) 1, type := 0, pos := "ref.go:38", after := #[{ on := 3, ground := Ground.data }], guard := none }) (v := ?_) rfl (by kernel_rfl) (by kernel_rfl) (by kernel_rfl) (by kernel_rfl) rfl rfl (by kernel_rfl) (by kernel_rfl) (fun _ _ _ h => h) (Or.inl ⟨by rfl, ?_⟩) (by exact hP0.out.cc) ?_
                  rotate_left
                  · intro w hSw; (try dsimp only at hSw); obtain ⟨r0, r1, r2⟩ := hSw; go_simp; try (with_reducible rfl)
                  repeat (first | simp only [Act.put] | simp only [List.setIfInBounds_toArray] | simp only [List.set_cons_zero] | simp only [List.set_cons_succ])
                  refine wpAnyE_take [5] (i := 5) (oi := { dst := some 81, op := Op.load 28 (Operand.tmp 80), type := 28, pos := "ref.go:38", after := #[{ on := 4, ground := Ground.data }], guard := none }) (v := ?_) rfl (by kernel_rfl) (by kernel_rfl) (by kernel_rfl) (by kernel_rfl) rfl rfl (by kernel_rfl) (by kernel_rfl) (fun _ _ _ h => h) (Or.inl ⟨by rfl, ?_⟩) (by exact hP0.out.cc) ?_
                  rotate_left
                  · intro w hSw; (try dsimp only at hSw); obtain ⟨r0, r1, r2⟩ := hSw; go_simp; try (with_reducible rfl)
                  repeat (first | simp only [Act.put] | simp only [List.setIfInBounds_toArray] | simp only [List.set_cons_zero] | simp only [List.set_cons_succ])
                  refine wpAnyE_take [6] (i := 6) (oi := { dst := some 82, op := Op.move (Operand.tmp 1), type := 3, pos := "ref.go:38", after := #[], guard := none }) (v := ?_) rfl (by kernel_rfl) (by kernel_rfl) (by kernel_rfl) (by kernel_rfl) rfl rfl (by kernel_rfl) (by kernel_rfl) (fun _ _ _ h => h) (Or.inl ⟨by rfl, ?_⟩) (by exact hP0.out.cc) ?_
                  rotate_left
                  · intro w hSw; (try dsimp only at hSw); obtain ⟨r0, r1, r2⟩ := hSw; go_simp; try (with_reducible rfl)
                  repeat (first | simp only [Act.put] | simp only [List.setIfInBounds_toArray] | simp only [List.set_cons_zero] | simp only [List.set_cons_succ])
                  refine wpAnyE_take [7] (i := 7) (oi := { dst := some 83, op := Op.move (Operand.tmp 10), type := 3, pos := "ref.go:38", after := #[], guard := none }) (v := ?_) rfl (by kernel_rfl) (by kernel_rfl) (by kernel_rfl) (by kernel_rfl) rfl rfl (by kernel_rfl) (by kernel_rfl) (fun _ _ _ h => h) (Or.inl ⟨by rfl, ?_⟩) (by exact hP0.out.cc) ?_
                  rotate_left
                  · intro w hSw; (try dsimp only at hSw); obtain ⟨r0, r1, r2⟩ := hSw; go_simp; try (with_reducible rfl)
                  repeat (first | simp only [Act.put] | simp only [List.setIfInBounds_toArray] | simp only [List.set_cons_zero] | simp only [List.set_cons_succ])
                  refine wpAnyE_take [8] (i := 8) (oi := { dst := some 84, op := Op.binOp BinOp.add 3 (Operand.tmp 82) (Operand.tmp 83) 3, type := 3, pos := "ref.go:38", after := #[{ on := 6, ground := Ground.data }, { on := 7, ground := Ground.data }], guard := none }) (v := ?_) rfl (by kernel_rfl) (by kernel_rfl) (by kernel_rfl) (by kernel_rfl) rfl rfl (by kernel_rfl) (by kernel_rfl) (fun _ _ _ h => h) (Or.inl ⟨by rfl, ?_⟩) (by exact hP0.out.cc) ?_
                  rotate_left
                  · intro w hSw; (try dsimp only at hSw); obtain ⟨r0, r1, r2⟩ := hSw; go_simp; try (with_reducible rfl)
                  repeat (first | simp only [Act.put] | simp only [List.setIfInBounds_toArray] | simp only [List.set_cons_zero] | simp only [List.set_cons_succ])
                  refine wpAnyE_take [14, 13, 12, 11] (i := 11) (oi := { dst := some 87, op := Op.move (Operand.tmp 0), type := 27, pos := "ref.go:38", after := #[], guard := none }) (v := ?_) rfl (by kernel_rfl) (by kernel_rfl) (by kernel_rfl) (by kernel_rfl) rfl rfl (by kernel_rfl) (by kernel_rfl) (fun _ _ _ h => h) (Or.inl ⟨by rfl, ?_⟩) (by exact hP0.out.cc) ?_
                  rotate_left
                  · intro w hSw; (try dsimp only at hSw); obtain ⟨r0, r1, r2⟩ := hSw; go_simp; try (with_reducible rfl)
                  repeat (first | simp only [Act.put] | simp only [List.setIfInBounds_toArray] | simp only [List.set_cons_zero] | simp only [List.set_cons_succ])
                  refine wpAnyE_take [14, 13, 12] (i := 12) (oi := { dst := some 88, op := Op.nilCheck (Operand.tmp 87), type := 0, pos := "ref.go:38", after := #[{ on := 11, ground := Ground.data }], guard := none }) (v := ?_) rfl (by kernel_rfl) (by kernel_rfl) (by kernel_rfl) (by kernel_rfl) rfl rfl (by kernel_rfl) (by kernel_rfl) (fun _ _ _ h => h) (Or.inl ⟨by rfl, ?_⟩) (by exact hP0.out.cc) ?_
                  rotate_left
                  · intro w hSw; (try dsimp only at hSw); obtain ⟨r0, r1, r2⟩ := hSw; go_simp; try (with_reducible rfl)
                  repeat (first | simp only [Act.put] | simp only [List.setIfInBounds_toArray] | simp only [List.set_cons_zero] | simp only [List.set_cons_succ])
                  refine wpAnyE_take [14, 13] (i := 13) (oi := { dst := some 89, op := Op.fieldAddr 31 (Operand.tmp 88) 2, type := 0, pos := "ref.go:38", after := #[{ on := 12, ground := Ground.data }], guard := none }) (v := ?_) rfl (by kernel_rfl) (by kernel_rfl) (by kernel_rfl) (by kernel_rfl) rfl rfl (by kernel_rfl) (by kernel_rfl) (fun _ _ _ h => h) (Or.inl ⟨by rfl, ?_⟩) (by exact hP0.out.cc) ?_
                  rotate_left
                  · intro w hSw; (try dsimp only at hSw); obtain ⟨r0, r1, r2⟩ := hSw; go_simp; try (with_reducible rfl)
                  repeat (first | simp only [Act.put] | simp only [List.setIfInBounds_toArray] | simp only [List.set_cons_zero] | simp only [List.set_cons_succ])
                  refine wpAnyE_take [14] (i := 14) (oi := { dst := some 90, op := Op.load 29 (Operand.tmp 89), type := 29, pos := "ref.go:38", after := #[{ on := 13, ground := Ground.data }], guard := none }) (v := ?_) rfl (by kernel_rfl) (by kernel_rfl) (by kernel_rfl) (by kernel_rfl) rfl rfl (by kernel_rfl) (by kernel_rfl) (fun _ _ _ h => h) (Or.inl ⟨by rfl, ?_⟩) (by exact hP0.out.cc) ?_
                  rotate_left
                  · intro w hSw; (try dsimp only at hSw); obtain ⟨r0, r1, r2⟩ := hSw; go_simp; try (with_reducible rfl)
                  repeat (first | simp only [Act.put] | simp only [List.setIfInBounds_toArray] | simp only [List.set_cons_zero] | simp only [List.set_cons_succ])
                  refine wpAnyE_take [18, 17, 15] (i := 15) (oi := { dst := some 91, op := Op.move (Operand.tmp 2), type := 29, pos := "ref.go:38", after := #[], guard := none }) (v := ?_) rfl (by kernel_rfl) (by kernel_rfl) (by kernel_rfl) (by kernel_rfl) rfl rfl (by kernel_rfl) (by kernel_rfl) (fun _ _ _ h => h) (Or.inl ⟨by rfl, ?_⟩) (by exact hP0.out.cc) ?_
                  rotate_left
                  · intro w hSw; (try dsimp only at hSw); obtain ⟨r0, r1, r2⟩ := hSw; go_simp; try (with_reducible rfl)
                  repeat (first | simp only [Act.put] | simp only [List.setIfInBounds_toArray] | simp only [List.set_cons_zero] | simp only [List.set_cons_succ])
                  refine wpAnyE_take [18, 17, 16] (i := 16) (oi := { dst := some 92, op := Op.move (Operand.tmp 10), type := 3, pos := "ref.go:38", after := #[], guard := none }) (v := ?_) rfl (by kernel_rfl) (by kernel_rfl) (by kernel_rfl) (by kernel_rfl) rfl rfl (by kernel_rfl) (by kernel_rfl) (fun _ _ _ h => h) (Or.inl ⟨by rfl, ?_⟩) (by exact hP0.out.cc) ?_
                  rotate_left
                  · intro w hSw; (try dsimp only at hSw); obtain ⟨r0, r1, r2⟩ := hSw; go_simp; try (with_reducible rfl)
                  repeat (first | simp only [Act.put] | simp only [List.setIfInBounds_toArray] | simp only [List.set_cons_zero] | simp only [List.set_cons_succ])
                  refine wpAnyE_take [18, 17] (i := 17) (oi := { dst := some 93, op := Op.indexAddr 29 (Operand.tmp 91) (Operand.tmp 92), type := 0, pos := "ref.go:38", after := #[{ on := 15, ground := Ground.data }, { on := 16, ground := Ground.data }], guard := none }) (v := ?_) rfl (by kernel_rfl) (by kernel_rfl) (by kernel_rfl) (by kernel_rfl) rfl rfl (by kernel_rfl) (by kernel_rfl) (fun _ _ _ h => h) (Or.inl ⟨by rfl, ?_⟩) (by exact hP0.out.cc) ?_
                  rotate_left
                  · intro w hSw; (try dsimp only at hSw); obtain ⟨r0, r1, r2⟩ := hSw; go_simp; try (with_reducible rfl)
                  repeat (first | simp only [Act.put] | simp only [List.setIfInBounds_toArray] | simp only [List.set_cons_zero] | simp only [List.set_cons_succ])
                  refine wpAnyE_take [18] (i := 18) (oi := { dst := some 94, op := Op.load 5 (Operand.tmp 93), type := 5, pos := "ref.go:38", after := #[{ on := 17, ground := Ground.data }], guard := none }) (v := ?_) rfl (by kernel_rfl) (by kernel_rfl) (by kernel_rfl) (by kernel_rfl) rfl rfl (by kernel_rfl) (by kernel_rfl) (fun _ _ _ h => h) (Or.inl ⟨by rfl, ?_⟩) (by exact hP0.out.cc) ?_
                  rotate_left
                  · intro w hSw; (try dsimp only at hSw); obtain ⟨r0, r1, r2⟩ := hSw; go_simp; try (with_reducible rfl)
                  repeat (first | simp only [Act.put] | simp only [List.setIfInBounds_toArray] | simp only [List.set_cons_zero] | simp only [List.set_cons_succ])
                  refine wpAnyE_ready (rs := [9, 19]) (by kernel_rfl) (by simp) ?_
                  refine (AllReadyE.cons (o := { dst := some 85, op := Op.buildSlice 28 1 #[(0, Operand.tmp 84)], type := 28, pos := "ref.go:38", after := #[{ on := 8, ground := Ground.data }], guard := none }) rfl (fun K hK => ?_) (AllReadyE.cons (o := { dst := some 95, op := Op.buildSlice 29 1 #[(0, Operand.tmp 94)], type := 29, pos := "ref.go:38", after := #[{ on := 18, ground := Ground.data }], guard := none }) rfl (fun K hK => ?_) AllReadyE.nil))
                  · have hP1 := Lib.hid (hP0.out.alloc (.cells #[.int .i64 (at' + (i : Int))] 3))
                    have hL1_1 := Lib.hid (hP0.out.lit (.int .i64 (at' + (i : Int))) 3)
                    go_simp
                    refine hK.out _ _ (fun hL => ?_) ?_
                    · exact hP1.out.cc
                    clear hK K
                    repeat (first | simp only [Act.put] | simp only [List.setIfInBounds_toArray] | simp only [List.set_cons_zero] | simp only [List.set_cons_succ])
                    refine wpAnyE_ready (rs := [10, 19]) (by kernel_rfl) (by simp) ?_
                    refine (AllReadyE.cons (o := { dst := some 86, op := Op.call { callee := Callee.builtin Builtin.append, args := #[Operand.tmp 81, Operand.tmp 85], argTypes := #[28, 28] }, type := 28, pos := "ref.go:38", after := #[{ on := 5, ground := Ground.data }, { on := 9, ground := Ground.data }], guard := none }) rfl (fun K hK => ?_) (AllReadyE.cons (o := { dst := some 95, op := Op.buildSlice 29 1 #[(0, Operand.tmp 94)], type := 29, pos := "ref.go:38", after := #[{ on := 18, ground := Ground.data }], guard := none }) rfl (fun K hK => ?_) AllReadyE.nil))
                    · refine step_app_at rfl (.tmp 81) (.tmp 85) 28 3 8 (.int .i64 0) rfl Try.underlying28 infoR3 rfl base _ _ _ rfl hP1.out.ra Y.heap.size _ rfl hL1_1.out.cell rfl (by omega) (by decide) hP1.out.hb ?_
                      intro v3 X3 ho3 hg3 hn3
                      have hP2 := Lib.hid (hP1.out.appA ho3 hg3 hn3)
                      obtain ⟨a3, c3, rfl⟩ := own_shape ho3
                      clear ho3 hg3 hn3
                      refine hK.out _ _ (fun hL => ?_) ?_
                      · exact hP2.out.cc
                      clear hK K
                      repeat (first | simp only [Act.put] | simp only [List.setIfInBounds_toArray] | simp only [List.set_cons_zero] | simp only [List.set_cons_succ])
                      refine wpAnyE_one (i := 19) (o := { dst := some 95, op := Op.buildSlice 29 1 #[(0, Operand.tmp 94)], type := 29, pos := "ref.go:38", after := #[{ on := 18, ground := Ground.data }], guard := none }) (by kernel_rfl) rfl (fun K hK => ?_)
                      have hP3 := Lib.hid (hP2.out.alloc (.cells #[.int .u8 x] 5))
                      have hL2_3 := Lib.hid (hP2.out.lit (.int .u8 x) 5)
                      go_simp
                      refine hK.out _ _ (fun hL => ?_) ?_
                      · exact hP3.out.cc
                      clear hK K
                      repeat (first | simp only [Act.put] | simp only [List.setIfInBounds_toArray] | simp only [List.set_cons_zero] | simp only [List.set_cons_succ])
                      refine wpAnyE_one (i := 20) (o := { dst := some 96, op := Op.call { callee := Callee.builtin Builtin.append, args := #[Operand.tmp 90, Operand.tmp 95], argTypes := #[29, 29] }, type := 29, pos := "ref.go:38", after := #[{ on := 14, ground := Ground.data }, { on := 19, ground := Ground.data }, { on := 10, ground := Ground.chain }], guard := none }) (by kernel_rfl) rfl (fun K hK => ?_)
                      refine step_app_at rfl (.tmp 90) (.tmp 95) 29 5 1 (.int .u8 0) rfl Try.underlying29 infoR5 rfl base _ _ _ rfl hP3.out.rb X3.heap.size _ rfl hL2_3.out.cell rfl (by omega) (by decide) hP3.out.hb ?_
                      intro v4 X4 ho4 hg4 hn4
                      have hP4 := Lib.hid (hP3.out.appB ho4 hg4 hn4)
                      obtain ⟨a4, c4, rfl⟩ := own_shape ho4
                      clear ho4 hg4 hn4
                      refine hK.out _ _ (fun hL => ?_) ?_
                      · exact hP4.out.cc
                      clear hK K
                      repeat (first | simp only [Act.put] | simp only [List.setIfInBounds_toArray] | simp only [List.set_cons_zero] | simp only [List.set_cons_succ])
                      refine wpAnyE_take [22, 21] (i := 21) (oi := { dst := some 97, op := Op.nilCheck (Operand.tmp 76), type := 0, pos := "ref.go:38", after := #[{ on := 0, ground := Ground.data }, { on := 0, ground := Ground.phase }, { on := 1, ground := Ground.textOnly Departure.lateStores }, { on := 2, ground := Ground.phase }, { on := 3, ground := Ground.phase }, { on := 4, ground := Ground.phase }, { on := 5, ground := Ground.phase }, { on := 6, ground := Ground.phase }, { on := 7, ground := Ground.phase }, { on := 8, ground := Ground.phase }, { on := 9, ground := Ground.phase }, { on := 10, ground := Ground.phase }, { on := 11, ground := Ground.textOnly Departure.lateStores }, { on := 12, ground := Ground.textOnly Departure.lateStoresUnsure }, { on := 13, ground := Ground.textOnly Departure.lateStoresUnsure }, { on := 14, ground := Ground.phase }, { on := 15, ground := Ground.textOnly Departure.lateStores }, { on := 16, ground := Ground.textOnly Departure.lateStores }, { on := 17, ground := Ground.textOnly Departure.lateStoresUnsure }, { on := 18, ground := Ground.phase }, { on := 19, ground := Ground.textOnly Departure.lateStoresUnsure }, { on := 20, ground := Ground.phase }], guard := none }) (v := ?_) rfl (by kernel_rfl) (by kernel_rfl) (by kernel_rfl) (by kernel_rfl) rfl rfl (by kernel_rfl) (by kernel_rfl) (fun _ _ _ h => h) (Or.inl ⟨by rfl, ?_⟩) (by exact hP4.out.cc) ?_
                      rotate_left
                      · intro w hSw; (try dsimp only at hSw); obtain ⟨r0, r1, r2⟩ := hSw; go_simp; try (with_reducible rfl)
                      repeat (first | simp only [Act.put] | simp only [List.setIfInBounds_toArray] | simp only [List.set_cons_zero] | simp only [List.set_cons_succ])
                      refine wpAnyE_take [22] (i := 22) (oi := { dst := some 98, op := Op.fieldAddr 31 (Operand.tmp 97) 1, type := 0, pos := "ref.go:38", after := #[{ on := 21, ground := Ground.data }, { on := 0, ground := Ground.phase }, { on := 1, ground := Ground.textOnly Departure.lateStores }, { on := 2, ground := Ground.phase }, { on := 3, ground := Ground.phase }, { on := 4, ground := Ground.phase }, { on := 5, ground := Ground.phase }, { on := 6, ground := Ground.phase }, { on := 7, ground := Ground.phase }, { on := 8, ground := Ground.phase }, { on := 9, ground := Ground.phase }, { on := 10, ground := Ground.phase }, { on := 11, ground := Ground.textOnly Departure.lateStores }, { on := 12, ground := Ground.textOnly Departure.lateStoresUnsure }, { on := 13, ground := Ground.textOnly Departure.lateStoresUnsure }, { on := 14, ground := Ground.phase }, { on := 15, ground := Ground.textOnly Departure.lateStores }, { on := 16, ground := Ground.textOnly Departure.lateStores }, { on := 17, ground := Ground.textOnly Departure.lateStoresUnsure }, { on := 18, ground := Ground.phase }, { on := 19, ground := Ground.textOnly Departure.lateStoresUnsure }, { on := 20, ground := Ground.phase }], guard := none }) (v := ?_) rfl (by kernel_rfl) (by kernel_rfl) (by kernel_rfl) (by kernel_rfl) rfl rfl (by kernel_rfl) (by kernel_rfl) (fun _ _ _ h => h) (Or.inl ⟨by rfl, ?_⟩) (by exact hP4.out.cc) ?_
                      rotate_left
                      · intro w hSw; (try dsimp only at hSw); obtain ⟨r0, r1, r2⟩ := hSw; go_simp; try (with_reducible rfl)
                      repeat (first | simp only [Act.put] | simp only [List.setIfInBounds_toArray] | simp only [List.set_cons_zero] | simp only [List.set_cons_succ])
                      refine wpAnyE_one (i := 23) (o := { dst := none, op := Op.store 28 (Operand.tmp 98) (Operand.tmp 86), type := 0, pos := "ref.go:38", after := #[{ on := 22, ground := Ground.data }, { on := 10, ground := Ground.data }, { on := 20, ground := Ground.chain }, { on := 0, ground := Ground.phase }, { on := 1, ground := Ground.textOnly Departure.lateStores }, { on := 2, ground := Ground.phase }, { on := 3, ground := Ground.phase }, { on := 4, ground := Ground.phase }, { on := 5, ground := Ground.phase }, { on := 6, ground := Ground.phase }, { on := 7, ground := Ground.phase }, { on := 8, ground := Ground.phase }, { on := 9, ground := Ground.phase }, { on := 10, ground := Ground.phase }, { on := 11, ground := Ground.textOnly Departure.lateStores }, { on := 12, ground := Ground.textOnly Departure.lateStoresUnsure }, { on := 13, ground := Ground.textOnly Departure.lateStoresUnsure }, { on := 14, ground := Ground.phase }, { on := 15, ground := Ground.textOnly Departure.lateStores }, { on := 16, ground := Ground.textOnly Departure.lateStores }, { on := 17, ground := Ground.textOnly Departure.lateStoresUnsure }, { on := 18, ground := Ground.phase }, { on := 19, ground := Ground.textOnly Departure.lateStoresUnsure }, { on := 20, ground := Ground.phase }], guard := none }) (by kernel_rfl) rfl (fun K hK => ?_)
                      have gf := hP4.out.f1
                      have gz := hP4.out.fz 1
                      go_simp
                      clear gf gz
                      refine hK.out _ _ (fun hL => absurd hL (by decide)) ?_
                      clear hK K
                      repeat (first | simp only [Act.put] | simp only [List.setIfInBounds_toArray] | simp only [List.set_cons_zero] | simp only [List.set_cons_succ])
                      refine wpAnyE_one (i := 24) (o := { dst := some 99, op := Op.nilCheck (Operand.tmp 77), type := 0, pos := "ref.go:38", after := #[{ on := 1, ground := Ground.data }, { on := 0, ground := Ground.phase }, { on := 1, ground := Ground.phase }, { on := 2, ground := Ground.phase }, { on := 3, ground := Ground.phase }, { on := 4, ground := Ground.phase }, { on := 5, ground := Ground.phase }, { on := 6, ground := Ground.phase }, { on := 7, ground := Ground.phase }, { on := 8, ground := Ground.phase }, { on := 9, ground := Ground.phase }, { on := 10, ground := Ground.phase }, { on := 11, ground := Ground.phase }, { on := 12, ground := Ground.phase }, { on := 13, ground := Ground.phase }, { on := 14, ground := Ground.phase }, { on := 15, ground := Ground.phase }, { on := 16, ground := Ground.phase }, { on := 17, ground := Ground.phase }, { on := 18, ground := Ground.phase }, { on := 19, ground := Ground.phase }, { on := 20, ground := Ground.phase }, { on := 21, ground := Ground.phase }, { on := 22, ground := Ground.phase }, { on := 23, ground := Ground.phase }], guard := none }) (by kernel_rfl) rfl (fun K hK => ?_)
                      go_simp
                      refine hK.out _ _ (fun hL => absurd hL (by decide)) ?_
                      clear hK K
                      repeat (first | simp only [Act.put] | simp only [List.setIfInBounds_toArray] | simp only [List.set_cons_zero] | simp only [List.set_cons_succ])
                      refine wpAnyE_one (i := 25) (o := { dst := some 100, op := Op.fieldAddr 31 (Operand.tmp 99) 2, type := 0, pos := "ref.go:38", after := #[{ on := 24, ground := Ground.data }, { on := 0, ground := Ground.phase }, { on := 1, ground := Ground.phase }, { on := 2, ground := Ground.phase }, { on := 3, ground := Ground.phase }, { on := 4, ground := Ground.phase }, { on := 5, ground := Ground.phase }, { on := 6, ground := Ground.phase }, { on := 7, ground := Ground.phase }, { on := 8, ground := Ground.phase }, { on := 9, ground := Ground.phase }, { on := 10, ground := Ground.phase }, { on := 11, ground := Ground.phase }, { on := 12, ground := Ground.phase }, { on := 13, ground := Ground.phase }, { on := 14, ground := Ground.phase }, { on := 15, ground := Ground.phase }, { on := 16, ground := Ground.phase }, { on := 17, ground := Ground.phase }, { on := 18, ground := Ground.phase }, { on := 19, ground := Ground.phase }, { on := 20, ground := Ground.phase }, { on := 21, ground := Ground.phase }, { on := 22, ground := Ground.phase }, { on := 23, ground := Ground.phase }], guard := none }) (by kernel_rfl) rfl (fun K hK => ?_)
                      go_simp
                      refine hK.out _ _ (fun hL => absurd hL (by decide)) ?_
                      clear hK K
                      repeat (first | simp only [Act.put] | simp only [List.setIfInBounds_toArray] | simp only [List.set_cons_zero] | simp only [List.set_cons_succ])
                      refine wpAnyE_one (i := 26) (o := { dst := none, op := Op.store 29 (Operand.tmp 100) (Operand.tmp 96), type := 0, pos := "ref.go:38", after := #[{ on := 25, ground := Ground.data }, { on := 20, ground := Ground.data }, { on := 23, ground := Ground.chain }, { on := 0, ground := Ground.phase }, { on := 1, ground := Ground.phase }, { on := 2, ground := Ground.phase }, { on := 3, ground := Ground.phase }, { on := 4, ground := Ground.phase }, { on := 5, ground := Ground.phase }, { on := 6, ground := Ground.phase }, { on := 7, ground := Ground.phase }, { on := 8, ground := Ground.phase }, { on := 9, ground := Ground.phase }, { on := 10, ground := Ground.phase }, { on := 11, ground := Ground.phase }, { on := 12, ground := Ground.phase }, { on := 13, ground := Ground.phase }, { on := 14, ground := Ground.phase }, { on := 15, ground := Ground.phase }, { on := 16, ground := Ground.phase }, { on := 17, ground := Ground.phase }, { on := 18, ground := Ground.phase }, { on := 19, ground := Ground.phase }, { on := 20, ground := Ground.phase }, { on := 21, ground := Ground.phase }, { on := 22, ground := Ground.phase }, { on := 23, ground := Ground.phase }], guard := none }) (by kernel_rfl) rfl (fun K hK => ?_)
                      obtain ⟨gf, gz⟩ := hP4.out.s2 (.slice a3 (hl'.length + 1) c3)
                      go_simp
                      clear gf gz
                      refine hK.out _ _ (fun hL => absurd hL (by decide)) ?_
                      clear hK K
                      repeat (first | simp only [Act.put] | simp only [List.setIfInBounds_toArray] | simp only [List.set_cons_zero] | simp only [List.set_cons_succ])
                      refine wpAnyE_done (by kernel_rfl) ?_ _
                      have hS3 := Lib.hid (hP4.out.set rfl rfl H1.out.byt HX.out)
                      have hN3 := Lib.hid (And.intro (new_more HN.out.1 hP4.out.nA HC.out.size) (new_more HN.out.2 hP4.out.nB HC.out.size))
                      have hC3 := Lib.hid (chg_more HC.out HN.out.1 HN.out.2 hS3.out.2)
                      go_wp2_with fail
                      exact ⟨⟨i + 1, _, _, hl' ++ [(at' + (i : Int), x)], by go_num, by omega, Lib.hid hS3.out.1, HA2, hC3, hN3⟩, by simp [intOf]; omega⟩
                    · have hP2 := Lib.hid (hP1.out.alloc (.cells #[.int .u8 x] 5))
                      have hL2_2 := by have h9 := hP1.out.lit (.int .u8 x) 5; rw [World.size_alloc] at h9; exact Lib.hid h9
                      have hL1_2 := Lib.hid (hL1_1.out.alloc (.cells #[.int .u8 x] 5))
                      go_simp
                      refine hK.out _ _ (fun hL => ?_) ?_
                      · exact hP2.out.cc
                      clear hK K
                      repeat (first | simp only [Act.put] | simp only [List.setIfInBounds_toArray] | simp only [List.set_cons_zero] | simp only [List.set_cons_succ])
                      refine wpAnyE_one (i := 10) (o := { dst := some 86, op := Op.call { callee := Callee.builtin Builtin.append, args := #[Operand.tmp 81, Operand.tmp 85], argTypes := #[28, 28] }, type := 28, pos := "ref.go:38", after := #[{ on := 5, ground := Ground.data }, { on := 9, ground := Ground.data }], guard := none }) (by kernel_rfl) rfl (fun K hK => ?_)
                      refine step_app_at rfl (.tmp 81) (.tmp 85) 28 3 8 (.int .i64 0) rfl Try.underlying28 infoR3 rfl base _ _ _ rfl hP2.out.ra Y.heap.size _ rfl hL1_2.out.cell rfl (by omega) (by decide) hP2.out.hb ?_
                      intro v3 X3 ho3 hg3 hn3
                      have hP3 := Lib.hid (hP2.out.appA ho3 hg3 hn3)
                      have hL2_3 := Lib.hid (hL2_2.out.appA hg3 hn3)
                      obtain ⟨a3, c3, rfl⟩ := own_shape ho3
                      clear ho3 hg3 hn3
                      refine hK.out _ _ (fun hL => ?_) ?_
                      · exact hP3.out.cc
                      clear hK K
                      repeat (first | simp only [Act.put] | simp only [List.setIfInBounds_toArray] | simp only [List.set_cons_zero] | simp only [List.set_cons_succ])
                      refine wpAnyE_one (i := 20) (o := { dst := some 96, op := Op.call { callee := Callee.builtin Builtin.append, args := #[Operand.tmp 90, Operand.tmp 95], argTypes := #[29, 29] }, type := 29, pos := "ref.go:38", after := #[{ on := 14, ground := Ground.data }, { on := 19, ground := Ground.data }, { on := 10, ground := Ground.chain }], guard := none }) (by kernel_rfl) rfl (fun K hK => ?_)
                      refine step_app_at rfl (.tmp 90) (.tmp 95) 29 5 1 (.int .u8 0) rfl Try.underlying29 infoR5 rfl base _ _ _ rfl hP3.out.rb (Y.heap.size + 1) _ rfl hL2_3.out.cell rfl (by omega) (by decide) hP3.out.hb ?_
                      intro v4 X4 ho4 hg4 hn4
                      have hP4 := Lib.hid (hP3.out.appB ho4 hg4 hn4)
                      obtain ⟨a4, c4, rfl⟩ := own_shape ho4
                      clear ho4 hg4 hn4
                      refine hK.out _ _ (fun hL => ?_) ?_
                      · exact hP4.out.cc
                      clear hK K
                      repeat (first | simp only [Act.put] | simp only [List.setIfInBounds_toArray] | simp only [List.set_cons_zero] | simp only [List.set_cons_succ])
                      refine wpAnyE_take [22, 21] (i := 21) (oi := { dst := some 97, op := Op.nilCheck (Operand.tmp 76), type := 0, pos := "ref.go:38", after := #[{ on := 0, ground := Ground.data }, { on := 0, ground := Ground.phase }, { on := 1, ground := Ground.textOnly Departure.lateStores }, { on := 2, ground := Ground.phase }, { on := 3, ground := Ground.phase }, { on := 4, ground := Ground.phase }, { on := 5, ground := Ground.phase }, { on := 6, ground := Ground.phase }, { on := 7, ground := Ground.phase }, { on := 8, ground := Ground.phase }, { on := 9, ground := Ground.phase }, { on := 10, ground := Ground.phase }, { on := 11, ground := Ground.textOnly Departure.lateStores }, { on := 12, ground := Ground.textOnly Departure.lateStoresUnsure }, { on := 13, ground := Ground.textOnly Departure.lateStoresUnsure }, { on := 14, ground := Ground.phase }, { on := 15, ground := Ground.textOnly Departure.lateStores }, { on := 16, ground := Ground.textOnly Departure.lateStores }, { on := 17, ground := Ground.textOnly Departure.lateStoresUnsure }, { on := 18, ground := Ground.phase }, { on := 19, ground := Ground.textOnly Departure.lateStoresUnsure }, { on := 20, ground := Ground.phase }], guard := none }) (v := ?_) rfl (by kernel_rfl) (by kernel_rfl) (by kernel_rfl) (by kernel_rfl) rfl rfl (by kernel_rfl) (by kernel_rfl) (fun _ _ _ h => h) (Or.inl ⟨by rfl, ?_⟩) (by exact hP4.out.cc) ?_
                      rotate_left
                      · intro w hSw; (try dsimp only at hSw); obtain ⟨r0, r1, r2⟩ := hSw; go_simp; try (with_reducible rfl)
                      repeat (first | simp only [Act.put] | simp only [List.setIfInBounds_toArray] | simp only [List.set_cons_zero] | simp only [List.set_cons_succ])
                      refine wpAnyE_take [22] (i := 22) (oi := { dst := some 98, op := Op.fieldAddr 31 (Operand.tmp 97) 1, type := 0, pos := "ref.go:38", after := #[{ on := 21, ground := Ground.data }, { on := 0, ground := Ground.phase }, { on := 1, ground := Ground.textOnly Departure.lateStores }, { on := 2, ground := Ground.phase }, { on := 3, ground := Ground.phase }, { on := 4, ground := Ground.phase }, { on := 5, ground := Ground.phase }, { on := 6, ground := Ground.phase }, { on := 7, ground := Ground.phase }, { on := 8, ground := Ground.phase }, { on := 9, ground := Ground.phase }, { on := 10, ground := Ground.phase }, { on := 11, ground := Ground.textOnly Departure.lateStores }, { on := 12, ground := Ground.textOnly Departure.lateStoresUnsure }, { on := 13, ground := Ground.textOnly Departure.lateStoresUnsure }, { on := 14, ground := Ground.phase }, { on := 15, ground := Ground.textOnly Departure.lateStores }, { on := 16, ground := Ground.textOnly Departure.lateStores }, { on := 17, ground := Ground.textOnly Departure.lateStoresUnsure }, { on := 18, ground := Ground.phase }, { on := 19, ground := Ground.textOnly Departure.lateStoresUnsure }, { on := 20, ground := Ground.phase }], guard := none }) (v := ?_) rfl (by kernel_rfl) (by kernel_rfl) (by kernel_rfl) (by kernel_rfl) rfl rfl (by kernel_rfl) (by kernel_rfl) (fun _ _ _ h => h) (Or.inl ⟨by rfl, ?_⟩) (by exact hP4.out.cc) ?_
                      rotate_left
                      · intro w hSw; (try dsimp only at hSw); obtain ⟨r0, r1, r2⟩ := hSw; go_simp; try (with_reducible rfl)
                      repeat (first | simp only [Act.put] | simp only [List.setIfInBounds_toArray] | simp only [List.set_cons_zero] | simp only [List.set_cons_succ])
                      refine wpAnyE_one (i := 23) (o := { dst := none, op := Op.store 28 (Operand.tmp 98) (Operand.tmp 86), type := 0, pos := "ref.go:38", after := #[{ on := 22, ground := Ground.data }, { on := 10, ground := Ground.data }, { on := 20, ground := Ground.chain }, { on := 0, ground := Ground.phase }, { on := 1, ground := Ground.textOnly Departure.lateStores }, { on := 2, ground := Ground.phase }, { on := 3, ground := Ground.phase }, { on := 4, ground := Ground.phase }, { on := 5, ground := Ground.phase }, { on := 6, ground := Ground.phase }, { on := 7, ground := Ground.phase }, { on := 8, ground := Ground.phase }, { on := 9, ground := Ground.phase }, { on := 10, ground := Ground.phase }, { on := 11, ground := Ground.textOnly Departure.lateStores }, { on := 12, ground := Ground.textOnly Departure.lateStoresUnsure }, { on := 13, ground := Ground.textOnly Departure.lateStoresUnsure }, { on := 14, ground := Ground.phase }, { on := 15, ground := Ground.textOnly Departure.lateStores }, { on := 16, ground := Ground.textOnly Departure.lateStores }, { on := 17, ground := Ground.textOnly Departure.lateStoresUnsure }, { on := 18, ground := Ground.phase }, { on := 19, ground := Ground.textOnly Departure.lateStoresUnsure }, { on := 20, ground := Ground.phase }], guard := none }) (by kernel_rfl) rfl (fun K hK => ?_)
                      have gf := hP4.out.f1
                      have gz := hP4.out.fz 1
                      go_simp
                      clear gf gz
                      refine hK.out _ _ (fun hL => absurd hL (by decide)) ?_
                      clear hK K
                      repeat (first | simp only [Act.put] | simp only [List.setIfInBounds_toArray] | simp only [List.set_cons_zero] | simp only [List.set_cons_succ])
                      refine wpAnyE_one (i := 24) (o := { dst := some 99, op := Op.nilCheck (Operand.tmp 77), type := 0, pos := "ref.go:38", after := #[{ on := 1, ground := Ground.data }, { on := 0, ground := Ground.phase }, { on := 1, ground := Ground.phase }, { on := 2, ground := Ground.phase }, { on := 3, ground := Ground.phase }, { on := 4, ground := Ground.phase }, { on := 5, ground := Ground.phase }, { on := 6, ground := Ground.phase }, { on := 7, ground := Ground.phase }, { on := 8, ground := Ground.phase }, { on := 9, ground := Ground.phase }, { on := 10, ground := Ground.phase }, { on := 11, ground := Ground.phase }, { on := 12, ground := Ground.phase }, { on := 13, ground := Ground.phase }, { on := 14, ground := Ground.phase }, { on := 15, ground := Ground.phase }, { on := 16, ground := Ground.phase }, { on := 17, ground := Ground.phase }, { on := 18, ground := Ground.phase }, { on := 19, ground := Ground.phase }, { on := 20, ground := Ground.phase }, { on := 21, ground := Ground.phase }, { on := 22, ground := Ground.phase }, { on := 23, ground := Ground.phase }], guard := none }) (by kernel_rfl) rfl (fun K hK => ?_)
                      go_simp
                      refine hK.out _ _ (fun hL => absurd hL (by decide)) ?_
                      clear hK K
                      repeat (first | simp only [Act.put] | simp only [List.setIfInBounds_toArray] | simp only [List.set_cons_zero] | simp only [List.set_cons_succ])
                      refine wpAnyE_one (i := 25) (o := { dst := some 100, op := Op.fieldAddr 31 (Operand.tmp 99) 2, type := 0, pos := "ref.go:38", after := #[{ on := 24, ground := Ground.data }, { on := 0, ground := Ground.phase }, { on := 1, ground := Ground.phase }, { on := 2, ground := Ground.phase }, { on := 3, ground := Ground.phase }, { on := 4, ground := Ground.phase }, { on := 5, ground := Ground.phase }, { on := 6, ground := Ground.phase }, { on := 7, ground := Ground.phase }, { on := 8, ground := Ground.phase }, { on := 9, ground := Ground.phase }, { on := 10, ground := Ground.phase }, { on := 11, ground := Ground.phase }, { on := 12, ground := Ground.phase }, { on := 13, ground := Ground.phase }, { on := 14, ground := Ground.phase }, { on := 15, ground := Ground.phase }, { on := 16, ground := Ground.phase }, { on := 17, ground := Ground.phase }, { on := 18, ground := Ground.phase }, { on := 19, ground := Ground.phase }, { on := 20, ground := Ground.phase }, { on := 21, ground := Ground.phase }, { on := 22, ground := Ground.phase }, { on := 23, ground := Ground.phase }], guard := none }) (by kernel_rfl) rfl (fun K hK => ?_)
                      go_simp
                      refine hK.out _ _ (fun hL => absurd hL (by decide)) ?_
                      clear hK K
                      repeat (first | simp only [Act.put] | simp only [List.setIfInBounds_toArray] | simp only [List.set_cons_zero] | simp only [List.set_cons_succ])
                      refine wpAnyE_one (i := 26) (o := { dst := none, op := Op.store 29 (Operand.tmp 100) (Operand.tmp 96), type := 0, pos := "ref.go:38", after := #[{ on := 25, ground := Ground.data }, { on := 20, ground := Ground.data }, { on := 23, ground := Ground.chain }, { on := 0, ground := Ground.phase }, { on := 1, ground := Ground.phase }, { on := 2, ground := Ground.phase }, { on := 3, ground := Ground.phase }, { on := 4, ground := Ground.phase }, { on := 5, ground := Ground.phase }, { on := 6, ground := Ground.phase }, { on := 7, ground := Ground.phase }, { on := 8, ground := Ground.phase }, { on := 9, ground := Ground.phase }, { on := 10, ground := Ground.phase }, { on := 11, ground := Ground.phase }, { on := 12, ground := Ground.phase }, { on := 13, ground := Ground.phase }, { on := 14, ground := Ground.phase }, { on := 15, ground := Ground.phase }, { on := 16, ground := Ground.phase }, { on := 17, ground := Ground.phase }, { on := 18, ground := Ground.phase }, { on := 19, ground := Ground.phase }, { on := 20, ground := Ground.phase }, { on := 21, ground := Ground.phase }, { on := 22, ground := Ground.phase }, { on := 23, ground := Ground.phase }], guard := none }) (by kernel_rfl) rfl (fun K hK => ?_)
                      obtain ⟨gf, gz⟩ := hP4.out.s2 (.slice a3 (hl'.length + 1) c3)
                      go_simp
                      clear gf gz
                      refine hK.out _ _ (fun hL => absurd hL (by decide)) ?_
                      clear hK K
                      repeat (first | simp only [Act.put] | simp only [List.setIfInBounds_toArray] | simp only [List.set_cons_zero] | simp only [List.set_cons_succ])
                      refine wpAnyE_done (by kernel_rfl) ?_ _
                      have hS3 := Lib.hid (hP4.out.set rfl rfl H1.out.byt HX.out)
                      have hN3 := Lib.hid (And.intro (new_more HN.out.1 hP4.out.nA HC.out.size) (new_more HN.out.2 hP4.out.nB HC.out.size))
                      have hC3 := Lib.hid (chg_more HC.out HN.out.1 HN.out.2 hS3.out.2)
                      go_wp2_with fail
                      exact ⟨⟨i + 1, _, _, hl' ++ [(at' + (i : Int), x)], by go_num, by omega, Lib.hid hS3.out.1, HA2, hC3, hN3⟩, by simp [intOf]; omega⟩
                  · have hP1 := Lib.hid (hP0.out.alloc (.cells #[.int .u8 x] 5))
                    have hL2_1 := Lib.hid (hP0.out.lit (.int .u8 x) 5)
                    go_simp
                    refine hK.out _ _ (fun hL => ?_) ?_
                    · exact hP1.out.cc
                    clear hK K
                    repeat (first | simp only [Act.put] | simp only [List.setIfInBounds_toArray] | simp only [List.set_cons_zero] | simp only [List.set_cons_succ])
                    refine wpAnyE_one (i := 9) (o := { dst := some 85, op := Op.buildSlice 28 1 #[(0, Operand.tmp 84)], type := 28, pos := "ref.go:38", after := #[{ on := 8, ground := Ground.data }], guard := none }) (by kernel_rfl) rfl (fun K hK => ?_)
                    have hP2 := Lib.hid (hP1.out.alloc (.cells #[.int .i64 (at' + (i : Int))] 3))
                    have hL1_2 := by have h9 := hP1.out.lit (.int .i64 (at' + (i : Int))) 3; rw [World.size_alloc] at h9; exact Lib.hid h9
                    have hL2_2 := Lib.hid (hL2_1.out.alloc (.cells #[.int .i64 (at' + (i : Int))] 3))
                    go_simp
                    refine hK.out _ _ (fun hL => ?_) ?_
                    · exact hP2.out.cc
                    clear hK K
                    repeat (first | simp only [Act.put] | simp only [List.setIfInBounds_toArray] | simp only [List.set_cons_zero] | simp only [List.set_cons_succ])
                    refine wpAnyE_one (i := 10) (o := { dst := some 86, op := Op.call { callee := Callee.builtin Builtin.append, args := #[Operand.tmp 81, Operand.tmp 85], argTypes := #[28, 28] }, type := 28, pos := "ref.go:38", after := #[{ on := 5, ground := Ground.data }, { on := 9, ground := Ground.data }], guard := none }) (by kernel_rfl) rfl (fun K hK => ?_)
                    refine step_app_at rfl (.tmp 81) (.tmp 85) 28 3 8 (.int .i64 0) rfl Try.underlying28 infoR3 rfl base _ _ _ rfl hP2.out.ra (Y.heap.size + 1) _ rfl hL1_2.out.cell rfl (by omega) (by decide) hP2.out.hb ?_
                    intro v3 X3 ho3 hg3 hn3
                    have hP3 := Lib.hid (hP2.out.appA ho3 hg3 hn3)
                    have hL2_3 := Lib.hid (hL2_2.out.appA hg3 hn3)
                    obtain ⟨a3, c3, rfl⟩ := own_shape ho3
                    clear ho3 hg3 hn3
                    refine hK.out _ _ (fun hL => ?_) ?_
                    · exact hP3.out.cc
                    clear hK K
                    repeat (first | simp only [Act.put] | simp only [List.setIfInBounds_toArray] | simp only [List.set_cons_zero] | simp only [List.set_cons_succ])
                    refine wpAnyE_one (i := 20) (o := { dst := some 96, op := Op.call { callee := Callee.builtin Builtin.append, args := #[Operand.tmp 90, Operand.tmp 95], argTypes := #[29, 29] }, type := 29, pos := "ref.go:38", after := #[{ on := 14, ground := Ground.data }, { on := 19, ground := Ground.data }, { on := 10, ground := Ground.chain }], guard := none }) (by kernel_rfl) rfl (fun K hK => ?_)
                    refine step_app_at rfl (.tmp 90) (.tmp 95) 29 5 1 (.int .u8 0) rfl Try.underlying29 infoR5 rfl base _ _ _ rfl hP3.out.rb Y.heap.size _ rfl hL2_3.out.cell rfl (by omega) (by decide) hP3.out.hb ?_
                    intro v4 X4 ho4 hg4 hn4
                    have hP4 := Lib.hid (hP3.out.appB ho4 hg4 hn4)
                    obtain ⟨a4, c4, rfl⟩ := own_shape ho4
                    clear ho4 hg4 hn4
                    refine hK.out _ _ (fun hL => ?_) ?_
                    · exact hP4.out.cc
                    clear hK K
                    repeat (first | simp only [Act.put] | simp only [List.setIfInBounds_toArray] | simp only [List.set_cons_zero] | simp only [List.set_cons_succ])
                    refine wpAnyE_take [22, 21] (i := 21) (oi := { dst := some 97, op := Op.nilCheck (Operand.tmp 76), type := 0, pos := "ref.go:38", after := #[{ on := 0, ground := Ground.data }, { on := 0, ground := Ground.phase }, { on := 1, ground := Ground.textOnly Departure.lateStores }, { on := 2, ground := Ground.phase }, { on := 3, ground := Ground.phase }, { on := 4, ground := Ground.phase }, { on := 5, ground := Ground.phase }, { on := 6, ground := Ground.phase }, { on := 7, ground := Ground.phase }, { on := 8, ground := Ground.phase }, { on := 9, ground := Ground.phase }, { on := 10, ground := Ground.phase }, { on := 11, ground := Ground.textOnly Departure.lateStores }, { on := 12, ground := Ground.textOnly Departure.lateStoresUnsure }, { on := 13, ground := Ground.textOnly Departure.lateStoresUnsure }, { on := 14, ground := Ground.phase }, { on := 15, ground := Ground.textOnly Departure.lateStores }, { on := 16, ground := Ground.textOnly Departure.lateStores }, { on := 17, ground := Ground.textOnly Departure.lateStoresUnsure }, { on := 18, ground := Ground.phase }, { on := 19, ground := Ground.textOnly Departure.lateStoresUnsure }, { on := 20, ground := Ground.phase }], guard := none }) (v := ?_) rfl (by kernel_rfl) (by kernel_rfl) (by kernel_rfl) (by kernel_rfl) rfl rfl (by kernel_rfl) (by kernel_rfl) (fun _ _ _ h => h) (Or.inl ⟨by rfl, ?_⟩) (by exact hP4.out.cc) ?_
                    rotate_left
                    · intro w hSw; (try dsimp only at hSw); obtain ⟨r0, r1, r2⟩ := hSw; go_simp; try (with_reducible rfl)
                    repeat (first | simp only [Act.put] | simp only [List.setIfInBounds_toArray] | simp only [List.set_cons_zero] | simp only [List.set_cons_succ])
                    refine wpAnyE_take [22] (i := 22) (oi := { dst := some 98, op := Op.fieldAddr 31 (Operand.tmp 97) 1, type := 0, pos := "ref.go:38", after := #[{ on := 21, ground := Ground.data }, { on := 0, ground := Ground.phase }, { on := 1, ground := Ground.textOnly Departure.lateStores }, { on := 2, ground := Ground.phase }, { on := 3, ground := Ground.phase }, { on := 4, ground := Ground.phase }, { on := 5, ground := Ground.phase }, { on := 6, ground := Ground.phase }, { on := 7, ground := Ground.phase }, { on := 8, ground := Ground.phase }, { on := 9, ground := Ground.phase }, { on := 10, ground := Ground.phase }, { on := 11, ground := Ground.textOnly Departure.lateStores }, { on := 12, ground := Ground.textOnly Departure.lateStoresUnsure }, { on := 13, ground := Ground.textOnly Departure.lateStoresUnsure }, { on := 14, ground := Ground.phase }, { on := 15, ground := Ground.textOnly Departure.lateStores }, { on := 16, ground := Ground.textOnly Departure.lateStores }, { on := 17, ground := Ground.textOnly Departure.lateStoresUnsure }, { on := 18, ground := Ground.phase }, { on := 19, ground := Ground.textOnly Departure.lateStoresUnsure }, { on := 20, ground := Ground.phase }], guard := none }) (v := ?_) rfl (by kernel_rfl) (by kernel_rfl) (by kernel_rfl) (by kernel_rfl) rfl rfl (by kernel_rfl) (by kernel_rfl) (fun _ _ _ h => h) (Or.inl ⟨by rfl, ?_⟩) (by exact hP4.out.cc) ?_
                    rotate_left
                    · intro w hSw; (try dsimp only at hSw); obtain ⟨r0, r1, r2⟩ := hSw; go_simp; try (with_reducible rfl)
                    repeat (first | simp only [Act.put] | simp only [List.setIfInBounds_toArray] | simp only [List.set_cons_zero] | simp only [List.set_cons_succ])
                    refine wpAnyE_one (i := 23) (o := { dst := none, op := Op.store 28 (Operand.tmp 98) (Operand.tmp 86), type := 0, pos := "ref.go:38", after := #[{ on := 22, ground := Ground.data }, { on := 10, ground := Ground.data }, { on := 20, ground := Ground.chain }, { on := 0, ground := Ground.phase }, { on := 1, ground := Ground.textOnly Departure.lateStores }, { on := 2, ground := Ground.phase }, { on := 3, ground := Ground.phase }, { on := 4, ground := Ground.phase }, { on := 5, ground := Ground.phase }, { on := 6, ground := Ground.phase }, { on := 7, ground := Ground.phase }, { on := 8, ground := Ground.phase }, { on := 9, ground := Ground.phase }, { on := 10, ground := Ground.phase }, { on := 11, ground := Ground.textOnly Departure.lateStores }, { on := 12, ground := Ground.textOnly Departure.lateStoresUnsure }, { on := 13, ground := Ground.textOnly Departure.lateStoresUnsure }, { on := 14, ground := Ground.phase }, { on := 15, ground := Ground.textOnly Departure.lateStores }, { on := 16, ground := Ground.textOnly Departure.lateStores }, { on := 17, ground := Ground.textOnly Departure.lateStoresUnsure }, { on := 18, ground := Ground.phase }, { on := 19, ground := Ground.textOnly Departure.lateStoresUnsure }, { on := 20, ground := Ground.phase }], guard := none }) (by kernel_rfl) rfl (fun K hK => ?_)
                    have gf := hP4.out.f1
                    have gz := hP4.out.fz 1
                    go_simp
                    clear gf gz
                    refine hK.out _ _ (fun hL => absurd hL (by decide)) ?_
                    clear hK K
                    repeat (first | simp only [Act.put] | simp only [List.setIfInBounds_toArray] | simp only [List.set_cons_zero] | simp only [List.set_cons_succ])
                    refine wpAnyE_one (i := 24) (o := { dst := some 99, op := Op.nilCheck (Operand.tmp 77), type := 0, pos := "ref.go:38", after := #[{ on := 1, ground := Ground.data }, { on := 0, ground := Ground.phase }, { on := 1, ground := Ground.phase }, { on := 2, ground := Ground.phase }, { on := 3, ground := Ground.phase }, { on := 4, ground := Ground.phase }, { on := 5, ground := Ground.phase }, { on := 6, ground := Ground.phase }, { on := 7, ground := Ground.phase }, { on := 8, ground := Ground.phase }, { on := 9, ground := Ground.phase }, { on := 10, ground := Ground.phase }, { on := 11, ground := Ground.phase }, { on := 12, ground := Ground.phase }, { on := 13, ground := Ground.phase }, { on := 14, ground := Ground.phase }, { on := 15, ground := Ground.phase }, { on := 16, ground := Ground.phase }, { on := 17, ground := Ground.phase }, { on := 18, ground := Ground.phase }, { on := 19, ground := Ground.phase }, { on := 20, ground := Ground.phase }, { on := 21, ground := Ground.phase }, { on := 22, ground := Ground.phase }, { on := 23, ground := Ground.phase }], guard := none }) (by kernel_rfl) rfl (fun K hK => ?_)
                    go_simp
                    refine hK.out _ _ (fun hL => absurd hL (by decide)) ?_
                    clear hK K
                    repeat (first | simp only [Act.put] | simp only [List.setIfInBounds_toArray] | simp only [List.set_cons_zero] | simp only [List.set_cons_succ])
                    refine wpAnyE_one (i := 25) (o := { dst := some 100, op := Op.fieldAddr 31 (Operand.tmp 99) 2, type := 0, pos := "ref.go:38", after := #[{ on := 24, ground := Ground.data }, { on := 0, ground := Ground.phase }, { on := 1, ground := Ground.phase }, { on := 2, ground := Ground.phase }, { on := 3, ground := Ground.phase }, { on := 4, ground := Ground.phase }, { on := 5, ground := Ground.phase }, { on := 6, ground := Ground.phase }, { on := 7, ground := Ground.phase }, { on := 8, ground := Ground.phase }, { on := 9, ground := Ground.phase }, { on := 10, ground := Ground.phase }, { on := 11, ground := Ground.phase }, { on := 12, ground := Ground.phase }, { on := 13, ground := Ground.phase }, { on := 14, ground := Ground.phase }, { on := 15, ground := Ground.phase }, { on := 16, ground := Ground.phase }, { on := 17, ground := Ground.phase }, { on := 18, ground := Ground.phase }, { on := 19, ground := Ground.phase }, { on := 20, ground := Ground.phase }, { on := 21, ground := Ground.phase }, { on := 22, ground := Ground.phase }, { on := 23, ground := Ground.phase }], guard := none }) (by kernel_rfl) rfl (fun K hK => ?_)
                    go_simp
                    refine hK.out _ _ (fun hL => absurd hL (by decide)) ?_
                    clear hK K
                    repeat (first | simp only [Act.put] | simp only [List.setIfInBounds_toArray] | simp only [List.set_cons_zero] | simp only [List.set_cons_succ])
                    refine wpAnyE_one (i := 26) (o := { dst := none, op := Op.store 29 (Operand.tmp 100) (Operand.tmp 96), type := 0, pos := "ref.go:38", after := #[{ on := 25, ground := Ground.data }, { on := 20, ground := Ground.data }, { on := 23, ground := Ground.chain }, { on := 0, ground := Ground.phase }, { on := 1, ground := Ground.phase }, { on := 2, ground := Ground.phase }, { on := 3, ground := Ground.phase }, { on := 4, ground := Ground.phase }, { on := 5, ground := Ground.phase }, { on := 6, ground := Ground.phase }, { on := 7, ground := Ground.phase }, { on := 8, ground := Ground.phase }, { on := 9, ground := Ground.phase }, { on := 10, ground := Ground.phase }, { on := 11, ground := Ground.phase }, { on := 12, ground := Ground.phase }, { on := 13, ground := Ground.phase }, { on := 14, ground := Ground.phase }, { on := 15, ground := Ground.phase }, { on := 16, ground := Ground.phase }, { on := 17, ground := Ground.phase }, { on := 18, ground := Ground.phase }, { on := 19, ground := Ground.phase }, { on := 20, ground := Ground.phase }, { on := 21, ground := Ground.phase }, { on := 22, ground := Ground.phase }, { on := 23, ground := Ground.phase }], guard := none }) (by kernel_rfl) rfl (fun K hK => ?_)
                    obtain ⟨gf, gz⟩ := hP4.out.s2 (.slice a3 (hl'.length + 1) c3)
                    go_simp
                    clear gf gz
                    refine hK.out _ _ (fun hL => absurd hL (by decide)) ?_
                    clear hK K
                    repeat (first | simp only [Act.put] | simp only [List.setIfInBounds_toArray] | simp only [List.set_cons_zero] | simp only [List.set_cons_succ])
                    refine wpAnyE_done (by kernel_rfl) ?_ _
                    have hS3 := Lib.hid (hP4.out.set rfl rfl H1.out.byt HX.out)
                    have hN3 := Lib.hid (And.intro (new_more HN.out.1 hP4.out.nA HC.out.size) (new_more HN.out.2 hP4.out.nB HC.out.size))
                    have hC3 := Lib.hid (chg_more HC.out HN.out.1 HN.out.2 hS3.out.2)
                    go_wp2_with fail
                    exact ⟨⟨i + 1, _, _, hl' ++ [(at' + (i : Int), x)], by go_num, by omega, Lib.hid hS3.out.1, HA2, hC3, hN3⟩, by simp [intOf]; omega⟩
                · have HA2 := Lib.hid (HSK.out (.inr hz0))
                  clear HON HSK HA
                  go_wp2_with (refine HH.out.mono ?_; rintro e w1 ⟨rfl, rfl⟩)
                  exact ⟨⟨i + 1, av', bv', hl', by go_num, by omega, H1, HA2, HC, HN⟩, by simp [intOf]; omega⟩
              · have HA2 := Lib.hid (HSK.out (.inl hti))
                clear HON HSK HA HH
                go_wp2_with fail
                exact ⟨⟨i + 1, av', bv', hl', by go_num, by omega, H1, HA2, HC, HN⟩, by simp [intOf]; omega⟩
            · obtain rfl : i = zs.length := by omega
              go_wp2_with fail
              go_ret
              exact .inr ⟨rfl, HAT.out, HF.out, HG.out, av', bv', hl', H1.out, HA.out, HC.out, HN.out.1, HN.out.2⟩
end Go.Proofs.Ytfgjlfcadpmkhaa
