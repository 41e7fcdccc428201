/- The document's stream: its Next. -/
import Derived.Test.YtfgjlfcadpmkhaaRNextA
namespace Go.Proofs.Ytfgjlfcadpmkhaa
open Go Go.RowKit

/-- How long the document takes the next message's body to be. -/
def bodyR (f : List Int) : Int := 65536 * f.getD 1 0 + 256 * f.getD 2 0 + f.getD 3 0
/-- Why there is no message yet. -/
inductive RNo (hl : List (Int × Int)) (t : Nat) : Int → Prop
  | short : (frontL hl t 4).length < 4 → RNo hl t 2
  | long : 4 ≤ (frontL hl t 4).length → 2000 < bodyR (frontL hl t 4) → RNo hl t 4
  | wait : 4 ≤ (frontL hl t 4).length → bodyR (frontL hl t 4) ≤ 2000 → (frontL hl t ((bodyR (frontL hl t 4)).toNat + 4)).length < (bodyR (frontL hl t 4)).toNat + 4 → RNo hl t 2
theorem front_byt {hl : List (Int × Int)} (hb : Byt (hl.map (·.2))) (n : Nat) : ∀ t : Int, Byt (frontL hl t n) := by
  induction n with
  | zero => intro t x hx; cases hx
  | succ n ih =>
    intro t x hx
    have e : frontL hl t (n + 1) = if heldL hl t < 0 then [] else heldL hl t :: frontL hl (t + 1) n := rfl
    rw [e] at hx
    split at hx
    · cases hx
    · rcases List.mem_cons.1 hx with rfl | hx
      · have := held_byte hb t; omega
      · exact ih _ x hx
theorem front_len (hl : List (Int × Int)) (n : Nat) : ∀ t : Int, (frontL hl t n).length ≤ n := by
  induction n with
  | zero => intro t; exact Nat.le_refl _
  | succ n ih =>
    intro t
    have e : frontL hl t (n + 1) = if heldL hl t < 0 then [] else heldL hl t :: frontL hl (t + 1) n := rfl
    rw [e]
    split
    · simp
    · have := ih (t + 1); simp; omega
/-- What the document's Next tells. -/
def RNextPost (w : World) (R base t : Nat) (hl : List (Int × Int)) (e : Ending) (w' : World) : Prop :=
  (∃ c, e = .returned (.tuple #[.slice none 0 0, .int .i64 c]) ∧ RNo hl t c ∧ Below w.heap.size w w') ∨
  (∃ (n : Nat) (v av bv : Value), 4 ≤ (frontL hl t 4).length ∧ bodyR (frontL hl t 4) ≤ 2000 ∧ (n : Int) = bodyR (frontL hl t 4) + 4 ∧ (frontL hl t n).length = n ∧
    e = .returned (.tuple #[v, .int .i64 0]) ∧ w'.ownsRow w.heap.size 5 1 v n (by8 (frontL hl t n)) ∧ Rs w' R base (t + n) av bv (keepP hl (t + n)) ∧ Chg [R] w w' ∧
    (∀ g, av.ownBlock = some g → w.heap.size ≤ g) ∧ (∀ g, bv.ownBlock = some g → w.heap.size ≤ g))
set_option maxRecDepth 20000 in
set_option maxHeartbeats 8000000 in
theorem rnext_any {w : World} {R base t : Nat} {av bv : Value} {hl : List (Int × Int)} (h : Rs w R base t av bv hl) (hn : hl.length ≤ 900000) (ht : t ≤ 2000000000) (hbw : base ≤ w.heap.size) :
    Calls Try.prog 5 #[.pointer (some ⟨R, 0, none⟩)] w (RNextPost w R base t hl) := by
  have H := Lib.hid h
  have HF := Lib.hid (front_any 4 h (by omega) (by omega) ht)
  have hb4 := front_byt h.byt 4 t
  have hRw : R < w.heap.size := blkLtR h.box
  generalize hf : frontL hl t 4 = f at *
  clear h
  go_enter Try.func5, Try.ntmps5
  go_wp2_with fail
  refine HF.out.mono ?_
  rintro e w1 ⟨v1, rfl, ho1, hB1⟩
  obtain ⟨a1, c1, rfl⟩ := own_shape ho1
  have HO1 := Lib.hid ho1
  have HB1 := Lib.hid hB1
  have hfl : f.length ≤ 4 := by rw [← hf]; exact front_len hl 4 t
  clear ho1 hB1 HF
  by_cases hs : f.length < 4
  · have hsi : (f.length : Int) < 4 := by omega
    go_wp2_with fail
    go_ret2
    exact .inl ⟨2, rfl, .short (by rw [hf]; exact hs), HB1.out⟩
  · have hl4 : f.length = 4 := by omega
    obtain ⟨y0, y1, y2, y3, rfl⟩ : ∃ y0 y1 y2 y3, f = [y0, y1, y2, y3] := by
      match f, hl4 with
      | [y0, y1, y2, y3], _ => exact ⟨y0, y1, y2, y3, rfl⟩
    have b0 := hb4 y0 (by simp)
    have b1 := hb4 y1 (by simp)
    have b2 := hb4 y2 (by simp)
    have b3 := hb4 y3 (by simp)
    obtain ⟨g1, rfl, d1⟩ := own_cell HO1.out (by simp [by8]) (k := 1) (x := .int .u8 y1) (by simp [by8])
    obtain ⟨_, e2, d2⟩ := own_cell HO1.out (by simp [by8]) (k := 2) (x := .int .u8 y2) (by simp [by8])
    obtain rfl : g1 = _ := by simpa using e2
    obtain ⟨_, e3, d3⟩ := own_cell HO1.out (by simp [by8]) (k := 3) (x := .int .u8 y3) (by simp [by8])
    obtain rfl : g1 = _ := by simpa using e3
    clear e2 e3
    have w1' : IntKind.i64.wrap y1 = y1 := IntWalk.i64_in _ ⟨by omega, by omega⟩
    have w2' : IntKind.i64.wrap y2 = y2 := IntWalk.i64_in _ ⟨by omega, by omega⟩
    have w3' : IntKind.i64.wrap y3 = y3 := IntWalk.i64_in _ ⟨by omega, by omega⟩
    have m1 : IntKind.i64.wrap (65536 * y1) = 65536 * y1 := IntWalk.i64_in _ ⟨by omega, by omega⟩
    have m2 : IntKind.i64.wrap (256 * y2) = 256 * y2 := IntWalk.i64_in _ ⟨by omega, by omega⟩
    have m3 : IntKind.i64.wrap (65536 * y1 + 256 * y2) = 65536 * y1 + 256 * y2 := IntWalk.i64_in _ ⟨by omega, by omega⟩
    have hbod : bodyR [y0, y1, y2, y3] = 65536 * y1 + 256 * y2 + y3 := rfl
    obtain ⟨m, hm⟩ : ∃ m : Nat, 65536 * y1 + 256 * y2 + y3 = (m : Int) := ⟨(65536 * y1 + 256 * y2 + y3).toNat, by omega⟩
    have HM := Lib.hid (hbod.trans hm)
    have m4 : IntKind.i64.wrap (m : Int) = (m : Int) := IntWalk.i64_in _ ⟨by omega, by omega⟩
    have HHF := Lib.hid hf
    clear b0 b1 b2 b3 hb4 hs hfl hbod hf hl4
    go_wp2_with fail
    go_quiet (fail)
    have hbq : Below w1.heap.size w1 (w1.drewN nq) := ⟨rfl, rfl, rfl, Nat.le_refl _, fun _ _ => rfl⟩
    have HB2 := Lib.hid (HB1.out.trans (hbq.mono HB1.out.size))
    clear hbq HB1 HO1
    have HW1 := Lib.hid (Nat.le_trans HB2.out.size (Nat.le_refl _))
    generalize w1.drewN nq = W1 at HB2 HW1 ⊢
    clear m1 m2 m3 m4 hm d1 d2 d3
    by_cases hbig : 2000 < m
    · have hbi : 2000 < (m : Int) := by omega
      go_wp2_with fail
      go_ret2
      exact .inl ⟨4, rfl, .long (by rw [HHF.out]; simp) (by rw [HHF.out, HM.out]; exact hbi), HB2.out⟩
    · have hbi : ¬ 2000 < (m : Int) := by omega
      have ma : IntKind.i64.wrap ((m : Int) + 4) = ((m + 4 : Nat) : Int) := IntWalk.i64_in _ ⟨by omega, by omega⟩
      have H1 := Lib.hid (H.out.below HB2.out)
      have HF := Lib.hid (front_any (m + 4) H1.out (by omega) (by omega) ht)
      have hbm := front_byt H.out.byt (m + 4) t
      have hfl := front_len hl (m + 4) t
      generalize hf : frontL hl t (m + 4) = f2 at *
      have HHF2 := Lib.hid hf
      have HBM := Lib.hid hbm
      clear hf hbm
      go_wp2_with fail
      refine HF.out.mono ?_
      rintro e w2 ⟨v2, rfl, ho2, hB2⟩
      obtain ⟨a2, c2, rfl⟩ := own_shape ho2
      have HO2 := Lib.hid ho2
      have HB3 := Lib.hid (HB2.out.trans (hB2.mono HB2.out.size))
      clear ho2 hB2 HF HB2
      by_cases hs : f2.length < m + 4
      · have hsi : (f2.length : Int) < ((m + 4 : Nat) : Int) := by omega
        go_wp2_with fail
        go_ret2
        exact .inl ⟨2, rfl, .wait (by rw [HHF.out]; simp) (by rw [HHF.out, HM.out]; omega) (by rw [HHF.out, HM.out, Int.toNat_natCast, HHF2.out]; exact hs), HB3.out⟩
      · obtain hl2 : f2.length = m + 4 := by omega
        obtain ⟨T, hT⟩ : ∃ T : Nat, t + (m + 4) = T := ⟨_, rfl⟩
        have H2 := Lib.hid (H.out.below HB3.out)
        obtain ⟨aa, ac, ba, bc, rfl, rfl⟩ := H.out.shapes
        have bx2 := H2.out.box
        have q0 : w2.cell? ⟨R, 0, none⟩ = some (.int .i64 t) := (cell_of_row w2 R 0 _ 31 (0, 0) bx2).trans rfl
        have z0 : w2.frozen? ⟨R, 0, none⟩ = false := frozen_of_row w2 R 0 _ _ bx2
        have bx3 := heap_setCell_same w2 R 0 _ 31 (.int .i64 (T : Int)) bx2
        simp only [List.setIfInBounds_toArray, List.set_cons_zero] at bx3
        have et : IntKind.i64.wrap ((t : Int) + ((m : Int) + 4)) = (T : Int) := (IntWalk.i64_in _ ⟨by omega, by omega⟩).trans (by omega)
        have hRl := H.out.low
        have HC3 := Lib.hid ((Chg.of_below (S := [R]) HB3.out).trans (Chg.set w2 0 (.int .i64 (T : Int)) (List.mem_singleton.2 rfl)))
        have hW1 := HW1.out
        have HO3 := Lib.hid (World.ownsRow.kept HO2.out (grown_set w2 R 0 (.int .i64 (T : Int))) (.inr fun e => by have := (HO2.out.lt R e).1; omega))
        have HA3 := Lib.hid (World.ownsRow.kept H2.out.at' (grown_set w2 R 0 (.int .i64 (T : Int))) (.inr fun e => by have := (H2.out.at'.lt R e).1; omega))
        have HY3 := Lib.hid (World.ownsRow.kept H2.out.byte (grown_set w2 R 0 (.int .i64 (T : Int))) (.inr fun e => by have := (H2.out.byte.lt R e).1; omega))
        obtain ⟨w3, hw3⟩ : ∃ w3, w2.setCell ⟨R, 0, none⟩ (.int .i64 (T : Int)) = w3 := ⟨_, rfl⟩
        rw [hw3] at bx3 HC3 HO3 HA3 HY3
        have HX3 := Lib.hid bx3
        clear bx2 bx3 hs hW1
        rw [hl2] at HO3 ⊢
        go_wp2_with fail
        clear hw3 q0 z0 HO2 H2 HB3
        go_loopw [7, 8, 9] (fun xv yv iv wr => ∃ (k : Nat) (a7 : Option Addr) (c7 : Nat) (a8 : Option Addr) (c8 : Nat), xv = .slice a7 (keepP (hl.take k) T).length c7 ∧ yv = .slice a8 (keepP (hl.take k) T).length c8 ∧ iv = .int .i64 (k : Int) ∧ k ≤ hl.length ∧
          Hid (Nj w3 (.slice a7 (keepP (hl.take k) T).length c7) (keepP (hl.take k) T).length ((keepP (hl.take k) T).map fun x => .int .i64 x.1) (.slice a8 (keepP (hl.take k) T).length c8) (keepP (hl.take k) T).length (by8 ((keepP (hl.take k) T).map (·.2))) wr)) (fun _ _ iv _ => hl.length - (intOf iv).toNat)
        case atStart => exact ⟨0, none, 0, none, 0, rfl, rfl, rfl, Nat.zero_le _, Lib.hid ⟨World.ownsRow_nil _ _ _ _, World.ownsRow_nil _ _ _ _, Below.refl _ _⟩⟩
        case round =>
          obtain ⟨k, a7, c7, a8, c8, rfl, rfl, rfl, hk, HJ⟩ := hrel
          have f0 := keepS HJ.out.bel ((cell_of_row w3 R 0 _ _ _ HX3.out).trans rfl)
          have f1 := keepS HJ.out.bel ((cell_of_row w3 R 1 _ _ _ HX3.out).trans rfl)
          have f2' := keepS HJ.out.bel ((cell_of_row w3 R 2 _ _ _ HX3.out).trans rfl)
          by_cases hlt : k < hl.length
          · obtain ⟨x, hx⟩ : ∃ x, hl[k]? = some x := ⟨_, List.getElem?_eq_getElem hlt⟩
            obtain ⟨ga, rfl, d1⟩ := own_cell HA3.out (by simp) (k := k) (x := .int .i64 x.1) (by simp [hx])
            obtain ⟨gb, rfl, d2⟩ := own_cell HY3.out (by simp [by8]) (k := k) (x := .int .u8 x.2) (by simp [by8, hx])
            have D1 := d1
            have D2 := d2
            replace d1 := keepS HJ.out.bel d1
            replace d2 := keepS HJ.out.bel d2
            have hki : (k : Int) < (hl.length : Int) := by omega
            have HT := Lib.hid (keepP_take hx T)
            have HXB : Hid (0 ≤ x.2 ∧ x.2 ≤ 255) := Lib.hid (H.out.byt x.2 (List.mem_map.2 ⟨x, List.mem_of_getElem? hx, rfl⟩))
            have hkl := keepP_len hl T k
            clear hx
            obtain ⟨xp, xb⟩ := x
            simp only at d1 d2 D1 D2 HXB HT
            generalize hK : keepP (hl.take k) T = K0 at *
            by_cases hge : (T : Int) ≤ xp
            · have HT2 := HT.out
              rw [if_pos hge] at HT2
              have HTT := Lib.hid HT2
              clear HT2
              have HS3 : Hid (∀ X : World, Below w3.heap.size w3 X → X.cell? ⟨R, 1, none⟩ = some (.slice (some ⟨ga, 0, none⟩) hl.length ac) ∧ X.cell? ⟨R, 2, none⟩ = some (.slice (some ⟨gb, 0, none⟩) hl.length bc) ∧ X.cell? ⟨ga, k, none⟩ = some (.int .i64 xp) ∧ X.cell? ⟨gb, k, none⟩ = some (.int .u8 xb)) := Lib.hid fun X hb => ⟨keepS hb ((cell_of_row w3 R 1 _ _ _ HX3.out).trans rfl), keepS hb ((cell_of_row w3 R 2 _ _ _ HX3.out).trans rfl), keepS hb D1, keepS hb D2⟩
              clear D1 D2
              go_wp2_with fail
              go_quiet (fail)
              have HJ2 := Lib.hid (HJ.out.same (below_drewN wr nq))
              clear HJ f0 f1 f2' d1 d2
              go_wp2_with fail
              refine wp_region_noPanic ?_
              have hP0 := Lib.hid (HJ2.out.same (below_drewR _))
              refine wp_region_held_drew (S := fun w' => w'.cell? ⟨R, 1, none⟩ = some (.slice (some ⟨ga, 0, none⟩) hl.length ac) ∧ w'.cell? ⟨R, 2, none⟩ = some (.slice (some ⟨gb, 0, none⟩) hl.length bc) ∧ w'.cell? ⟨ga, k, none⟩ = some (.int .i64 xp) ∧ w'.cell? ⟨gb, k, none⟩ = some (.int .u8 xb)) (by kernel_rfl) (HS3.out _ hP0.out.bel) (fun hHeld => ?_)
              generalize (wr.drewN nq).drew = Y at hP0 hHeld ⊢
              refine wpAnyH_take (i := 0) (oi := { dst := some 72, op := Op.move (Operand.tmp 7), type := 28, pos := "ref.go:76", after := #[], guard := none }) (v := ?_) rfl (by kernel_rfl) (by kernel_rfl) (by kernel_rfl) (fun _ _ _ h => h) (Or.inl ⟨by rfl, ?_⟩) (by assumption) ?_
              rotate_left
              · intro wq hSw; (try dsimp only at hSw); go_simp; try (with_reducible rfl)
              repeat (first | simp only [Act.put] | simp only [List.setIfInBounds_toArray] | simp only [List.set_cons_zero] | simp only [List.set_cons_succ])
              refine wpAnyH_take (i := 1) (oi := { dst := some 73, op := Op.move (Operand.tmp 0), type := 27, pos := "ref.go:76", after := #[], guard := none }) (v := ?_) rfl (by kernel_rfl) (by kernel_rfl) (by kernel_rfl) (fun _ _ _ h => h) (Or.inl ⟨by rfl, ?_⟩) (by assumption) ?_
              rotate_left
              · intro wq hSw; (try dsimp only at hSw); go_simp; try (with_reducible rfl)
              repeat (first | simp only [Act.put] | simp only [List.setIfInBounds_toArray] | simp only [List.set_cons_zero] | simp only [List.set_cons_succ])
              refine wpAnyH_take (i := 2) (oi := { dst := some 74, op := Op.nilCheck (Operand.tmp 73), type := 0, pos := "ref.go:76", after := #[{ on := 1, ground := Ground.data }], guard := none }) (v := ?_) rfl (by kernel_rfl) (by kernel_rfl) (by kernel_rfl) (fun _ _ _ h => h) (Or.inl ⟨by rfl, ?_⟩) (by assumption) ?_
              rotate_left
              · intro wq hSw; (try dsimp only at hSw); go_simp; try (with_reducible rfl)
              repeat (first | simp only [Act.put] | simp only [List.setIfInBounds_toArray] | simp only [List.set_cons_zero] | simp only [List.set_cons_succ])
              refine wpAnyH_take (i := 3) (oi := { dst := some 75, op := Op.fieldAddr 31 (Operand.tmp 74) 1, type := 0, pos := "ref.go:76", after := #[{ on := 2, ground := Ground.data }], guard := none }) (v := ?_) rfl (by kernel_rfl) (by kernel_rfl) (by kernel_rfl) (fun _ _ _ h => h) (Or.inl ⟨by rfl, ?_⟩) (by assumption) ?_
              rotate_left
              · intro wq hSw; (try dsimp only at hSw); go_simp; try (with_reducible rfl)
              repeat (first | simp only [Act.put] | simp only [List.setIfInBounds_toArray] | simp only [List.set_cons_zero] | simp only [List.set_cons_succ])
              refine wpAnyH_take (i := 4) (oi := { dst := some 76, op := Op.load 28 (Operand.tmp 75), type := 28, pos := "ref.go:76", after := #[{ on := 3, ground := Ground.data }], guard := none }) (v := ?_) rfl (by kernel_rfl) (by kernel_rfl) (by kernel_rfl) (fun _ _ _ h => h) (Or.inl ⟨by rfl, ?_⟩) (by assumption) ?_
              rotate_left
              · intro wq hSw; (try dsimp only at hSw); go_simp; try (with_reducible rfl)
              repeat (first | simp only [Act.put] | simp only [List.setIfInBounds_toArray] | simp only [List.set_cons_zero] | simp only [List.set_cons_succ])
              refine wpAnyH_take (i := 5) (oi := { dst := some 77, op := Op.move (Operand.tmp 9), type := 3, pos := "ref.go:76", after := #[], guard := none }) (v := ?_) rfl (by kernel_rfl) (by kernel_rfl) (by kernel_rfl) (fun _ _ _ h => h) (Or.inl ⟨by rfl, ?_⟩) (by assumption) ?_
              rotate_left
              · intro wq hSw; (try dsimp only at hSw); go_simp; try (with_reducible rfl)
              repeat (first | simp only [Act.put] | simp only [List.setIfInBounds_toArray] | simp only [List.set_cons_zero] | simp only [List.set_cons_succ])
              refine wpAnyH_take (i := 6) (oi := { dst := some 78, op := Op.indexAddr 28 (Operand.tmp 76) (Operand.tmp 77), type := 0, pos := "ref.go:76", after := #[{ on := 4, ground := Ground.data }, { on := 5, ground := Ground.data }], guard := none }) (v := ?_) rfl (by kernel_rfl) (by kernel_rfl) (by kernel_rfl) (fun _ _ _ h => h) (Or.inl ⟨by rfl, ?_⟩) (by assumption) ?_
              rotate_left
              · intro wq hSw; (try dsimp only at hSw); go_simp; try (with_reducible rfl)
              repeat (first | simp only [Act.put] | simp only [List.setIfInBounds_toArray] | simp only [List.set_cons_zero] | simp only [List.set_cons_succ])
              refine wpAnyH_take (i := 7) (oi := { dst := some 79, op := Op.load 3 (Operand.tmp 78), type := 3, pos := "ref.go:76", after := #[{ on := 6, ground := Ground.data }], guard := none }) (v := ?_) rfl (by kernel_rfl) (by kernel_rfl) (by kernel_rfl) (fun _ _ _ h => h) (Or.inl ⟨by rfl, ?_⟩) (by assumption) ?_
              rotate_left
              · intro wq hSw; (try dsimp only at hSw); go_simp; try (with_reducible rfl)
              repeat (first | simp only [Act.put] | simp only [List.setIfInBounds_toArray] | simp only [List.set_cons_zero] | simp only [List.set_cons_succ])
              refine wpAnyH_take (i := 10) (oi := { dst := some 82, op := Op.move (Operand.tmp 8), type := 29, pos := "ref.go:76", after := #[], guard := none }) (v := ?_) rfl (by kernel_rfl) (by kernel_rfl) (by kernel_rfl) (fun _ _ _ h => h) (Or.inl ⟨by rfl, ?_⟩) (by assumption) ?_
              rotate_left
              · intro wq hSw; (try dsimp only at hSw); go_simp; try (with_reducible rfl)
              repeat (first | simp only [Act.put] | simp only [List.setIfInBounds_toArray] | simp only [List.set_cons_zero] | simp only [List.set_cons_succ])
              refine wpAnyH_take (i := 11) (oi := { dst := some 83, op := Op.move (Operand.tmp 0), type := 27, pos := "ref.go:76", after := #[], guard := none }) (v := ?_) rfl (by kernel_rfl) (by kernel_rfl) (by kernel_rfl) (fun _ _ _ h => h) (Or.inl ⟨by rfl, ?_⟩) (by assumption) ?_
              rotate_left
              · intro wq hSw; (try dsimp only at hSw); go_simp; try (with_reducible rfl)
              repeat (first | simp only [Act.put] | simp only [List.setIfInBounds_toArray] | simp only [List.set_cons_zero] | simp only [List.set_cons_succ])
              refine wpAnyH_take (i := 12) (oi := { dst := some 84, op := Op.nilCheck (Operand.tmp 83), type := 0, pos := "ref.go:76", after := #[{ on := 11, ground := Ground.data }], guard := none }) (v := ?_) rfl (by kernel_rfl) (by kernel_rfl) (by kernel_rfl) (fun _ _ _ h => h) (Or.inl ⟨by rfl, ?_⟩) (by assumption) ?_
              rotate_left
              · intro wq hSw; (try dsimp only at hSw); go_simp; try (with_reducible rfl)
              repeat (first | simp only [Act.put] | simp only [List.setIfInBounds_toArray] | simp only [List.set_cons_zero] | simp only [List.set_cons_succ])
              refine wpAnyH_take (i := 13) (oi := { dst := some 85, op := Op.fieldAddr 31 (Operand.tmp 84) 2, type := 0, pos := "ref.go:76", after := #[{ on := 12, ground := Ground.data }], guard := none }) (v := ?_) rfl (by kernel_rfl) (by kernel_rfl) (by kernel_rfl) (fun _ _ _ h => h) (Or.inl ⟨by rfl, ?_⟩) (by assumption) ?_
              rotate_left
              · intro wq hSw; (try dsimp only at hSw); go_simp; try (with_reducible rfl)
              repeat (first | simp only [Act.put] | simp only [List.setIfInBounds_toArray] | simp only [List.set_cons_zero] | simp only [List.set_cons_succ])
              refine wpAnyH_take (i := 14) (oi := { dst := some 86, op := Op.load 29 (Operand.tmp 85), type := 29, pos := "ref.go:76", after := #[{ on := 13, ground := Ground.data }], guard := none }) (v := ?_) rfl (by kernel_rfl) (by kernel_rfl) (by kernel_rfl) (fun _ _ _ h => h) (Or.inl ⟨by rfl, ?_⟩) (by assumption) ?_
              rotate_left
              · intro wq hSw; (try dsimp only at hSw); go_simp; try (with_reducible rfl)
              repeat (first | simp only [Act.put] | simp only [List.setIfInBounds_toArray] | simp only [List.set_cons_zero] | simp only [List.set_cons_succ])
              refine wpAnyH_take (i := 15) (oi := { dst := some 87, op := Op.move (Operand.tmp 9), type := 3, pos := "ref.go:76", after := #[], guard := none }) (v := ?_) rfl (by kernel_rfl) (by kernel_rfl) (by kernel_rfl) (fun _ _ _ h => h) (Or.inl ⟨by rfl, ?_⟩) (by assumption) ?_
              rotate_left
              · intro wq hSw; (try dsimp only at hSw); go_simp; try (with_reducible rfl)
              repeat (first | simp only [Act.put] | simp only [List.setIfInBounds_toArray] | simp only [List.set_cons_zero] | simp only [List.set_cons_succ])
              refine wpAnyH_take (i := 16) (oi := { dst := some 88, op := Op.indexAddr 29 (Operand.tmp 86) (Operand.tmp 87), type := 0, pos := "ref.go:76", after := #[{ on := 14, ground := Ground.data }, { on := 15, ground := Ground.data }], guard := none }) (v := ?_) rfl (by kernel_rfl) (by kernel_rfl) (by kernel_rfl) (fun _ _ _ h => h) (Or.inl ⟨by rfl, ?_⟩) (by assumption) ?_
              rotate_left
              · intro wq hSw; (try dsimp only at hSw); go_simp; try (with_reducible rfl)
              repeat (first | simp only [Act.put] | simp only [List.setIfInBounds_toArray] | simp only [List.set_cons_zero] | simp only [List.set_cons_succ])
              refine wpAnyH_take (i := 17) (oi := { dst := some 89, op := Op.load 5 (Operand.tmp 88), type := 5, pos := "ref.go:76", after := #[{ on := 16, ground := Ground.data }], guard := none }) (v := ?_) rfl (by kernel_rfl) (by kernel_rfl) (by kernel_rfl) (fun _ _ _ h => h) (Or.inl ⟨by rfl, ?_⟩) (by assumption) ?_
              rotate_left
              · intro wq hSw; (try dsimp only at hSw); go_simp; try (with_reducible rfl)
              repeat (first | simp only [Act.put] | simp only [List.setIfInBounds_toArray] | simp only [List.set_cons_zero] | simp only [List.set_cons_succ])
              refine wpAnyH_ready (rs := [8, 18]) (by kernel_rfl) (by simp) ?_
              refine AllReadyH.cons (o := { dst := some 80, op := Op.buildSlice 28 1 #[(0, Operand.tmp 79)], type := 28, pos := "ref.go:76", after := #[{ on := 7, ground := Ground.data }], guard := none }) rfl (fun K hK => ?_) ?_
              rotate_left
              refine AllReadyH.cons (o := { dst := some 90, op := Op.buildSlice 29 1 #[(0, Operand.tmp 89)], type := 29, pos := "ref.go:76", after := #[{ on := 17, ground := Ground.data }], guard := none }) rfl (fun K hK => ?_) ?_
              rotate_left
              exact AllReadyH.nil
              · skip
                have hP1 := Lib.hid (hP0.out.alloc (.cells #[(.int .i64 xp)] 3))
                have hL1_1 := Lib.hid (hP0.out.lit (.int .i64 xp) 3)
                go_simp
                refine hK.out _ _ (HS3.out _ hP1.out.bel) (fun hHeld => ?_)
                clear hK K
                repeat (first | simp only [Act.put] | simp only [List.setIfInBounds_toArray] | simp only [List.set_cons_zero] | simp only [List.set_cons_succ])
                refine wpAnyH_ready (rs := [9, 18]) (by kernel_rfl) (by simp) ?_
                refine AllReadyH.cons (o := { dst := some 81, op := Op.call { callee := Callee.builtin Builtin.append, args := #[Operand.tmp 72, Operand.tmp 80], argTypes := #[28, 28] }, type := 28, pos := "ref.go:76", after := #[{ on := 0, ground := Ground.data }, { on := 8, ground := Ground.data }], guard := none }) rfl (fun K hK => ?_) ?_
                rotate_left
                refine AllReadyH.cons (o := { dst := some 90, op := Op.buildSlice 29 1 #[(0, Operand.tmp 89)], type := 29, pos := "ref.go:76", after := #[{ on := 17, ground := Ground.data }], guard := none }) rfl (fun K hK => ?_) ?_
                rotate_left
                exact AllReadyH.nil
                · skip
                  refine step_app_at rfl (.tmp 72) (.tmp 80) 28 3 8 (.int .i64 0) rfl Try.underlying28 infoR3 rfl w3.heap.size _ _ _ rfl hP1.out.ra Y.heap.size _ rfl hL1_1.out.cell rfl (by omega) (by decide) hP1.out.bel.size ?_
                  intro v3 X3 ho3 hg3 hn3
                  have hP2 := Lib.hid (hP1.out.appA ho3 hg3)
                  obtain ⟨a3, c3, rfl⟩ := own_shape ho3
                  clear ho3 hg3 hn3
                  refine hK.out _ _ (HS3.out _ hP2.out.bel) (fun hHeld => ?_)
                  clear hK K
                  repeat (first | simp only [Act.put] | simp only [List.setIfInBounds_toArray] | simp only [List.set_cons_zero] | simp only [List.set_cons_succ])
                  refine wpAnyH_ready (rs := [18]) (by kernel_rfl) (by simp) ?_
                  refine AllReadyH.cons (o := { dst := some 90, op := Op.buildSlice 29 1 #[(0, Operand.tmp 89)], type := 29, pos := "ref.go:76", after := #[{ on := 17, ground := Ground.data }], guard := none }) rfl (fun K hK => ?_) ?_
                  rotate_left
                  exact AllReadyH.nil
                  · skip
                    have hP3 := Lib.hid (hP2.out.alloc (.cells #[(.int .u8 xb)] 5))
                    have hL2_3 := Lib.hid (hP2.out.lit (.int .u8 xb) 5)
                    go_simp
                    refine hK.out _ _ (HS3.out _ hP3.out.bel) (fun hHeld => ?_)
                    clear hK K
                    repeat (first | simp only [Act.put] | simp only [List.setIfInBounds_toArray] | simp only [List.set_cons_zero] | simp only [List.set_cons_succ])
                    refine wpAnyH_ready (rs := [19]) (by kernel_rfl) (by simp) ?_
                    refine AllReadyH.cons (o := { dst := some 91, op := Op.call { callee := Callee.builtin Builtin.append, args := #[Operand.tmp 82, Operand.tmp 90], argTypes := #[29, 29] }, type := 29, pos := "ref.go:76", after := #[{ on := 10, ground := Ground.data }, { on := 18, ground := Ground.data }, { on := 9, ground := Ground.chain }], guard := none }) rfl (fun K hK => ?_) ?_
                    rotate_left
                    exact AllReadyH.nil
                    · skip
                      refine step_app_at rfl (.tmp 82) (.tmp 90) 29 5 1 (.int .u8 0) rfl Try.underlying29 infoR5 rfl w3.heap.size _ _ _ rfl hP3.out.rb X3.heap.size _ rfl hL2_3.out.cell rfl (by omega) (by decide) hP3.out.bel.size ?_
                      intro v4 X4 ho4 hg4 _
                      have hP4 := Lib.hid (hP3.out.appB ho4 hg4)
                      obtain ⟨a4, c4, rfl⟩ := own_shape ho4
                      clear ho4 hg4
                      refine hK.out _ _ (HS3.out _ hP4.out.bel) (fun hHeld => ?_)
                      clear hK K
                      repeat (first | simp only [Act.put] | simp only [List.setIfInBounds_toArray] | simp only [List.set_cons_zero] | simp only [List.set_cons_succ])
                      refine wpAnyH_take (i := 20) (oi := { dst := some 7, op := Op.assign (Operand.tmp 81), type := 28, pos := "ref.go:76", after := #[{ on := 9, ground := Ground.data }, { on := 19, ground := Ground.chain }, { on := 0, ground := Ground.phase }, { on := 1, ground := Ground.phase }, { on := 2, ground := Ground.phase }, { on := 3, ground := Ground.phase }, { on := 4, ground := Ground.phase }, { on := 5, ground := Ground.phase }, { on := 6, ground := Ground.phase }, { on := 7, ground := Ground.phase }, { on := 8, ground := Ground.phase }, { on := 9, ground := Ground.phase }, { on := 10, ground := Ground.textOnly Departure.lateStores }, { on := 11, ground := Ground.textOnly Departure.lateStores }, { on := 12, ground := Ground.textOnly Departure.lateStores }, { on := 13, ground := Ground.textOnly Departure.lateStores }, { on := 14, ground := Ground.textOnly Departure.lateStores }, { on := 15, ground := Ground.textOnly Departure.lateStores }, { on := 16, ground := Ground.textOnly Departure.lateStores }, { on := 17, ground := Ground.textOnly Departure.lateStores }, { on := 18, ground := Ground.textOnly Departure.lateStores }, { on := 19, ground := Ground.textOnly Departure.lateStoresUnsure }], guard := none }) (v := ?_) rfl (by kernel_rfl) (by kernel_rfl) (by kernel_rfl) (fun _ _ _ h => h) (Or.inl ⟨by rfl, ?_⟩) (by assumption) ?_
                      rotate_left
                      · intro wq hSw; (try dsimp only at hSw); go_simp; try (with_reducible rfl)
                      repeat (first | simp only [Act.put] | simp only [List.setIfInBounds_toArray] | simp only [List.set_cons_zero] | simp only [List.set_cons_succ])
                      refine wpAnyH_take (i := 21) (oi := { dst := some 8, op := Op.assign (Operand.tmp 91), type := 29, pos := "ref.go:76", after := #[{ on := 19, ground := Ground.data }, { on := 20, ground := Ground.chain }, { on := 0, ground := Ground.phase }, { on := 1, ground := Ground.phase }, { on := 2, ground := Ground.phase }, { on := 3, ground := Ground.phase }, { on := 4, ground := Ground.phase }, { on := 5, ground := Ground.phase }, { on := 6, ground := Ground.phase }, { on := 7, ground := Ground.phase }, { on := 8, ground := Ground.phase }, { on := 9, ground := Ground.phase }, { on := 10, ground := Ground.phase }, { on := 11, ground := Ground.phase }, { on := 12, ground := Ground.phase }, { on := 13, ground := Ground.phase }, { on := 14, ground := Ground.phase }, { on := 15, ground := Ground.phase }, { on := 16, ground := Ground.phase }, { on := 17, ground := Ground.phase }, { on := 18, ground := Ground.phase }, { on := 19, ground := Ground.phase }, { on := 20, ground := Ground.phase }], guard := none }) (v := ?_) rfl (by kernel_rfl) (by kernel_rfl) (by kernel_rfl) (fun _ _ _ h => h) (Or.inl ⟨by rfl, ?_⟩) (by assumption) ?_
                      rotate_left
                      · intro wq hSw; (try dsimp only at hSw); go_simp; try (with_reducible rfl)
                      repeat (first | simp only [Act.put] | simp only [List.setIfInBounds_toArray] | simp only [List.set_cons_zero] | simp only [List.set_cons_succ])
                      refine wpAnyH_done (by kernel_rfl) ?_ _
                      refine NoPanic.normal ?_
                      clear hHeld
                      go_wp2_with fail
                      have hFL : (keepP (hl.take (k + 1)) T).length = K0.length + 1 := by rw [HTT.out]; simp
                      exact ⟨⟨k + 1, a3, c3, a4, c4, by rw [hFL], by rw [hFL], by go_num, by omega, Lib.hid (by rw [hFL, HTT.out]; simpa [by8] using hP4.out)⟩, by simp [intOf]; omega⟩
                · skip
                  have hP2 := Lib.hid (hP1.out.alloc (.cells #[(.int .u8 xb)] 5))
                  have hL2_2 := by have h9 := hP1.out.lit (.int .u8 xb) 5; rw [World.size_alloc] at h9; exact Lib.hid h9
                  have hL1_2 := Lib.hid (hL1_1.out.alloc (.cells #[(.int .u8 xb)] 5))
                  go_simp
                  refine hK.out _ _ (HS3.out _ hP2.out.bel) (fun hHeld => ?_)
                  clear hK K
                  repeat (first | simp only [Act.put] | simp only [List.setIfInBounds_toArray] | simp only [List.set_cons_zero] | simp only [List.set_cons_succ])
                  refine wpAnyH_ready (rs := [9]) (by kernel_rfl) (by simp) ?_
                  refine AllReadyH.cons (o := { dst := some 81, op := Op.call { callee := Callee.builtin Builtin.append, args := #[Operand.tmp 72, Operand.tmp 80], argTypes := #[28, 28] }, type := 28, pos := "ref.go:76", after := #[{ on := 0, ground := Ground.data }, { on := 8, ground := Ground.data }], guard := none }) rfl (fun K hK => ?_) ?_
                  rotate_left
                  exact AllReadyH.nil
                  · skip
                    refine step_app_at rfl (.tmp 72) (.tmp 80) 28 3 8 (.int .i64 0) rfl Try.underlying28 infoR3 rfl w3.heap.size _ _ _ rfl hP2.out.ra Y.heap.size _ rfl hL1_2.out.cell rfl (by omega) (by decide) hP2.out.bel.size ?_
                    intro v3 X3 ho3 hg3 hn3
                    have hP3 := Lib.hid (hP2.out.appA ho3 hg3)
                    have hL2_3 := Lib.hid (hL2_2.out.appA hg3 hn3)
                    obtain ⟨a3, c3, rfl⟩ := own_shape ho3
                    clear ho3 hg3 hn3
                    refine hK.out _ _ (HS3.out _ hP3.out.bel) (fun hHeld => ?_)
                    clear hK K
                    repeat (first | simp only [Act.put] | simp only [List.setIfInBounds_toArray] | simp only [List.set_cons_zero] | simp only [List.set_cons_succ])
                    refine wpAnyH_ready (rs := [19]) (by kernel_rfl) (by simp) ?_
                    refine AllReadyH.cons (o := { dst := some 91, op := Op.call { callee := Callee.builtin Builtin.append, args := #[Operand.tmp 82, Operand.tmp 90], argTypes := #[29, 29] }, type := 29, pos := "ref.go:76", after := #[{ on := 10, ground := Ground.data }, { on := 18, ground := Ground.data }, { on := 9, ground := Ground.chain }], guard := none }) rfl (fun K hK => ?_) ?_
                    rotate_left
                    exact AllReadyH.nil
                    · skip
                      refine step_app_at rfl (.tmp 82) (.tmp 90) 29 5 1 (.int .u8 0) rfl Try.underlying29 infoR5 rfl w3.heap.size _ _ _ rfl hP3.out.rb (Y.heap.size + 1) _ rfl hL2_3.out.cell rfl (by omega) (by decide) hP3.out.bel.size ?_
                      intro v4 X4 ho4 hg4 _
                      have hP4 := Lib.hid (hP3.out.appB ho4 hg4)
                      obtain ⟨a4, c4, rfl⟩ := own_shape ho4
                      clear ho4 hg4
                      refine hK.out _ _ (HS3.out _ hP4.out.bel) (fun hHeld => ?_)
                      clear hK K
                      repeat (first | simp only [Act.put] | simp only [List.setIfInBounds_toArray] | simp only [List.set_cons_zero] | simp only [List.set_cons_succ])
                      refine wpAnyH_take (i := 20) (oi := { dst := some 7, op := Op.assign (Operand.tmp 81), type := 28, pos := "ref.go:76", after := #[{ on := 9, ground := Ground.data }, { on := 19, ground := Ground.chain }, { on := 0, ground := Ground.phase }, { on := 1, ground := Ground.phase }, { on := 2, ground := Ground.phase }, { on := 3, ground := Ground.phase }, { on := 4, ground := Ground.phase }, { on := 5, ground := Ground.phase }, { on := 6, ground := Ground.phase }, { on := 7, ground := Ground.phase }, { on := 8, ground := Ground.phase }, { on := 9, ground := Ground.phase }, { on := 10, ground := Ground.textOnly Departure.lateStores }, { on := 11, ground := Ground.textOnly Departure.lateStores }, { on := 12, ground := Ground.textOnly Departure.lateStores }, { on := 13, ground := Ground.textOnly Departure.lateStores }, { on := 14, ground := Ground.textOnly Departure.lateStores }, { on := 15, ground := Ground.textOnly Departure.lateStores }, { on := 16, ground := Ground.textOnly Departure.lateStores }, { on := 17, ground := Ground.textOnly Departure.lateStores }, { on := 18, ground := Ground.textOnly Departure.lateStores }, { on := 19, ground := Ground.textOnly Departure.lateStoresUnsure }], guard := none }) (v := ?_) rfl (by kernel_rfl) (by kernel_rfl) (by kernel_rfl) (fun _ _ _ h => h) (Or.inl ⟨by rfl, ?_⟩) (by assumption) ?_
                      rotate_left
                      · intro wq hSw; (try dsimp only at hSw); go_simp; try (with_reducible rfl)
                      repeat (first | simp only [Act.put] | simp only [List.setIfInBounds_toArray] | simp only [List.set_cons_zero] | simp only [List.set_cons_succ])
                      refine wpAnyH_take (i := 21) (oi := { dst := some 8, op := Op.assign (Operand.tmp 91), type := 29, pos := "ref.go:76", after := #[{ on := 19, ground := Ground.data }, { on := 20, ground := Ground.chain }, { on := 0, ground := Ground.phase }, { on := 1, ground := Ground.phase }, { on := 2, ground := Ground.phase }, { on := 3, ground := Ground.phase }, { on := 4, ground := Ground.phase }, { on := 5, ground := Ground.phase }, { on := 6, ground := Ground.phase }, { on := 7, ground := Ground.phase }, { on := 8, ground := Ground.phase }, { on := 9, ground := Ground.phase }, { on := 10, ground := Ground.phase }, { on := 11, ground := Ground.phase }, { on := 12, ground := Ground.phase }, { on := 13, ground := Ground.phase }, { on := 14, ground := Ground.phase }, { on := 15, ground := Ground.phase }, { on := 16, ground := Ground.phase }, { on := 17, ground := Ground.phase }, { on := 18, ground := Ground.phase }, { on := 19, ground := Ground.phase }, { on := 20, ground := Ground.phase }], guard := none }) (v := ?_) rfl (by kernel_rfl) (by kernel_rfl) (by kernel_rfl) (fun _ _ _ h => h) (Or.inl ⟨by rfl, ?_⟩) (by assumption) ?_
                      rotate_left
                      · intro wq hSw; (try dsimp only at hSw); go_simp; try (with_reducible rfl)
                      repeat (first | simp only [Act.put] | simp only [List.setIfInBounds_toArray] | simp only [List.set_cons_zero] | simp only [List.set_cons_succ])
                      refine wpAnyH_done (by kernel_rfl) ?_ _
                      refine NoPanic.normal ?_
                      clear hHeld
                      go_wp2_with fail
                      have hFL : (keepP (hl.take (k + 1)) T).length = K0.length + 1 := by rw [HTT.out]; simp
                      exact ⟨⟨k + 1, a3, c3, a4, c4, by rw [hFL], by rw [hFL], by go_num, by omega, Lib.hid (by rw [hFL, HTT.out]; simpa [by8] using hP4.out)⟩, by simp [intOf]; omega⟩
              · skip
                have hP1 := Lib.hid (hP0.out.alloc (.cells #[(.int .u8 xb)] 5))
                have hL2_1 := Lib.hid (hP0.out.lit (.int .u8 xb) 5)
                go_simp
                refine hK.out _ _ (HS3.out _ hP1.out.bel) (fun hHeld => ?_)
                clear hK K
                repeat (first | simp only [Act.put] | simp only [List.setIfInBounds_toArray] | simp only [List.set_cons_zero] | simp only [List.set_cons_succ])
                refine wpAnyH_ready (rs := [8]) (by kernel_rfl) (by simp) ?_
                refine AllReadyH.cons (o := { dst := some 80, op := Op.buildSlice 28 1 #[(0, Operand.tmp 79)], type := 28, pos := "ref.go:76", after := #[{ on := 7, ground := Ground.data }], guard := none }) rfl (fun K hK => ?_) ?_
                rotate_left
                exact AllReadyH.nil
                · skip
                  have hP2 := Lib.hid (hP1.out.alloc (.cells #[(.int .i64 xp)] 3))
                  have hL1_2 := by have h9 := hP1.out.lit (.int .i64 xp) 3; rw [World.size_alloc] at h9; exact Lib.hid h9
                  have hL2_2 := Lib.hid (hL2_1.out.alloc (.cells #[(.int .i64 xp)] 3))
                  go_simp
                  refine hK.out _ _ (HS3.out _ hP2.out.bel) (fun hHeld => ?_)
                  clear hK K
                  repeat (first | simp only [Act.put] | simp only [List.setIfInBounds_toArray] | simp only [List.set_cons_zero] | simp only [List.set_cons_succ])
                  refine wpAnyH_ready (rs := [9]) (by kernel_rfl) (by simp) ?_
                  refine AllReadyH.cons (o := { dst := some 81, op := Op.call { callee := Callee.builtin Builtin.append, args := #[Operand.tmp 72, Operand.tmp 80], argTypes := #[28, 28] }, type := 28, pos := "ref.go:76", after := #[{ on := 0, ground := Ground.data }, { on := 8, ground := Ground.data }], guard := none }) rfl (fun K hK => ?_) ?_
                  rotate_left
                  exact AllReadyH.nil
                  · skip
                    refine step_app_at rfl (.tmp 72) (.tmp 80) 28 3 8 (.int .i64 0) rfl Try.underlying28 infoR3 rfl w3.heap.size _ _ _ rfl hP2.out.ra (Y.heap.size + 1) _ rfl hL1_2.out.cell rfl (by omega) (by decide) hP2.out.bel.size ?_
                    intro v3 X3 ho3 hg3 hn3
                    have hP3 := Lib.hid (hP2.out.appA ho3 hg3)
                    have hL2_3 := Lib.hid (hL2_2.out.appA hg3 hn3)
                    obtain ⟨a3, c3, rfl⟩ := own_shape ho3
                    clear ho3 hg3 hn3
                    refine hK.out _ _ (HS3.out _ hP3.out.bel) (fun hHeld => ?_)
                    clear hK K
                    repeat (first | simp only [Act.put] | simp only [List.setIfInBounds_toArray] | simp only [List.set_cons_zero] | simp only [List.set_cons_succ])
                    refine wpAnyH_ready (rs := [19]) (by kernel_rfl) (by simp) ?_
                    refine AllReadyH.cons (o := { dst := some 91, op := Op.call { callee := Callee.builtin Builtin.append, args := #[Operand.tmp 82, Operand.tmp 90], argTypes := #[29, 29] }, type := 29, pos := "ref.go:76", after := #[{ on := 10, ground := Ground.data }, { on := 18, ground := Ground.data }, { on := 9, ground := Ground.chain }], guard := none }) rfl (fun K hK => ?_) ?_
                    rotate_left
                    exact AllReadyH.nil
                    · skip
                      refine step_app_at rfl (.tmp 82) (.tmp 90) 29 5 1 (.int .u8 0) rfl Try.underlying29 infoR5 rfl w3.heap.size _ _ _ rfl hP3.out.rb Y.heap.size _ rfl hL2_3.out.cell rfl (by omega) (by decide) hP3.out.bel.size ?_
                      intro v4 X4 ho4 hg4 _
                      have hP4 := Lib.hid (hP3.out.appB ho4 hg4)
                      obtain ⟨a4, c4, rfl⟩ := own_shape ho4
                      clear ho4 hg4
                      refine hK.out _ _ (HS3.out _ hP4.out.bel) (fun hHeld => ?_)
                      clear hK K
                      repeat (first | simp only [Act.put] | simp only [List.setIfInBounds_toArray] | simp only [List.set_cons_zero] | simp only [List.set_cons_succ])
                      refine wpAnyH_take (i := 20) (oi := { dst := some 7, op := Op.assign (Operand.tmp 81), type := 28, pos := "ref.go:76", after := #[{ on := 9, ground := Ground.data }, { on := 19, ground := Ground.chain }, { on := 0, ground := Ground.phase }, { on := 1, ground := Ground.phase }, { on := 2, ground := Ground.phase }, { on := 3, ground := Ground.phase }, { on := 4, ground := Ground.phase }, { on := 5, ground := Ground.phase }, { on := 6, ground := Ground.phase }, { on := 7, ground := Ground.phase }, { on := 8, ground := Ground.phase }, { on := 9, ground := Ground.phase }, { on := 10, ground := Ground.textOnly Departure.lateStores }, { on := 11, ground := Ground.textOnly Departure.lateStores }, { on := 12, ground := Ground.textOnly Departure.lateStores }, { on := 13, ground := Ground.textOnly Departure.lateStores }, { on := 14, ground := Ground.textOnly Departure.lateStores }, { on := 15, ground := Ground.textOnly Departure.lateStores }, { on := 16, ground := Ground.textOnly Departure.lateStores }, { on := 17, ground := Ground.textOnly Departure.lateStores }, { on := 18, ground := Ground.textOnly Departure.lateStores }, { on := 19, ground := Ground.textOnly Departure.lateStoresUnsure }], guard := none }) (v := ?_) rfl (by kernel_rfl) (by kernel_rfl) (by kernel_rfl) (fun _ _ _ h => h) (Or.inl ⟨by rfl, ?_⟩) (by assumption) ?_
                      rotate_left
                      · intro wq hSw; (try dsimp only at hSw); go_simp; try (with_reducible rfl)
                      repeat (first | simp only [Act.put] | simp only [List.setIfInBounds_toArray] | simp only [List.set_cons_zero] | simp only [List.set_cons_succ])
                      refine wpAnyH_take (i := 21) (oi := { dst := some 8, op := Op.assign (Operand.tmp 91), type := 29, pos := "ref.go:76", after := #[{ on := 19, ground := Ground.data }, { on := 20, ground := Ground.chain }, { on := 0, ground := Ground.phase }, { on := 1, ground := Ground.phase }, { on := 2, ground := Ground.phase }, { on := 3, ground := Ground.phase }, { on := 4, ground := Ground.phase }, { on := 5, ground := Ground.phase }, { on := 6, ground := Ground.phase }, { on := 7, ground := Ground.phase }, { on := 8, ground := Ground.phase }, { on := 9, ground := Ground.phase }, { on := 10, ground := Ground.phase }, { on := 11, ground := Ground.phase }, { on := 12, ground := Ground.phase }, { on := 13, ground := Ground.phase }, { on := 14, ground := Ground.phase }, { on := 15, ground := Ground.phase }, { on := 16, ground := Ground.phase }, { on := 17, ground := Ground.phase }, { on := 18, ground := Ground.phase }, { on := 19, ground := Ground.phase }, { on := 20, ground := Ground.phase }], guard := none }) (v := ?_) rfl (by kernel_rfl) (by kernel_rfl) (by kernel_rfl) (fun _ _ _ h => h) (Or.inl ⟨by rfl, ?_⟩) (by assumption) ?_
                      rotate_left
                      · intro wq hSw; (try dsimp only at hSw); go_simp; try (with_reducible rfl)
                      repeat (first | simp only [Act.put] | simp only [List.setIfInBounds_toArray] | simp only [List.set_cons_zero] | simp only [List.set_cons_succ])
                      refine wpAnyH_done (by kernel_rfl) ?_ _
                      refine NoPanic.normal ?_
                      clear hHeld
                      go_wp2_with fail
                      have hFL : (keepP (hl.take (k + 1)) T).length = K0.length + 1 := by rw [HTT.out]; simp
                      exact ⟨⟨k + 1, a3, c3, a4, c4, by rw [hFL], by rw [hFL], by go_num, by omega, Lib.hid (by rw [hFL, HTT.out]; simpa [by8] using hP4.out)⟩, by simp [intOf]; omega⟩
            · have HT2 := HT.out
              rw [if_neg hge] at HT2
              have HTT := Lib.hid HT2
              clear HT2
              go_wp2_with fail
              go_quiet (fail)
              have HJ2 := Lib.hid (HJ.out.same (below_drewN wr nq))
              go_wp2_with fail
              exact ⟨⟨k + 1, a7, c7, a8, c8, by rw [HTT.out], by rw [HTT.out], by go_num, by omega, Lib.hid (by rw [HTT.out]; exact HJ2.out)⟩, by simp [intOf]; omega⟩
          · obtain rfl : k = hl.length := by omega
            rw [List.take_length] at HJ ⊢
            have hbx := (HJ.out.bel.block R (blkLtR HX3.out)).trans HX3.out
            obtain ⟨z1, z2, z3⟩ := box_sets (v := .slice a7 (keepP hl T).length c7) hbx
            clear hbx
            have HFIN := Lib.hid (HJ.out.fin HX3.out rfl hRl hbw HC3.out (keepP_byt H.out.byt T) (own_mono HO3.out HW1.out))
            go_wp2_with fail
            go_ret2
            subst hT
            refine .inr ⟨m + 4, _, _, _, by rw [HHF.out]; simp, by rw [HHF.out, HM.out]; omega, by rw [HHF.out, HM.out]; omega, by rw [HHF2.out]; exact hl2, rfl, ?_, HFIN.out.1, HFIN.out.2.1, HFIN.out.2.2.2⟩
            rw [HHF2.out]
            exact HFIN.out.2.2.1
end Go.Proofs.Ytfgjlfcadpmkhaa
