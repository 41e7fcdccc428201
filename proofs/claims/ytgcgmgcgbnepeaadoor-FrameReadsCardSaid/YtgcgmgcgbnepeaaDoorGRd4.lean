/- frame.Read: span. -/
import Derived.Test.YtgcgmgcgbnepeaaDoorGRd3
import Derived.Test.YtgcgmgcgbnepeaaDoorEnd
namespace Go.Proofs.YtgcgmgcgbnepeaaDoor
open Go Go.RowKit

theorem lit_span (w : World) (x y : Int) : Rs (w.alloc (.cells #[.int .i64 x, .int .i64 y] 56)) (.slice (some ⟨w.heap.size, 0, none⟩) 1 1) [(x, y)] := by
  refine ⟨_, 1, rfl, by simp, by simp [maxLen], (fun h => by cases h), fun a ha j hj => ?_⟩
  cases ha
  have hh := heap_alloc_new w (.cells #[.int .i64 x, .int .i64 y] 56)
  have hc := fun i => cell_of_row _ w.heap.size i _ _ (0, 0) hh
  have : j = 0 := by simp at hj; exact hj
  subst this
  exact ⟨(hc 0).trans rfl, (hc 1).trans rfl⟩
/-- append of spans, as one operation of a region whatever its order. -/
theorem step_append_spans {w : World} {ops : Array Oper} {o : Oper} {a : Act} {K : Act → World → Prop} {Q : Exit → Act → World → Prop} {E : Prop} (hgd : o.guard = none) (s x : Operand)
    (ho : o.op = .call { callee := .builtin .append, args := #[s, x], argTypes := #[25, 25] }) (ht : Tryd.prog.underlying 25 = some (.slice 56))
    (base : Nat) (v : Value) (n : Nat) (S : List Sp) (hs : a.eval s = v) (hown : w.ownsRow base 56 2 v n (sc S))
    (xv : Value) (T : List Sp) (hx : a.eval x = xv) (hr : Rs w xv T) (hb1 : n + T.length ≤ 100000) (hbase : base ≤ w.heap.size)
    (h : ∀ v' w', w'.ownsRow base 56 2 v' (n + T.length) (sc (S ++ T)) → Below base w w' → w.grownBy w' v.ownBlock → K (a.put o.dst v') w') :
    if Region.wanted o (yielded ops a.tmps) = true then Oper.wp Tryd.prog o a w K Q else E := by
  have hw : Region.wanted o (yielded ops a.tmps) = true := by simp [Region.wanted, hgd]
  rw [if_pos hw]
  obtain ⟨i, hi, hz⟩ : ∃ i, Tryd.prog.info? 56 = some i ∧ (i.zero.map (·.cells.size), i.size, i.bytes) = (some 2, 2, 16) := by
    have hinfo := info44
    cases he : Tryd.prog.info? 56 with
    | none => rw [he] at hinfo; cases hinfo
    | some i => rw [he] at hinfo; exact ⟨i, rfl, by simpa using hinfo⟩
  simp only [Prod.mk.injEq, Option.map_eq_some_iff] at hz
  obtain ⟨⟨z, hz0, hz3⟩, hz1, hz2⟩ := hz
  obtain ⟨ao, cap, rfl, h1, h2, h3, hc⟩ := hr
  cases ao with
  | none =>
    have hcap := h3 rfl
    have hy : T = [] := List.eq_nil_of_length_eq_zero (by omega)
    subst hy; subst hcap
    have hrun := run_append_owned_none (P := Tryd.prog) (w := w) base 25 o.type 56 i 2 ht hi v n (sc S) hown
    unfold Oper.wp
    simp [execOp, ho, resolve, invoke, builtin, hs, hx, hrun, Result.andThen]
    exact h v w (by simpa using hown) (Below.refl _ _) (World.grownBy.refl _ _)
  | some ad =>
    refine wp_append_own w s x 25 ho base 56 i z 2 16 ht hi hz0 hz1 hz2 hz3 (by decide) v n (sc S) hs hown ad T.length cap (sc T) hx (by simp [sc_len]) ?_ (sc_one T) (by unfold maxLen; omega) (by omega) hbase ?_
    · intro j u hu
      obtain ⟨k, hk, ⟨rfl, rfl⟩ | ⟨rfl, rfl⟩⟩ := sc_at T j u hu
      · exact (hc ad rfl k hk).1
      · exact (hc ad rfl k hk).2
    · intro v' w' hown' hg _
      exact h v' w' (by rw [sc_app]; exact hown') (below_own hown hbase hg) hg
/-- Nothing but two blocks has changed of the first lo. -/
structure Kl (R D lo : Nat) (w w' : World) : Prop where
  os : w'.os = w.os
  tape : w'.tape = w.tape
  output : w'.output = w.output
  size : w.heap.size ≤ w'.heap.size
  block : ∀ k, k < lo → k ≠ R → k ≠ D → w'.heap[k]? = w.heap[k]?
theorem Kl.trans {R D lo : Nat} {a b c : World} (h : Kl R D lo a b) (k : Kl R D lo b c) : Kl R D lo a c :=
  ⟨k.os.trans h.os, k.tape.trans h.tape, k.output.trans h.output, Nat.le_trans h.size k.size, fun i hi hn hm => (k.block i hi hn hm).trans (h.block i hi hn hm)⟩
theorem Kl.of {R D lo : Nat} {w w' : World} (h : Kq R D w w') (hl : lo ≤ w.heap.size) : Kl R D lo w w' := ⟨h.os, h.tape, h.output, h.size, fun k hk hn hm => h.block k (by omega) hn hm⟩
theorem Kl.below {R D lo : Nat} {w w' : World} (h : Below lo w w') : Kl R D lo w w' := ⟨h.os, h.tape, h.output, h.size, fun k hk _ _ => h.block k hk⟩
theorem Kl.kq {R D lo : Nat} {w w' : World} (h : Kl R D lo w w') (hl : lo = w.heap.size) : Kq R D w w' := ⟨h.os, h.tape, h.output, h.size, fun k hk hn hm => h.block k (by omega) hn hm⟩
theorem Fq.belowL {w0 w w' : World} {B lo : Nat} {rest : List Int} {t : Nat} {short : Int} (h : Fq w0 w B rest t short) (hb : Below lo w w') (hB : B < lo) : Fq w0 w' B rest t short := by
  obtain ⟨rv, h1, h2⟩ := h.box
  have := h.lo
  exact ⟨h.bel.trans (hb.mono (by omega)), h.lo, h.sum, rv, by rw [hb.block B hB]; exact h1, h2⟩
/-- What span does. -/
def Gspan (zs : List Int) (to : Int) (t : Nat) (w0 w : World) (R B lo : Nat) (f : Fv) (dv : Value) (e : Ending) (w' : World) : Prop :=
  (e = errPanic 3 ∧ Kl R B lo w w' ∧ gVar zs t = none) ∨
  ∃ n t' sv', e = .returned (.tuple #[]) ∧ gVar zs t = some (n, t') ∧ Gq w' R B lo { f with sp := f.sp ++ [(IntKind.i64.wrap (to - n), to)] } sv' dv ∧ Fq w0 w' B (zs.drop t') t' 3 ∧ Kl R B lo w w'
set_option maxRecDepth 20000 in
set_option maxHeartbeats 4000000 in
theorem span_any {zs : List Int} {to : Int} {t : Nat} {w0 w : World} {R B lo : Nat} {f : Fv} {sv : Value} (g : Gq w R B lo f sv (.slice none 0 0)) (hfd : f.d = []) (hF : Fq w0 w B (zs.drop t) t 3) (hbt : Byt zs) (hlo : w0.heap.size ≤ B) (hl : f.sp.length ≤ 2000) :
    Calls Tryd.prog 63 #[.pointer (some ⟨R, 0, none⟩), .int .i64 to] w (Gspan zs to t w0 w R B lo f (.slice none 0 0)) := by
  have HG := Lib.hid g
  obtain ⟨c0, c1, c2, c3, c4, c5, c6, cf⟩ := g.cells
  obtain ⟨o1, o2, o3⟩ := g.ord
  obtain ⟨sa, sn, rfl⟩ := own_shape g.sp
  cases hv : gVar zs t with
  | none =>
    have hr := gnum_no hF.drew hbt hv
    have HV := Lib.hid hv
    clear g hF hv c1 c2 c4 c5 c6
    go_enter Tryd.func63, Tryd.ntmps63
    go_wp2_with fail
    go_region_dies
    all_goals go_wp2_with (go_at_call 62; refine hr.mono ?_; rintro e w3 ⟨he, hb3⟩; rw [errPanic] at he; subst he)
    all_goals exact ⟨rfl, .inl ⟨rfl, Kl.of ((Kq.r (But.drewN 1)).trans (Kq.r hb3)) o3, HV.out⟩⟩
  | some x =>
    obtain ⟨n, t1⟩ := x
    have hr := gnum_yes hF.drew hbt hv
    have HV := Lib.hid hv
    clear g hF hv c1 c2 c4 c5 c6
    go_enter Tryd.func63, Tryd.ntmps63
    go_wp2_with fail
    refine wp_region_end 20 (fun w' => w'.cell? ⟨R, 0, none⟩ = some (.pointer (some ⟨B, 0, none⟩)) ∧ w'.cell? ⟨R, 3, none⟩ = some (.slice sa f.sp.length sn)) (by kernel_rfl) ?_
    refine wpAnyE_take [0] (i := 0) (oi := { dst := some 4, op := Op.move (Operand.tmp 0), type := 79, pos := "reader.go:64", after := #[], guard := none }) (v := ?_) rfl (by kernel_rfl) (by kernel_rfl) (by kernel_rfl) (by kernel_rfl) rfl rfl (by kernel_rfl) (by kernel_rfl) (fun _ _ _ h => h) (Or.inl ⟨by rfl, ?_⟩) (by exact ⟨c0, c3⟩) ?_
    rotate_left
    · intro w hSw; (try dsimp only at hSw); go_simp; try (with_reducible rfl)
    repeat (first | simp only [Act.put] | simp only [List.setIfInBounds_toArray] | simp only [List.set_cons_zero] | simp only [List.set_cons_succ])
    refine wpAnyE_take [1] (i := 1) (oi := { dst := some 5, op := Op.move (Operand.tmp 0), type := 79, pos := "reader.go:64", after := #[], guard := none }) (v := ?_) rfl (by kernel_rfl) (by kernel_rfl) (by kernel_rfl) (by kernel_rfl) rfl rfl (by kernel_rfl) (by kernel_rfl) (fun _ _ _ h => h) (Or.inl ⟨by rfl, ?_⟩) (by exact ⟨c0, c3⟩) ?_
    rotate_left
    · intro w hSw; (try dsimp only at hSw); go_simp; try (with_reducible rfl)
    repeat (first | simp only [Act.put] | simp only [List.setIfInBounds_toArray] | simp only [List.set_cons_zero] | simp only [List.set_cons_succ])
    refine wpAnyE_take [2] (i := 2) (oi := { dst := some 6, op := Op.nilCheck (Operand.tmp 5), type := 0, pos := "reader.go:64", after := #[{ on := 1, ground := Ground.data }], guard := none }) (v := ?_) rfl (by kernel_rfl) (by kernel_rfl) (by kernel_rfl) (by kernel_rfl) rfl rfl (by kernel_rfl) (by kernel_rfl) (fun _ _ _ h => h) (Or.inl ⟨by rfl, ?_⟩) (by exact ⟨c0, c3⟩) ?_
    rotate_left
    · intro w hSw; (try dsimp only at hSw); go_simp; try (with_reducible rfl)
    repeat (first | simp only [Act.put] | simp only [List.setIfInBounds_toArray] | simp only [List.set_cons_zero] | simp only [List.set_cons_succ])
    refine wpAnyE_take [3] (i := 3) (oi := { dst := some 7, op := Op.fieldAddr 64 (Operand.tmp 6) 1, type := 0, pos := "reader.go:64", after := #[{ on := 2, ground := Ground.data }], guard := none }) (v := ?_) rfl (by kernel_rfl) (by kernel_rfl) (by kernel_rfl) (by kernel_rfl) rfl rfl (by kernel_rfl) (by kernel_rfl) (fun _ _ _ h => h) (Or.inl ⟨by rfl, ?_⟩) (by exact ⟨c0, c3⟩) ?_
    rotate_left
    · intro w hSw; (try dsimp only at hSw); go_simp; try (with_reducible rfl)
    repeat (first | simp only [Act.put] | simp only [List.setIfInBounds_toArray] | simp only [List.set_cons_zero] | simp only [List.set_cons_succ])
    refine wpAnyE_take [4] (i := 4) (oi := { dst := some 8, op := Op.fieldAddr 29 (Operand.tmp 7) 2, type := 0, pos := "reader.go:64", after := #[{ on := 3, ground := Ground.data }], guard := none }) (v := ?_) rfl (by kernel_rfl) (by kernel_rfl) (by kernel_rfl) (by kernel_rfl) rfl rfl (by kernel_rfl) (by kernel_rfl) (fun _ _ _ h => h) (Or.inl ⟨by rfl, ?_⟩) (by exact ⟨c0, c3⟩) ?_
    rotate_left
    · intro w hSw; (try dsimp only at hSw); go_simp; try (with_reducible rfl)
    repeat (first | simp only [Act.put] | simp only [List.setIfInBounds_toArray] | simp only [List.set_cons_zero] | simp only [List.set_cons_succ])
    refine wpAnyE_take [5] (i := 5) (oi := { dst := some 9, op := Op.load 25 (Operand.tmp 8), type := 25, pos := "reader.go:64", after := #[{ on := 4, ground := Ground.data }], guard := none }) (v := ?_) rfl (by kernel_rfl) (by kernel_rfl) (by kernel_rfl) (by kernel_rfl) rfl rfl (by kernel_rfl) (by kernel_rfl) (fun _ _ _ h => h) (Or.inl ⟨by rfl, ?_⟩) (by exact ⟨c0, c3⟩) ?_
    rotate_left
    · intro w hSw; (try dsimp only at hSw); go_simp; try (with_reducible rfl)
    repeat (first | simp only [Act.put] | simp only [List.setIfInBounds_toArray] | simp only [List.set_cons_zero] | simp only [List.set_cons_succ])
    refine wpAnyE_take [6] (i := 6) (oi := { dst := some 10, op := Op.move (Operand.tmp 1), type := 3, pos := "reader.go:64", after := #[], guard := none }) (v := ?_) rfl (by kernel_rfl) (by kernel_rfl) (by kernel_rfl) (by kernel_rfl) rfl rfl (by kernel_rfl) (by kernel_rfl) (fun _ _ _ h => h) (Or.inl ⟨by rfl, ?_⟩) (by exact ⟨c0, c3⟩) ?_
    rotate_left
    · intro w hSw; (try dsimp only at hSw); go_simp; try (with_reducible rfl)
    repeat (first | simp only [Act.put] | simp only [List.setIfInBounds_toArray] | simp only [List.set_cons_zero] | simp only [List.set_cons_succ])
    refine wpAnyE_take [7] (i := 7) (oi := { dst := some 11, op := Op.move (Operand.tmp 0), type := 79, pos := "reader.go:64", after := #[], guard := none }) (v := ?_) rfl (by kernel_rfl) (by kernel_rfl) (by kernel_rfl) (by kernel_rfl) rfl rfl (by kernel_rfl) (by kernel_rfl) (fun _ _ _ h => h) (Or.inl ⟨by rfl, ?_⟩) (by exact ⟨c0, c3⟩) ?_
    rotate_left
    · intro w hSw; (try dsimp only at hSw); go_simp; try (with_reducible rfl)
    repeat (first | simp only [Act.put] | simp only [List.setIfInBounds_toArray] | simp only [List.set_cons_zero] | simp only [List.set_cons_succ])
    refine wpAnyE_take [8] (i := 8) (oi := { dst := some 12, op := Op.nilCheck (Operand.tmp 11), type := 0, pos := "reader.go:64", after := #[{ on := 7, ground := Ground.data }], guard := none }) (v := ?_) rfl (by kernel_rfl) (by kernel_rfl) (by kernel_rfl) (by kernel_rfl) rfl rfl (by kernel_rfl) (by kernel_rfl) (fun _ _ _ h => h) (Or.inl ⟨by rfl, ?_⟩) (by exact ⟨c0, c3⟩) ?_
    rotate_left
    · intro w hSw; (try dsimp only at hSw); go_simp; try (with_reducible rfl)
    repeat (first | simp only [Act.put] | simp only [List.setIfInBounds_toArray] | simp only [List.set_cons_zero] | simp only [List.set_cons_succ])
    refine wpAnyE_take [9] (i := 9) (oi := { dst := some 13, op := Op.fieldAddr 64 (Operand.tmp 12) 0, type := 0, pos := "reader.go:64", after := #[{ on := 8, ground := Ground.data }], guard := none }) (v := ?_) rfl (by kernel_rfl) (by kernel_rfl) (by kernel_rfl) (by kernel_rfl) rfl rfl (by kernel_rfl) (by kernel_rfl) (fun _ _ _ h => h) (Or.inl ⟨by rfl, ?_⟩) (by exact ⟨c0, c3⟩) ?_
    rotate_left
    · intro w hSw; (try dsimp only at hSw); go_simp; try (with_reducible rfl)
    repeat (first | simp only [Act.put] | simp only [List.setIfInBounds_toArray] | simp only [List.set_cons_zero] | simp only [List.set_cons_succ])
    refine wpAnyE_take [10] (i := 10) (oi := { dst := some 14, op := Op.load 61 (Operand.tmp 13), type := 61, pos := "reader.go:64", after := #[{ on := 9, ground := Ground.data }], guard := none }) (v := ?_) rfl (by kernel_rfl) (by kernel_rfl) (by kernel_rfl) (by kernel_rfl) rfl rfl (by kernel_rfl) (by kernel_rfl) (fun _ _ _ h => h) (Or.inl ⟨by rfl, ?_⟩) (by exact ⟨c0, c3⟩) ?_
    rotate_left
    · intro w hSw; (try dsimp only at hSw); go_simp; try (with_reducible rfl)
    repeat (first | simp only [Act.put] | simp only [List.setIfInBounds_toArray] | simp only [List.set_cons_zero] | simp only [List.set_cons_succ])
    refine wpAnyE_take [13] (i := 13) (oi := { dst := some 17, op := Op.move (Operand.tmp 1), type := 3, pos := "reader.go:64", after := #[], guard := none }) (v := ?_) rfl (by kernel_rfl) (by kernel_rfl) (by kernel_rfl) (by kernel_rfl) rfl rfl (by kernel_rfl) (by kernel_rfl) (fun _ _ _ h => h) (Or.inl ⟨by rfl, ?_⟩) (by exact ⟨c0, c3⟩) ?_
    rotate_left
    · intro w hSw; (try dsimp only at hSw); go_simp; try (with_reducible rfl)
    repeat (first | simp only [Act.put] | simp only [List.setIfInBounds_toArray] | simp only [List.set_cons_zero] | simp only [List.set_cons_succ])
    refine wpAnyE_one (i := 11) (o := { dst := some 15, op := Op.call { callee := Callee.value (Operand.func 62), args := #[Operand.tmp 14], argTypes := #[61] }, type := 3, pos := "reader.go:64", after := #[{ on := 10, ground := Ground.data }], guard := none }) (by kernel_rfl) rfl (fun K hK => ?_)
    go_simp
    refine hr.mono ?_
    rintro e w3 ⟨rfl, hF3, hb3⟩
    have hg3 := (HG.out.drew).keep hb3 (by omega) (by omega)
    obtain ⟨e0, e1, e2, e3, e4, e5, e6, ef⟩ := hg3.cells
    refine hK.out _ _ (fun hL => ?_) ?_
    · exact ⟨e0, e3⟩
    clear hK K
    repeat (first | simp only [Act.put] | simp only [List.setIfInBounds_toArray] | simp only [List.set_cons_zero] | simp only [List.set_cons_succ])
    refine wpAnyE_take [12] (i := 12) (oi := { dst := some 16, op := Op.binOp BinOp.sub 3 (Operand.tmp 10) (Operand.tmp 15) 3, type := 3, pos := "reader.go:64", after := #[{ on := 6, ground := Ground.data }, { on := 11, ground := Ground.data }], guard := none }) (v := ?_) rfl (by kernel_rfl) (by kernel_rfl) (by kernel_rfl) (by kernel_rfl) rfl rfl (by kernel_rfl) (by kernel_rfl) (fun _ _ _ h => h) (Or.inl ⟨by rfl, ?_⟩) (by exact ⟨e0, e3⟩) ?_
    rotate_left
    · intro w hSw; (try dsimp only at hSw); go_simp; try (with_reducible rfl)
    repeat (first | simp only [Act.put] | simp only [List.setIfInBounds_toArray] | simp only [List.set_cons_zero] | simp only [List.set_cons_succ])
    refine wpAnyE_take [14] (i := 14) (oi := { dst := some 18, op := Op.build 56 #[(0, Operand.tmp 16), (1, Operand.tmp 17)], type := 56, pos := "reader.go:64", after := #[{ on := 12, ground := Ground.data }, { on := 13, ground := Ground.data }], guard := none }) (v := ?_) rfl (by kernel_rfl) (by kernel_rfl) (by kernel_rfl) (by kernel_rfl) rfl rfl (by kernel_rfl) (by kernel_rfl) (fun _ _ _ h => h) (Or.inl ⟨by rfl, ?_⟩) (by exact ⟨e0, e3⟩) ?_
    rotate_left
    · intro w hSw; (try dsimp only at hSw); go_simp; try (with_reducible rfl)
    repeat (first | simp only [Act.put] | simp only [List.setIfInBounds_toArray] | simp only [List.set_cons_zero] | simp only [List.set_cons_succ])
    refine wpAnyE_one (i := 15) (o := { dst := some 19, op := Op.buildSlice 25 1 #[(0, Operand.tmp 18)], type := 25, pos := "reader.go:64", after := #[{ on := 14, ground := Ground.data }], guard := none }) (by kernel_rfl) rfl (fun K hK => ?_)
    go_simp
    have hrs := lit_span w3 (IntKind.i64.wrap (to - n)) to
    have hg4 := hg3.below (below_alloc w3 (.cells #[.int .i64 (IntKind.i64.wrap (to - n)), .int .i64 to] 56))
    obtain ⟨i0, i1, i2, i3, i4, i5, i6, iff⟩ := hg4.cells
    refine hK.out _ _ (fun hL => ?_) ?_
    · exact ⟨i0, i3⟩
    clear hK K
    repeat (first | simp only [Act.put] | simp only [List.setIfInBounds_toArray] | simp only [List.set_cons_zero] | simp only [List.set_cons_succ])
    refine wpAnyE_one (i := 16) (o := { dst := some 20, op := Op.call { callee := Callee.builtin Builtin.append, args := #[Operand.tmp 9, Operand.tmp 19], argTypes := #[25, 25] }, type := 25, pos := "reader.go:64", after := #[{ on := 5, ground := Ground.data }, { on := 15, ground := Ground.data }, { on := 11, ground := Ground.chain }], guard := none }) (by kernel_rfl) rfl (fun K hK => ?_)
    refine step_append_spans (by rfl) _ _ (by rfl) Tryd.underlying25 lo (.slice sa f.sp.length sn) f.sp.length f.sp (by rfl) hg4.sp _ [(IntKind.i64.wrap (to - n), to)] (by rfl) hrs (by simp; omega) hg4.ord.2.2 ?_
    intro v5 w5 hown5 hb5 hgr5
    have hg5c : w5.heap[R]? = some (.cells (gCells B f (.slice sa f.sp.length sn) (.slice none 0 0)) 64 (0, 0)) := by rw [hb5.block R (by omega)]; exact hg4.box
    have j0 : w5.cell? ⟨R, 0, none⟩ = some (.pointer (some ⟨B, 0, none⟩)) := (cell_of_row w5 R 0 _ _ (0, 0) hg5c).trans rfl
    have j3 : w5.cell? ⟨R, 3, none⟩ = some (.slice sa f.sp.length sn) := (cell_of_row w5 R 3 _ _ (0, 0) hg5c).trans rfl
    have jf : ∀ j, w5.frozen? ⟨R, j, none⟩ = false := fun j => by simp [World.frozen?, hg5c]
    obtain ⟨a5, k5, rfl⟩ := own_shape hown5
    refine hK.out _ _ (fun hL => ?_) ?_
    · exact ⟨j0, j3⟩
    clear hK K
    repeat (first | simp only [Act.put] | simp only [List.setIfInBounds_toArray] | simp only [List.set_cons_zero] | simp only [List.set_cons_succ])
    refine wpAnyE_take [19, 18, 17] (i := 17) (oi := { dst := some 21, op := Op.nilCheck (Operand.tmp 4), type := 0, pos := "reader.go:64", after := #[{ on := 0, ground := Ground.data }, { on := 0, ground := Ground.phase }, { on := 1, ground := Ground.phase }, { on := 2, ground := Ground.phase }, { on := 3, ground := Ground.phase }, { on := 4, ground := Ground.phase }, { on := 5, ground := Ground.phase }, { on := 6, ground := Ground.phase }, { on := 7, ground := Ground.phase }, { on := 8, ground := Ground.phase }, { on := 9, ground := Ground.phase }, { on := 10, ground := Ground.phase }, { on := 11, ground := Ground.phase }, { on := 12, ground := Ground.phase }, { on := 13, ground := Ground.phase }, { on := 14, ground := Ground.phase }, { on := 15, ground := Ground.phase }, { on := 16, ground := Ground.phase }], guard := none }) (v := ?_) rfl (by kernel_rfl) (by kernel_rfl) (by kernel_rfl) (by kernel_rfl) rfl rfl (by kernel_rfl) (by kernel_rfl) (fun _ _ _ h => h) (Or.inl ⟨by rfl, ?_⟩) (by exact ⟨j0, j3⟩) ?_
    rotate_left
    · intro w hSw; (try dsimp only at hSw); go_simp; try (with_reducible rfl)
    repeat (first | simp only [Act.put] | simp only [List.setIfInBounds_toArray] | simp only [List.set_cons_zero] | simp only [List.set_cons_succ])
    refine wpAnyE_take [19, 18] (i := 18) (oi := { dst := some 22, op := Op.fieldAddr 64 (Operand.tmp 21) 1, type := 0, pos := "reader.go:64", after := #[{ on := 17, ground := Ground.data }, { on := 0, ground := Ground.phase }, { on := 1, ground := Ground.phase }, { on := 2, ground := Ground.phase }, { on := 3, ground := Ground.phase }, { on := 4, ground := Ground.phase }, { on := 5, ground := Ground.phase }, { on := 6, ground := Ground.phase }, { on := 7, ground := Ground.phase }, { on := 8, ground := Ground.phase }, { on := 9, ground := Ground.phase }, { on := 10, ground := Ground.phase }, { on := 11, ground := Ground.phase }, { on := 12, ground := Ground.phase }, { on := 13, ground := Ground.phase }, { on := 14, ground := Ground.phase }, { on := 15, ground := Ground.phase }, { on := 16, ground := Ground.phase }], guard := none }) (v := ?_) rfl (by kernel_rfl) (by kernel_rfl) (by kernel_rfl) (by kernel_rfl) rfl rfl (by kernel_rfl) (by kernel_rfl) (fun _ _ _ h => h) (Or.inl ⟨by rfl, ?_⟩) (by exact ⟨j0, j3⟩) ?_
    rotate_left
    · intro w hSw; (try dsimp only at hSw); go_simp; try (with_reducible rfl)
    repeat (first | simp only [Act.put] | simp only [List.setIfInBounds_toArray] | simp only [List.set_cons_zero] | simp only [List.set_cons_succ])
    refine wpAnyE_take [19] (i := 19) (oi := { dst := some 23, op := Op.fieldAddr 29 (Operand.tmp 22) 2, type := 0, pos := "reader.go:64", after := #[{ on := 18, ground := Ground.data }, { on := 0, ground := Ground.phase }, { on := 1, ground := Ground.phase }, { on := 2, ground := Ground.phase }, { on := 3, ground := Ground.phase }, { on := 4, ground := Ground.phase }, { on := 5, ground := Ground.phase }, { on := 6, ground := Ground.phase }, { on := 7, ground := Ground.phase }, { on := 8, ground := Ground.phase }, { on := 9, ground := Ground.phase }, { on := 10, ground := Ground.phase }, { on := 11, ground := Ground.phase }, { on := 12, ground := Ground.phase }, { on := 13, ground := Ground.phase }, { on := 14, ground := Ground.phase }, { on := 15, ground := Ground.phase }, { on := 16, ground := Ground.phase }], guard := none }) (v := ?_) rfl (by kernel_rfl) (by kernel_rfl) (by kernel_rfl) (by kernel_rfl) rfl rfl (by kernel_rfl) (by kernel_rfl) (fun _ _ _ h => h) (Or.inl ⟨by rfl, ?_⟩) (by exact ⟨j0, j3⟩) ?_
    rotate_left
    · intro w hSw; (try dsimp only at hSw); go_simp; try (with_reducible rfl)
    repeat (first | simp only [Act.put] | simp only [List.setIfInBounds_toArray] | simp only [List.set_cons_zero] | simp only [List.set_cons_succ])
    refine wpAnyE_one (i := 20) (o := { dst := none, op := Op.store 25 (Operand.tmp 23) (Operand.tmp 20), type := 0, pos := "reader.go:64", after := #[{ on := 19, ground := Ground.data }, { on := 16, ground := Ground.data }, { on := 16, ground := Ground.chain }, { on := 0, ground := Ground.phase }, { on := 1, ground := Ground.phase }, { on := 2, ground := Ground.phase }, { on := 3, ground := Ground.phase }, { on := 4, ground := Ground.phase }, { on := 5, ground := Ground.phase }, { on := 6, ground := Ground.phase }, { on := 7, ground := Ground.phase }, { on := 8, ground := Ground.phase }, { on := 9, ground := Ground.phase }, { on := 10, ground := Ground.phase }, { on := 11, ground := Ground.phase }, { on := 12, ground := Ground.phase }, { on := 13, ground := Ground.phase }, { on := 14, ground := Ground.phase }, { on := 15, ground := Ground.phase }, { on := 16, ground := Ground.phase }], guard := none }) (by kernel_rfl) rfl (fun K hK => ?_)
    go_simp
    refine hK.out _ _ (fun hL => absurd hL (by decide)) ?_
    clear hK K
    repeat (first | simp only [Act.put] | simp only [List.setIfInBounds_toArray] | simp only [List.set_cons_zero] | simp only [List.set_cons_succ])
    refine wpAnyE_done (by kernel_rfl) ?_ _
    go_wp2_with fail
    go_end0
    have hlen : (f.sp ++ [(IntKind.i64.wrap (to - n), to)]).length = f.sp.length + 1 := by simp
    have hK3 : Kl R B lo w w3 := Kl.of ((Kq.r (But.drewN 1)).trans (Kq.r hb3)) o3
    have hK4 : Kl R B lo w3 (w3.alloc (.cells #[.int .i64 (IntKind.i64.wrap (to - n)), .int .i64 to] 56)) := Kl.below ((below_alloc w3 _).mono hg3.ord.2.2)
    have hK5 : Kl R B lo w w5 := (hK3.trans hK4).trans (Kl.below hb5)
    have hK6 : Kl R B lo w5 (w5.setCell ⟨R, 3, none⟩ (.slice a5 (f.sp.length + 1) k5)) := Kl.of (Kq.l (But.set w5 R 3 _)) (Nat.le_trans hg4.ord.2.2 hb5.size)
    have hd5 : Ra lo w5 (.slice none 0 0) f.d := by rw [hfd]; exact ⟨Rd.nil _, fun _ _ _ h => by cases h⟩
    have hF5 := ((hF3.keep (below_alloc w3 _)).belowL hb5 (by omega))
    exact .inr ⟨n, t1, .slice a5 (f.sp.length + 1) k5, rfl, HV.out, Gq.sets hg5c hd5 HG.out.pl ⟨o1, o2, Nat.le_trans hg4.ord.2.2 hb5.size⟩ (by rw [hlen]; exact hown5), fq_set hF5 (by omega) (by omega), hK5.trans hK6⟩
#print axioms span_any
end Go.Proofs.YtgcgmgcgbnepeaaDoor
