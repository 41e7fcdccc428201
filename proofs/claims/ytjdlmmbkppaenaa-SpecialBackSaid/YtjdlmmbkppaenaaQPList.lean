/- special: what the program's ReadList tells. -/
import Derived.Test.YtjdlmmbkppaenaaQDList
import Derived.Test.YtjdlmmbkppaenaaQRList
import Derived.Test.YtjdlmmbkppaenaaQPRetry
namespace Go.Proofs.Ytjdlmmbkppaenaa
open Go Go.RowKit

theorem plist_results (tmps : Array Value) (w : World) (M : Nat) (c0 c1 c2 x : Value) (h2 : tmps[2]?.getD undef = .pointer (some ⟨M, 0, none⟩)) (h3 : tmps[3]?.getD undef = x)
    (hL : w.heap[M]? = some (.cells #[c0, c1, c2] 30 (0, 0))) :
    (results Try.f16 tmps).run Try.prog w = .ok (.tuple #[.agg #[c0, c1, c2], x]) w := by
  obtain ⟨a0, a1, a2, _⟩ := cellsL3 hL
  simp [results, Try.results16, go_sem, h2, h3, a0, a1, a2]
/-- What ReadList ends with. -/
def PLRet (b : Bool) (to fr vs : List Int) (w : World) (r : Ending) (w' : World) : Prop :=
  ∃ vt vf vi, r = .returned (.tuple #[.agg #[vt, vf, vi], .int .i64 (if b then 0 else 3)]) ∧ (Rd w' vt (if b then to else []) ∧ Rd w' vf (if b then fr else []) ∧ Ri w' vi (if b then vs else [])) ∧ Below w.heap.size w w'
/-- What holds in the program's loop: the cut, the list's box (in block G), and all that was there ahead of it (w2), but for the cut's place. -/
structure Pl (W w2 : World) (v : Value) (B A : Nat) (vt vf : Value) (vs : List Int) (t : Nat) (wr : World) : Prop where
  q : Cq W wr v B A t
  old : ∀ k, k < w2.heap.size → k ≠ A → wr.heap[k]? = w2.heap[k]?
  gx : ∃ vi, wr.heap[w2.heap.size]? = some (.cells #[vt, vf, vi] 30 (0, 0)) ∧ wr.ownsRow (w2.heap.size + 1) 3 1 vi vs.length (vs.map (Value.int .i64))
theorem Pl.drewN {W w2 wr : World} {v : Value} {B A t : Nat} {vt vf : Value} {vs : List Int} (h : Pl W w2 v B A vt vf vs t wr) (k : Nat) : Pl W w2 v B A vt vf vs t (wr.drewN k) := by
  obtain ⟨vi, h1, h2⟩ := h.gx
  have hb : Below wr.heap.size wr (wr.drewN k) := ⟨rfl, rfl, rfl, Nat.le_refl _, fun _ _ => rfl⟩
  exact ⟨h.q.keep hb, h.old, ⟨vi, h1, h2⟩⟩
theorem Pl.but {W w2 wr : World} {v : Value} {B A t s : Nat} {vt vf : Value} {vs : List Int} (h : Pl W w2 v B A vt vf vs t wr) (h2 : Cq W w2 v B A s) : But A w2 wr := by
  obtain ⟨vi, h1, _⟩ := h.gx
  exact ⟨h.q.bel.os.trans h2.bel.os.symm, h.q.bel.tape.trans h2.bel.tape.symm, h.q.bel.output.trans h2.bel.output.symm, Nat.le_of_lt (blk_lt' h1), h.old⟩
/-- One version more. -/
theorem Pl.more {W w2 wr w4 w5 : World} {v : Value} {B A t s u : Nat} {vt vf vi vi2 : Value} {vs : List Int} {y : Int} {o : Obj} (h : Pl W w2 v B A vt vf vs t wr) (h2 : Cq W w2 v B A u) (h1 : wr.heap[w2.heap.size]? = some (.cells #[vt, vf, vi] 30 (0, 0))) (hv : ∀ g, vi.ownBlock = some g → w2.heap.size + 1 ≤ g)
    (hq : Cq W w4 v B A s) (hb : But A wr w4)
    (hown : w5.ownsRow (w2.heap.size + 1) 3 1 vi2 (vs.length + 1) ((vs ++ [y]).map (Value.int .i64))) (hg : (w4.alloc o).grownBy w5 vi.ownBlock) : Pl W w2 v B A vt vf (vs ++ [y]) s (w5.setCell ⟨w2.heap.size, 2, none⟩ vi2) := by
  have hGl := blk_lt' h1
  have hs4 := hb.size
  have hBl : Below (w2.heap.size + 1) (w4.alloc o) w5 := ⟨hg.os, hg.tape, hg.output, hg.size, fun k hk => hg.block k (by simp; omega) (fun e => by have := hv k e.symm; omega)⟩
  have hB4 : Below (w2.heap.size + 1) w4 w5 := ((below_alloc w4 o).mono (by omega)).trans hBl
  obtain ⟨_, _, _, hAl, hBB⟩ := h2.cells
  have hW2 := h2.bel.size
  have hG2 : w5.heap[w2.heap.size]? = some (.cells #[vt, vf, vi] 30 (0, 0)) := by
    rw [hB4.block _ (by omega), hb.block _ hGl (by omega)]; exact h1
  have e2 := heap_setCell_same w5 w2.heap.size 2 _ 30 vi2 hG2
  simp only [List.setIfInBounds_toArray, List.set_cons_zero, List.set_cons_succ] at e2
  have hne : ∀ k, k < w2.heap.size → (w5.setCell ⟨w2.heap.size, 2, none⟩ vi2).heap[k]? = w4.heap[k]? := fun k hk => by
    rw [Below.heap_setCell _ _ _ _ (show k ≠ w2.heap.size by omega), hB4.block k (by omega)]
  refine ⟨⟨?_, hq.loB, hq.loA, hq.ne, (hne B hBB).trans hq.bx, (hne A hAl).trans hq.ax⟩, fun k hk hn => (hne k hk).trans ((hb.block k (by omega) hn).trans (h.old k hk hn)), ⟨vi2, e2, ?_⟩⟩
  · exact (hq.bel.trans (hB4.mono (by omega))).setCell (p := ⟨w2.heap.size, 2, none⟩) hW2 _
  · have := own_keepQ (w' := w5.setCell ⟨w2.heap.size, 2, none⟩ vi2) hown fun g hgg => Below.heap_setCell _ _ _ _ (by have := (hown.lt g hgg).1; show g ≠ w2.heap.size; omega)
    simpa using this
theorem pl_cut {zs : List Int} {e k : Nat} (hk : k ≤ cuts zs e) : (¬ (zs.length : Int) - ((e + 4 * k : Nat) : Int) > 0 → k = cuts zs e) ∧ (k = 16 → k = cuts zs e) ∧ ((zs.length : Int) - ((e + 4 * k : Nat) : Int) > 0 → k ≠ 16 → k < cuts zs e) ∧ k ≤ 16 := by
  unfold cuts at *
  refine ⟨fun h => by omega, fun h => by omega, fun h h2 => by omega, by omega⟩
theorem cell_old (w : World) (o : Obj) {b i : Nat} (h : b < w.heap.size) : (w.alloc o).cell? ⟨b, i, none⟩ = w.cell? ⟨b, i, none⟩ := by simp [go_sem, h]
set_option maxRecDepth 20000 in
set_option maxHeartbeats 4000000 in
theorem preadlist_any {w : World} {v : Value} {zs : List Int} (hr : Rd w v zs) (hp : Plain v) (hl : zs.length ≤ 40000) (x y z : Int) (hx : cutZ zs 0 1 = [x]) (hy : cutZ zs 5 1 = [y]) (hz : cutZ zs (6 + y.toNat) 1 = [z]) (e : Nat) (he : 7 + y.toNat + z.toNat = e) :
    Calls Try.prog 16 #[v] w fun r w' => PLRet (plB zs e x (say4 (cutZ zs 1 4)) (cutZ zs 6 y.toNat) (cutZ zs (7 + y.toNat) z.toNat)) (cutZ zs 6 y.toNat) (cutZ zs (7 + y.toNat) z.toNat) (versAt zs e (cuts zs e)) w r w' := by
  have hyb : 0 ≤ y ∧ y ≤ 255 := by have := cutZ_byt hr.byt 5 1; rw [hy] at this; exact this y (by simp)
  have hzb : 0 ≤ z ∧ z ≤ 255 := by have := cutZ_byt hr.byt (6 + y.toNat) 1; rw [hz] at this; exact this z (by simp)
  have he9 : e ≤ 600 := by omega
  have HE := Lib.hid he
  have HX := Lib.hid (And.intro hx (And.intro hy hz))
  obtain ⟨W, hW⟩ : ∃ W, w.alloc (.cells #[.slice none 0 0, .slice none 0 0, .slice none 0 0] 30) = W := ⟨_, rfl⟩
  have hbW : Below w.heap.size w W := by rw [← hW]; exact below_alloc w _
  have hM : W.heap[w.heap.size]? = some (.cells #[.slice none 0 0, .slice none 0 0, .slice none 0 0] 30 (0, 0)) := by rw [← hW]; exact heap_alloc_new w _
  have hML : w.heap.size < W.heap.size := blk_lt' hM
  have HW := Lib.hid hbW
  have hrW := hr.below hbW
  have HRP := Lib.hid (And.intro hrW hp)
  have c1 := cutting_any hrW
  clear hr hrW hbW hp hx hy hz he
  go_enter Try.func16, Try.ntmps16
  go_wp2_with fail
  clear hW
  refine c1.mono ?_
  rintro e1 w1 ⟨B, A, rfl, q1⟩
  have c2 := begun_any HRP.out.1 HRP.out.2 (by omega) q1 x y z HX.out.1 HX.out.2.1 HX.out.2.2
  have hw1 := q1.bel.size
  have hMA : w.heap.size ≠ A := by have := q1.loA; omega
  have hA1 : A < w1.heap.size := q1.cells.2.2.2.1
  have hM1 := (q1.bel.block _ hML).trans hM
  have hM1L : w.heap.size < w1.heap.size := by omega
  clear c1 q1 hM
  go_wp2_with fail
  refine c2.mono ?_
  rintro e2 w2 ⟨vt, vf, rfl, ⟨rt, _⟩, ⟨rf', _⟩, q2, b2⟩
  rw [HE.out] at q2
  have hM2 := (b2.block _ hM1L hMA).trans hM1
  have hs2 := b2.size
  clear b2 hM1
  clear c2
  generalize hTO : cutZ zs 6 y.toNat = TO at *
  generalize hFR : cutZ zs (7 + y.toNat) z.toNat = FR at *
  generalize hVER : say4 (cutZ zs 1 4) = VER at *
  obtain ⟨a2, d2, rfl⟩ := rt.rd.shape
  obtain ⟨a3, d3, rfl⟩ := rf'.rd.shape
  have hP0 : Pl W w2 v B A (.slice a2 TO.length d2) (.slice a3 FR.length d3) (versAt zs e 0) (e + 4 * 0) (w2.alloc (.cells #[.slice a2 TO.length d2, .slice a3 FR.length d3, .slice none 0 0] 30)) :=
    ⟨q2.keep (below_alloc _ _), fun k hk _ => (below_alloc w2 _).block k hk, ⟨.slice none 0 0, heap_alloc_new _ _, World.ownsRow_nil _ _ _ _⟩⟩
  have HP0 := Lib.hid hP0
  have HQ2 := Lib.hid q2
  have HM2 := Lib.hid hM2
  have HRT := Lib.hid (And.intro rt rf')
  have HTF := Lib.hid (And.intro hTO (And.intro hFR hVER))
  have hM2L := blk_lt' hM2
  have hA2 : A < w2.heap.size := q2.cells.2.2.2.1
  clear hP0 q2 hM2 rt rf' hTO hFR hVER
  go_wp2_with fail
  go_loopw [26] (fun _ wr => ∃ k, k ≤ cuts zs e ∧ Pl W w2 v B A (.slice a2 TO.length d2) (.slice a3 FR.length d3) (versAt zs e k) (e + 4 * k) wr) (fun _ wr => zs.length + 1000 - (intOf ((wr.cell? ⟨A, 0, none⟩).getD undef)).toNat)
  case atStart => exact ⟨0, by omega, HP0.out⟩
  case round =>
    obtain ⟨k, hk, hP⟩ := hrel
    obtain ⟨vi, hg1, hown⟩ := hP.gx
    obtain ⟨ai, ni, ci, rfl⟩ := slice_of_own hown
    have hni := (rai_of_own hown).1.rd
    obtain ⟨g0, g1, g2, gf⟩ := cellsL3 hg1
    have hpc := pl_cut hk
    have c3 := left_any HRP.out.1 (by omega) hP.q (by omega)
    have hnk : ni = k := by obtain ⟨_, _, e1, _⟩ := hni; simp only [Value.slice.injEq] at e1; rw [e1.2.1, versAt_len]
    subst hnk
    have HG1 := Lib.hid hg1
    have HOWN := Lib.hid hown
    have HP := Lib.hid hP
    have HNI := Lib.hid hni
    have HPC := Lib.hid hpc
    have hk16 := hpc.2.2.2
    have HK := Lib.hid hk
    obtain ⟨D, hD⟩ : ∃ D, (zs.length : Int) - ((e + 4 * ni : Nat) : Int) = D := ⟨_, rfl⟩
    rw [hD] at c3 hpc
    have HDD := Lib.hid hD
    clear hP hg1 hown hni hk
    by_cases hC : 0 < D ∧ ni ≠ 16
    · obtain ⟨hD0, hn16⟩ := hC
      have hlt := hpc.2.2.1 hD0 hn16
      have hn15 : (ni : Int) < 16 := by omega
      have HLT := Lib.hid hlt
      have hPd := HP.out.drewN 1
      have c4 := numb_any HRP.out.1 HRP.out.2 (by omega) hPd.q (by omega)
      clear hpc hlt hn16 hD hPd
      go_wp2_with fail
      refine c3.mono ?_
      rintro e3 w3 ⟨rfl, rfl⟩
      clear c3
      go_wp2_with fail
      refine wp_region_noPanic ?_
      refine wp_region_held_drew (S := fun _ => True) (by kernel_rfl) trivial (fun _ => ?_)
      refine wpAnyH_take (i := 0) (oi := { dst := some 35, op := Op.fieldAddr 30 (Operand.tmp 10) 2, type := 0, pos := "special.go:53", after := #[], guard := none }) (v := ?_) rfl (by kernel_rfl) (by kernel_rfl) (by kernel_rfl) (fun _ _ _ h => h) (Or.inl ⟨by rfl, ?_⟩) trivial ?_
      rotate_left
      · intro w _; go_simp; try (with_reducible rfl)
      repeat (first | simp only [Act.put] | simp only [List.setIfInBounds_toArray] | simp only [List.set_cons_zero] | simp only [List.set_cons_succ])
      refine wpAnyH_take (i := 2) (oi := { dst := some 37, op := Op.move (Operand.tmp 4), type := 68, pos := "special.go:53", after := #[], guard := none }) (v := ?_) rfl (by kernel_rfl) (by kernel_rfl) (by kernel_rfl) (fun _ _ _ h => h) (Or.inl ⟨by rfl, ?_⟩) trivial ?_
      rotate_left
      · intro w _; go_simp; try (with_reducible rfl)
      repeat (first | simp only [Act.put] | simp only [List.setIfInBounds_toArray] | simp only [List.set_cons_zero] | simp only [List.set_cons_succ])
      refine wpAnyH_ready (rs := [1, 3]) (by kernel_rfl) (by simp) ?_
      refine AllReadyH.cons (o := { dst := some 36, op := Op.load 23 (Operand.tmp 35), type := 23, pos := "special.go:53", after := #[{ on := 0, ground := Ground.data }], guard := none }) rfl (fun K hK => ?_) (AllReadyH.cons (o := { dst := some 38, op := Op.call { callee := Callee.value (Operand.func 37), args := #[Operand.tmp 37], argTypes := #[68] }, type := 3, pos := "special.go:53", after := #[{ on := 2, ground := Ground.data }], guard := none }) rfl (fun K hK => ?_) AllReadyH.nil)
      · go_simp
        refine hK.out _ _ trivial (fun _ => ?_)
        clear hK K
        repeat (first | simp only [Act.put] | simp only [List.setIfInBounds_toArray] | simp only [List.set_cons_zero] | simp only [List.set_cons_succ])
        refine wpAnyH_ready (rs := [3]) (by kernel_rfl) (by simp) ?_
        refine AllReadyH.cons (o := { dst := some 38, op := Op.call { callee := Callee.value (Operand.func 37), args := #[Operand.tmp 37], argTypes := #[68] }, type := 3, pos := "special.go:53", after := #[{ on := 2, ground := Ground.data }], guard := none }) rfl (fun K hK => ?_) AllReadyH.nil
        go_simp
        refine c4.mono ?_
        rintro e4 w4 ⟨rfl, q4, b4⟩
        have HQ4 := Lib.hid q4
        have HB4 := Lib.hid b4
        have hG4 := Lib.hid ((b4.block _ (blk_lt' HG1.out) (by omega)).trans HG1.out)
        have hz4 := blk_lt' hG4.out
        obtain ⟨_, _, g24, _⟩ := cellsL3 hG4.out
        have hO4 := Lib.hid (own_keepQ (w' := w4) HOWN.out fun g hg => b4.block g (HOWN.out.lt g hg).2 (by have := (HOWN.out.lt g hg).1; omega))
        clear q4 b4
        refine hK.out _ _ trivial (fun _ => ?_)
        clear hK K
        repeat (first | simp only [Act.put] | simp only [List.setIfInBounds_toArray] | simp only [List.set_cons_zero] | simp only [List.set_cons_succ])
        refine wpAnyH_ready (rs := [4]) (by kernel_rfl) (by simp) ?_
        refine AllReadyH.cons (o := { dst := some 39, op := Op.buildSlice 23 1 #[(0, Operand.tmp 38)], type := 23, pos := "special.go:53", after := #[{ on := 3, ground := Ground.data }], guard := none }) rfl (fun K hK => ?_) AllReadyH.nil
        go_simp
        have g25 := (cell_old w4 (.cells #[.int .i64 (say4 (cutZ zs (e + 4 * ni) 4))] 3) hz4).trans g24
        refine hK.out _ _ trivial (fun _ => ?_)
        clear hK K
        repeat (first | simp only [Act.put] | simp only [List.setIfInBounds_toArray] | simp only [List.set_cons_zero] | simp only [List.set_cons_succ])
        refine wpAnyH_ready (rs := [5]) (by kernel_rfl) (by simp) ?_
        refine AllReadyH.cons (o := { dst := some 40, op := Op.call { callee := Callee.builtin Builtin.append, args := #[Operand.tmp 36, Operand.tmp 39], argTypes := #[23, 23] }, type := 23, pos := "special.go:53", after := #[{ on := 1, ground := Ground.data }, { on := 4, ground := Ground.data }, { on := 3, ground := Ground.chain }], guard := none }) rfl (fun K hK => ?_) AllReadyH.nil
        refine step_append_one rfl (.tmp 36) (.tmp 39) rfl (w2.heap.size + 1) _ _ (versAt zs e ni) rfl (World.ownsRow.alloc hO4.out _) w4.heap.size _ rfl (cell_new1 w4 _) (by rw [versAt_len]; omega) (alloc_le w4 _ hz4) ?_
        intro v5 w5 hown5 hg5
        obtain ⟨a5, n5, c5, rfl⟩ := slice_of_own hown5
        have hm5 := Lib.hid (Pl.more HP.out HQ2.out HG1.out (fun g hg => (HOWN.out.lt g hg).1) HQ4.out (But.drewN2 HB4.out) hown5 hg5)
        have hG5 := Lib.hid ((hg5.block w2.heap.size (Nat.lt_of_succ_le (alloc_le w4 _ hz4)) (fun e => by have := (HOWN.out.lt _ e.symm).1; omega)).trans ((below_alloc w4 _).block _ hz4 |>.trans hG4.out))
        obtain ⟨g50, g51, g52, gf5⟩ := cellsL3 hG5.out
        refine hK.out _ _ trivial (fun _ => ?_)
        clear hK K
        repeat (first | simp only [Act.put] | simp only [List.setIfInBounds_toArray] | simp only [List.set_cons_zero] | simp only [List.set_cons_succ])
        refine wpAnyH_take (i := 6) (oi := { dst := some 41, op := Op.fieldAddr 30 (Operand.tmp 10) 2, type := 0, pos := "special.go:53", after := #[{ on := 0, ground := Ground.phase }, { on := 1, ground := Ground.phase }, { on := 2, ground := Ground.phase }, { on := 3, ground := Ground.phase }, { on := 4, ground := Ground.phase }, { on := 5, ground := Ground.phase }], guard := none }) (v := ?_) rfl (by kernel_rfl) (by kernel_rfl) (by kernel_rfl) (fun _ _ _ h => h) (Or.inl ⟨by rfl, ?_⟩) trivial ?_
        rotate_left
        · intro w _; go_simp; try (with_reducible rfl)
        repeat (first | simp only [Act.put] | simp only [List.setIfInBounds_toArray] | simp only [List.set_cons_zero] | simp only [List.set_cons_succ])
        refine wpAnyH_ready (rs := [7]) (by kernel_rfl) (by simp) ?_
        refine AllReadyH.cons (o := { dst := none, op := Op.store 23 (Operand.tmp 41) (Operand.tmp 40), type := 0, pos := "special.go:53", after := #[{ on := 6, ground := Ground.data }, { on := 5, ground := Ground.data }, { on := 5, ground := Ground.chain }, { on := 0, ground := Ground.phase }, { on := 1, ground := Ground.phase }, { on := 2, ground := Ground.phase }, { on := 3, ground := Ground.phase }, { on := 4, ground := Ground.phase }, { on := 5, ground := Ground.phase }], guard := none }) rfl (fun K hK => ?_) AllReadyH.nil
        go_simp
        refine hK.out _ _ trivial (fun _ => ?_)
        clear hK K
        repeat (first | simp only [Act.put] | simp only [List.setIfInBounds_toArray] | simp only [List.set_cons_zero] | simp only [List.set_cons_succ])
        refine wpAnyH_done (by kernel_rfl) ?_ _
        refine NoPanic.normal ?_
        have hm6 := hm5
        clear c4 g0 g1 g2 gf g24 g25 g50 g51 g52 gf5
        go_wp2_with fail
        go_roundw
        case rel => exact ⟨ni + 1, by have := HLT.out; omega, by have h5 := hm5.out; rw [versAt_succ, show e + 4 * (ni + 1) = e + 4 * ni + 4 by omega]; exact h5⟩
        case measure =>
          rw [hm5.out.q.cells.2.1, HP.out.q.cells.2.1]
          have := HDD.out
          simp [intOf]; omega
      · go_simp
        refine c4.mono ?_
        rintro e4 w4 ⟨rfl, q4, b4⟩
        have HQ4 := Lib.hid q4
        have HB4 := Lib.hid b4
        have hG4 := Lib.hid ((b4.block _ (blk_lt' HG1.out) (by omega)).trans HG1.out)
        have hz4 := blk_lt' hG4.out
        obtain ⟨_, _, g24, _⟩ := cellsL3 hG4.out
        have hO4 := Lib.hid (own_keepQ (w' := w4) HOWN.out fun g hg => b4.block g (HOWN.out.lt g hg).2 (by have := (HOWN.out.lt g hg).1; omega))
        clear q4 b4
        refine hK.out _ _ trivial (fun _ => ?_)
        clear hK K
        repeat (first | simp only [Act.put] | simp only [List.setIfInBounds_toArray] | simp only [List.set_cons_zero] | simp only [List.set_cons_succ])
        refine wpAnyH_ready (rs := [1, 4]) (by kernel_rfl) (by simp) ?_
        refine AllReadyH.cons (o := { dst := some 36, op := Op.load 23 (Operand.tmp 35), type := 23, pos := "special.go:53", after := #[{ on := 0, ground := Ground.data }], guard := none }) rfl (fun K hK => ?_) (AllReadyH.cons (o := { dst := some 39, op := Op.buildSlice 23 1 #[(0, Operand.tmp 38)], type := 23, pos := "special.go:53", after := #[{ on := 3, ground := Ground.data }], guard := none }) rfl (fun K hK => ?_) AllReadyH.nil)
        · go_simp
          refine hK.out _ _ trivial (fun _ => ?_)
          clear hK K
          repeat (first | simp only [Act.put] | simp only [List.setIfInBounds_toArray] | simp only [List.set_cons_zero] | simp only [List.set_cons_succ])
          refine wpAnyH_ready (rs := [4]) (by kernel_rfl) (by simp) ?_
          refine AllReadyH.cons (o := { dst := some 39, op := Op.buildSlice 23 1 #[(0, Operand.tmp 38)], type := 23, pos := "special.go:53", after := #[{ on := 3, ground := Ground.data }], guard := none }) rfl (fun K hK => ?_) AllReadyH.nil
          go_simp
          have g25 := (cell_old w4 (.cells #[.int .i64 (say4 (cutZ zs (e + 4 * ni) 4))] 3) hz4).trans g24
          refine hK.out _ _ trivial (fun _ => ?_)
          clear hK K
          repeat (first | simp only [Act.put] | simp only [List.setIfInBounds_toArray] | simp only [List.set_cons_zero] | simp only [List.set_cons_succ])
          refine wpAnyH_ready (rs := [5]) (by kernel_rfl) (by simp) ?_
          refine AllReadyH.cons (o := { dst := some 40, op := Op.call { callee := Callee.builtin Builtin.append, args := #[Operand.tmp 36, Operand.tmp 39], argTypes := #[23, 23] }, type := 23, pos := "special.go:53", after := #[{ on := 1, ground := Ground.data }, { on := 4, ground := Ground.data }, { on := 3, ground := Ground.chain }], guard := none }) rfl (fun K hK => ?_) AllReadyH.nil
          refine step_append_one rfl (.tmp 36) (.tmp 39) rfl (w2.heap.size + 1) _ _ (versAt zs e ni) rfl (World.ownsRow.alloc hO4.out _) w4.heap.size _ rfl (cell_new1 w4 _) (by rw [versAt_len]; omega) (alloc_le w4 _ hz4) ?_
          intro v5 w5 hown5 hg5
          obtain ⟨a5, n5, c5, rfl⟩ := slice_of_own hown5
          have hm5 := Lib.hid (Pl.more HP.out HQ2.out HG1.out (fun g hg => (HOWN.out.lt g hg).1) HQ4.out (But.drewN2 HB4.out) hown5 hg5)
          have hG5 := Lib.hid ((hg5.block w2.heap.size (Nat.lt_of_succ_le (alloc_le w4 _ hz4)) (fun e => by have := (HOWN.out.lt _ e.symm).1; omega)).trans ((below_alloc w4 _).block _ hz4 |>.trans hG4.out))
          obtain ⟨g50, g51, g52, gf5⟩ := cellsL3 hG5.out
          refine hK.out _ _ trivial (fun _ => ?_)
          clear hK K
          repeat (first | simp only [Act.put] | simp only [List.setIfInBounds_toArray] | simp only [List.set_cons_zero] | simp only [List.set_cons_succ])
          refine wpAnyH_take (i := 6) (oi := { dst := some 41, op := Op.fieldAddr 30 (Operand.tmp 10) 2, type := 0, pos := "special.go:53", after := #[{ on := 0, ground := Ground.phase }, { on := 1, ground := Ground.phase }, { on := 2, ground := Ground.phase }, { on := 3, ground := Ground.phase }, { on := 4, ground := Ground.phase }, { on := 5, ground := Ground.phase }], guard := none }) (v := ?_) rfl (by kernel_rfl) (by kernel_rfl) (by kernel_rfl) (fun _ _ _ h => h) (Or.inl ⟨by rfl, ?_⟩) trivial ?_
          rotate_left
          · intro w _; go_simp; try (with_reducible rfl)
          repeat (first | simp only [Act.put] | simp only [List.setIfInBounds_toArray] | simp only [List.set_cons_zero] | simp only [List.set_cons_succ])
          refine wpAnyH_ready (rs := [7]) (by kernel_rfl) (by simp) ?_
          refine AllReadyH.cons (o := { dst := none, op := Op.store 23 (Operand.tmp 41) (Operand.tmp 40), type := 0, pos := "special.go:53", after := #[{ on := 6, ground := Ground.data }, { on := 5, ground := Ground.data }, { on := 5, ground := Ground.chain }, { on := 0, ground := Ground.phase }, { on := 1, ground := Ground.phase }, { on := 2, ground := Ground.phase }, { on := 3, ground := Ground.phase }, { on := 4, ground := Ground.phase }, { on := 5, ground := Ground.phase }], guard := none }) rfl (fun K hK => ?_) AllReadyH.nil
          go_simp
          refine hK.out _ _ trivial (fun _ => ?_)
          clear hK K
          repeat (first | simp only [Act.put] | simp only [List.setIfInBounds_toArray] | simp only [List.set_cons_zero] | simp only [List.set_cons_succ])
          refine wpAnyH_done (by kernel_rfl) ?_ _
          refine NoPanic.normal ?_
          have hm6 := hm5
          clear c4 g0 g1 g2 gf g24 g25 g50 g51 g52 gf5
          go_wp2_with fail
          go_roundw
          case rel => exact ⟨ni + 1, by have := HLT.out; omega, by have h5 := hm5.out; rw [versAt_succ, show e + 4 * (ni + 1) = e + 4 * ni + 4 by omega]; exact h5⟩
          case measure =>
            rw [hm5.out.q.cells.2.1, HP.out.q.cells.2.1]
            have := HDD.out
            simp [intOf]; omega
        · go_simp
          have g25 := (cell_old w4 (.cells #[.int .i64 (say4 (cutZ zs (e + 4 * ni) 4))] 3) hz4).trans g24
          refine hK.out _ _ trivial (fun _ => ?_)
          clear hK K
          repeat (first | simp only [Act.put] | simp only [List.setIfInBounds_toArray] | simp only [List.set_cons_zero] | simp only [List.set_cons_succ])
          refine wpAnyH_ready (rs := [1]) (by kernel_rfl) (by simp) ?_
          refine AllReadyH.cons (o := { dst := some 36, op := Op.load 23 (Operand.tmp 35), type := 23, pos := "special.go:53", after := #[{ on := 0, ground := Ground.data }], guard := none }) rfl (fun K hK => ?_) AllReadyH.nil
          go_simp
          refine hK.out _ _ trivial (fun _ => ?_)
          clear hK K
          repeat (first | simp only [Act.put] | simp only [List.setIfInBounds_toArray] | simp only [List.set_cons_zero] | simp only [List.set_cons_succ])
          refine wpAnyH_ready (rs := [5]) (by kernel_rfl) (by simp) ?_
          refine AllReadyH.cons (o := { dst := some 40, op := Op.call { callee := Callee.builtin Builtin.append, args := #[Operand.tmp 36, Operand.tmp 39], argTypes := #[23, 23] }, type := 23, pos := "special.go:53", after := #[{ on := 1, ground := Ground.data }, { on := 4, ground := Ground.data }, { on := 3, ground := Ground.chain }], guard := none }) rfl (fun K hK => ?_) AllReadyH.nil
          refine step_append_one rfl (.tmp 36) (.tmp 39) rfl (w2.heap.size + 1) _ _ (versAt zs e ni) rfl (World.ownsRow.alloc hO4.out _) w4.heap.size _ rfl (cell_new1 w4 _) (by rw [versAt_len]; omega) (alloc_le w4 _ hz4) ?_
          intro v5 w5 hown5 hg5
          obtain ⟨a5, n5, c5, rfl⟩ := slice_of_own hown5
          have hm5 := Lib.hid (Pl.more HP.out HQ2.out HG1.out (fun g hg => (HOWN.out.lt g hg).1) HQ4.out (But.drewN2 HB4.out) hown5 hg5)
          have hG5 := Lib.hid ((hg5.block w2.heap.size (Nat.lt_of_succ_le (alloc_le w4 _ hz4)) (fun e => by have := (HOWN.out.lt _ e.symm).1; omega)).trans ((below_alloc w4 _).block _ hz4 |>.trans hG4.out))
          obtain ⟨g50, g51, g52, gf5⟩ := cellsL3 hG5.out
          refine hK.out _ _ trivial (fun _ => ?_)
          clear hK K
          repeat (first | simp only [Act.put] | simp only [List.setIfInBounds_toArray] | simp only [List.set_cons_zero] | simp only [List.set_cons_succ])
          refine wpAnyH_take (i := 6) (oi := { dst := some 41, op := Op.fieldAddr 30 (Operand.tmp 10) 2, type := 0, pos := "special.go:53", after := #[{ on := 0, ground := Ground.phase }, { on := 1, ground := Ground.phase }, { on := 2, ground := Ground.phase }, { on := 3, ground := Ground.phase }, { on := 4, ground := Ground.phase }, { on := 5, ground := Ground.phase }], guard := none }) (v := ?_) rfl (by kernel_rfl) (by kernel_rfl) (by kernel_rfl) (fun _ _ _ h => h) (Or.inl ⟨by rfl, ?_⟩) trivial ?_
          rotate_left
          · intro w _; go_simp; try (with_reducible rfl)
          repeat (first | simp only [Act.put] | simp only [List.setIfInBounds_toArray] | simp only [List.set_cons_zero] | simp only [List.set_cons_succ])
          refine wpAnyH_ready (rs := [7]) (by kernel_rfl) (by simp) ?_
          refine AllReadyH.cons (o := { dst := none, op := Op.store 23 (Operand.tmp 41) (Operand.tmp 40), type := 0, pos := "special.go:53", after := #[{ on := 6, ground := Ground.data }, { on := 5, ground := Ground.data }, { on := 5, ground := Ground.chain }, { on := 0, ground := Ground.phase }, { on := 1, ground := Ground.phase }, { on := 2, ground := Ground.phase }, { on := 3, ground := Ground.phase }, { on := 4, ground := Ground.phase }, { on := 5, ground := Ground.phase }], guard := none }) rfl (fun K hK => ?_) AllReadyH.nil
          go_simp
          refine hK.out _ _ trivial (fun _ => ?_)
          clear hK K
          repeat (first | simp only [Act.put] | simp only [List.setIfInBounds_toArray] | simp only [List.set_cons_zero] | simp only [List.set_cons_succ])
          refine wpAnyH_done (by kernel_rfl) ?_ _
          refine NoPanic.normal ?_
          have hm6 := hm5
          clear c4 g0 g1 g2 gf g24 g25 g50 g51 g52 gf5
          go_wp2_with fail
          go_roundw
          case rel => exact ⟨ni + 1, by have := HLT.out; omega, by have h5 := hm5.out; rw [versAt_succ, show e + 4 * (ni + 1) = e + 4 * ni + 4 by omega]; exact h5⟩
          case measure =>
            rw [hm5.out.q.cells.2.1, HP.out.q.cells.2.1]
            have := HDD.out
            simp [intOf]; omega
    · have hEq : ni = cuts zs e := by
        by_cases h : D > 0
        · exact hpc.2.1 (by omega)
        · exact hpc.1 h
      have hMr := (HP.out.old _ hM2L hMA).trans HM2.out
      obtain ⟨m0, m1, m2, mf⟩ := cellsL3 hMr
      have HMR := Lib.hid hMr
      have HBW := Lib.hid (HW.out.trans (HP.out.q.bel.mono HW.out.size))
      have c8 := rightlist_any (w := wr) (a2 := a2) (a3 := a3) (ai := ai) (c2 := d2) (c3 := d3) (ci := ci) (to := TO) (fr := FR) (vs := versAt zs e ni) (by rw [versAt_len]; exact HNI.out) (by rw [versAt_len]; omega)
      rw [versAt_len] at c8
      have HPB := Lib.hid (show plB zs e x VER TO FR = (decide (D = 0) && (x == 128) && (VER == 0) && listB TO FR (versAt zs e ni)) by
        unfold plB
        rw [← hEq]
        have : decide (zs.length = e + 4 * ni) = decide (D = 0) := by
          congr 1
          apply propext
          have := HDD.out
          omega
        rw [this])
      have HEQ := Lib.hid hEq
      have HRT3 := Lib.hid (And.intro (HRT.out.1.but (HP.out.but HQ2.out) hA1) (HRT.out.2.but (HP.out.but HQ2.out) hA1))
      have HVI := Lib.hid (rai_of_own HOWN.out).1
      generalize hLB : listB TO FR (versAt zs e ni) = lb at *
      have HLB := Lib.hid hLB
      clear hMr hEq hLB
      by_cases hDp : 0 < D
      · have hd1 : decide (0 < D) = true := decide_eq_true hDp
        have hd2 : decide ((ni : Int) < 16) = false := decide_eq_false (by omega)
        clear hpc hC hD hDp
        by_cases hZ : D = 0
        · by_cases hX0 : x = 128
          · by_cases hV0 : VER = 0
            · have hz1 : (D != 0) = false := by rw [bne_eq_false_iff_eq]; exact hZ
              have hx1 : (x != 128) = false := by rw [bne_eq_false_iff_eq]; exact hX0
              have hv1 : (VER != 0) = false := by rw [bne_eq_false_iff_eq]; exact hV0
              have HP2 := Lib.hid (HPB.out.trans (show (decide (D = 0) && (x == 128) && (VER == 0) && lb) = lb by simp [hZ, hX0, hV0]))
              clear hZ hX0 hV0 HPB
              cases lb with
              | false =>
                have HPf := HP2
                go_wp2_with (first | (go_at_call 55; refine c3.mono ?_; rintro e3 w3 ⟨rfl, rfl⟩) | (go_at_call 26; refine c8.mono ?_; rintro e8 w8 ⟨rfl, b8⟩; have HB8 := Lib.hid b8; have HM8 := Lib.hid ((b8.block _ (blk_lt' HMR.out)).trans HMR.out); have HG8 := Lib.hid ((b8.block _ (blk_lt' HG1.out)).trans HG1.out); clear g0 g1 g2 gf m0 m1 m2 mf b8 c8; obtain ⟨g0, g1, g2, gf⟩ := cellsL3 HG8.out; obtain ⟨m0, m1, m2, mf⟩ := cellsL3 HM8.out))
                refine bodyPost_ret (plist_results _ _ w.heap.size _ _ _ _ rfl rfl (chain3_row HM8.out (.slice none 0 0) (.slice none 0 0) (.slice none 0 0))) rfl ?_
                obtain ⟨q1, q2, q3⟩ := HTF.out
                rw [q1, q2, q3, HPf.out]
                exact ⟨_, _, _, rfl, ⟨Rd.nil _, Rd.nil _, Ri.nil _⟩, chain3_below (HBW.out.trans (HB8.out.mono HBW.out.size)) (Nat.le_refl _) _ _ _⟩
              | true =>
                have HPf := HP2
                go_wp2_with (first | (go_at_call 55; refine c3.mono ?_; rintro e3 w3 ⟨rfl, rfl⟩) | (go_at_call 26; refine c8.mono ?_; rintro e8 w8 ⟨rfl, b8⟩; have HB8 := Lib.hid b8; have HM8 := Lib.hid ((b8.block _ (blk_lt' HMR.out)).trans HMR.out); have HG8 := Lib.hid ((b8.block _ (blk_lt' HG1.out)).trans HG1.out); clear g0 g1 g2 gf m0 m1 m2 mf b8 c8; obtain ⟨g0, g1, g2, gf⟩ := cellsL3 HG8.out; obtain ⟨m0, m1, m2, mf⟩ := cellsL3 HM8.out))
                refine bodyPost_ret (plist_results _ _ w.heap.size _ _ _ _ rfl rfl (chain3_row HM8.out (.slice a2 TO.length d2) (.slice a3 FR.length d3) (.slice ai ni ci))) rfl ?_
                obtain ⟨q1, q2, q3⟩ := HTF.out
                rw [q1, q2, q3, HPf.out, ← HEQ.out]
                exact ⟨_, _, _, rfl, ⟨(chain3_ra (HRT3.out.1.below HB8.out) hM1L _ _ _).rd, (chain3_ra (HRT3.out.2.below HB8.out) hM1L _ _ _).rd, (chain3_rai (HVI.out.below HB8.out) (by omega) _ _ _).rd⟩, chain3_below (HBW.out.trans (HB8.out.mono HBW.out.size)) (Nat.le_refl _) _ _ _⟩
            · have hz1 : (D != 0) = false := by rw [bne_eq_false_iff_eq]; exact hZ
              have hx1 : (x != 128) = false := by rw [bne_eq_false_iff_eq]; exact hX0
              have hv1 : (VER != 0) = true := by rw [bne_iff_ne]; exact hV0
              have HPf := Lib.hid (HPB.out.trans (show (decide (D = 0) && (x == 128) && (VER == 0) && lb) = false by simp [hV0]))
              clear hZ hX0 hV0 HPB
              go_wp2_with (first | (go_at_call 55; refine c3.mono ?_; rintro e3 w3 ⟨rfl, rfl⟩) | (go_at_call 26; refine c8.mono ?_; rintro e8 w8 ⟨rfl, b8⟩; have HB8 := Lib.hid b8; have HM8 := Lib.hid ((b8.block _ (blk_lt' HMR.out)).trans HMR.out); have HG8 := Lib.hid ((b8.block _ (blk_lt' HG1.out)).trans HG1.out); clear g0 g1 g2 gf m0 m1 m2 mf b8 c8; obtain ⟨g0, g1, g2, gf⟩ := cellsL3 HG8.out; obtain ⟨m0, m1, m2, mf⟩ := cellsL3 HM8.out))
              refine bodyPost_ret (plist_results _ _ w.heap.size _ _ _ _ rfl rfl (chain3_row HMR.out (.slice none 0 0) (.slice none 0 0) (.slice none 0 0))) rfl ?_
              obtain ⟨q1, q2, q3⟩ := HTF.out
              rw [q1, q2, q3, HPf.out]
              exact ⟨_, _, _, rfl, ⟨Rd.nil _, Rd.nil _, Ri.nil _⟩, chain3_below HBW.out (Nat.le_refl _) _ _ _⟩
          · have hz1 : (D != 0) = false := by rw [bne_eq_false_iff_eq]; exact hZ
            have hx1 : (x != 128) = true := by rw [bne_iff_ne]; exact hX0
            have HPf := Lib.hid (HPB.out.trans (show (decide (D = 0) && (x == 128) && (VER == 0) && lb) = false by simp [hX0]))
            clear hZ hX0 HPB
            go_wp2_with (first | (go_at_call 55; refine c3.mono ?_; rintro e3 w3 ⟨rfl, rfl⟩) | (go_at_call 26; refine c8.mono ?_; rintro e8 w8 ⟨rfl, b8⟩; have HB8 := Lib.hid b8; have HM8 := Lib.hid ((b8.block _ (blk_lt' HMR.out)).trans HMR.out); have HG8 := Lib.hid ((b8.block _ (blk_lt' HG1.out)).trans HG1.out); clear g0 g1 g2 gf m0 m1 m2 mf b8 c8; obtain ⟨g0, g1, g2, gf⟩ := cellsL3 HG8.out; obtain ⟨m0, m1, m2, mf⟩ := cellsL3 HM8.out))
            refine bodyPost_ret (plist_results _ _ w.heap.size _ _ _ _ rfl rfl (chain3_row HMR.out (.slice none 0 0) (.slice none 0 0) (.slice none 0 0))) rfl ?_
            obtain ⟨q1, q2, q3⟩ := HTF.out
            rw [q1, q2, q3, HPf.out]
            exact ⟨_, _, _, rfl, ⟨Rd.nil _, Rd.nil _, Ri.nil _⟩, chain3_below HBW.out (Nat.le_refl _) _ _ _⟩
        · have hz1 : (D != 0) = true := by rw [bne_iff_ne]; exact hZ
          have HPf := Lib.hid (HPB.out.trans (show (decide (D = 0) && (x == 128) && (VER == 0) && lb) = false by simp [hZ]))
          clear hZ HPB
          go_wp2_with (first | (go_at_call 55; refine c3.mono ?_; rintro e3 w3 ⟨rfl, rfl⟩) | (go_at_call 26; refine c8.mono ?_; rintro e8 w8 ⟨rfl, b8⟩; have HB8 := Lib.hid b8; have HM8 := Lib.hid ((b8.block _ (blk_lt' HMR.out)).trans HMR.out); have HG8 := Lib.hid ((b8.block _ (blk_lt' HG1.out)).trans HG1.out); clear g0 g1 g2 gf m0 m1 m2 mf b8 c8; obtain ⟨g0, g1, g2, gf⟩ := cellsL3 HG8.out; obtain ⟨m0, m1, m2, mf⟩ := cellsL3 HM8.out))
          refine bodyPost_ret (plist_results _ _ w.heap.size _ _ _ _ rfl rfl (chain3_row HMR.out (.slice none 0 0) (.slice none 0 0) (.slice none 0 0))) rfl ?_
          obtain ⟨q1, q2, q3⟩ := HTF.out
          rw [q1, q2, q3, HPf.out]
          exact ⟨_, _, _, rfl, ⟨Rd.nil _, Rd.nil _, Ri.nil _⟩, chain3_below HBW.out (Nat.le_refl _) _ _ _⟩
      · have hd1 : decide (0 < D) = false := decide_eq_false hDp
        clear hpc hC hD hDp
        by_cases hZ : D = 0
        · by_cases hX0 : x = 128
          · by_cases hV0 : VER = 0
            · have hz1 : (D != 0) = false := by rw [bne_eq_false_iff_eq]; exact hZ
              have hx1 : (x != 128) = false := by rw [bne_eq_false_iff_eq]; exact hX0
              have hv1 : (VER != 0) = false := by rw [bne_eq_false_iff_eq]; exact hV0
              have HP2 := Lib.hid (HPB.out.trans (show (decide (D = 0) && (x == 128) && (VER == 0) && lb) = lb by simp [hZ, hX0, hV0]))
              clear hZ hX0 hV0 HPB
              cases lb with
              | false =>
                have HPf := HP2
                go_wp2_with (first | (go_at_call 55; refine c3.mono ?_; rintro e3 w3 ⟨rfl, rfl⟩) | (go_at_call 26; refine c8.mono ?_; rintro e8 w8 ⟨rfl, b8⟩; have HB8 := Lib.hid b8; have HM8 := Lib.hid ((b8.block _ (blk_lt' HMR.out)).trans HMR.out); have HG8 := Lib.hid ((b8.block _ (blk_lt' HG1.out)).trans HG1.out); clear g0 g1 g2 gf m0 m1 m2 mf b8 c8; obtain ⟨g0, g1, g2, gf⟩ := cellsL3 HG8.out; obtain ⟨m0, m1, m2, mf⟩ := cellsL3 HM8.out))
                refine bodyPost_ret (plist_results _ _ w.heap.size _ _ _ _ rfl rfl (chain3_row HM8.out (.slice none 0 0) (.slice none 0 0) (.slice none 0 0))) rfl ?_
                obtain ⟨q1, q2, q3⟩ := HTF.out
                rw [q1, q2, q3, HPf.out]
                exact ⟨_, _, _, rfl, ⟨Rd.nil _, Rd.nil _, Ri.nil _⟩, chain3_below (HBW.out.trans (HB8.out.mono HBW.out.size)) (Nat.le_refl _) _ _ _⟩
              | true =>
                have HPf := HP2
                go_wp2_with (first | (go_at_call 55; refine c3.mono ?_; rintro e3 w3 ⟨rfl, rfl⟩) | (go_at_call 26; refine c8.mono ?_; rintro e8 w8 ⟨rfl, b8⟩; have HB8 := Lib.hid b8; have HM8 := Lib.hid ((b8.block _ (blk_lt' HMR.out)).trans HMR.out); have HG8 := Lib.hid ((b8.block _ (blk_lt' HG1.out)).trans HG1.out); clear g0 g1 g2 gf m0 m1 m2 mf b8 c8; obtain ⟨g0, g1, g2, gf⟩ := cellsL3 HG8.out; obtain ⟨m0, m1, m2, mf⟩ := cellsL3 HM8.out))
                refine bodyPost_ret (plist_results _ _ w.heap.size _ _ _ _ rfl rfl (chain3_row HM8.out (.slice a2 TO.length d2) (.slice a3 FR.length d3) (.slice ai ni ci))) rfl ?_
                obtain ⟨q1, q2, q3⟩ := HTF.out
                rw [q1, q2, q3, HPf.out, ← HEQ.out]
                exact ⟨_, _, _, rfl, ⟨(chain3_ra (HRT3.out.1.below HB8.out) hM1L _ _ _).rd, (chain3_ra (HRT3.out.2.below HB8.out) hM1L _ _ _).rd, (chain3_rai (HVI.out.below HB8.out) (by omega) _ _ _).rd⟩, chain3_below (HBW.out.trans (HB8.out.mono HBW.out.size)) (Nat.le_refl _) _ _ _⟩
            · have hz1 : (D != 0) = false := by rw [bne_eq_false_iff_eq]; exact hZ
              have hx1 : (x != 128) = false := by rw [bne_eq_false_iff_eq]; exact hX0
              have hv1 : (VER != 0) = true := by rw [bne_iff_ne]; exact hV0
              have HPf := Lib.hid (HPB.out.trans (show (decide (D = 0) && (x == 128) && (VER == 0) && lb) = false by simp [hV0]))
              clear hZ hX0 hV0 HPB
              go_wp2_with (first | (go_at_call 55; refine c3.mono ?_; rintro e3 w3 ⟨rfl, rfl⟩) | (go_at_call 26; refine c8.mono ?_; rintro e8 w8 ⟨rfl, b8⟩; have HB8 := Lib.hid b8; have HM8 := Lib.hid ((b8.block _ (blk_lt' HMR.out)).trans HMR.out); have HG8 := Lib.hid ((b8.block _ (blk_lt' HG1.out)).trans HG1.out); clear g0 g1 g2 gf m0 m1 m2 mf b8 c8; obtain ⟨g0, g1, g2, gf⟩ := cellsL3 HG8.out; obtain ⟨m0, m1, m2, mf⟩ := cellsL3 HM8.out))
              refine bodyPost_ret (plist_results _ _ w.heap.size _ _ _ _ rfl rfl (chain3_row HMR.out (.slice none 0 0) (.slice none 0 0) (.slice none 0 0))) rfl ?_
              obtain ⟨q1, q2, q3⟩ := HTF.out
              rw [q1, q2, q3, HPf.out]
              exact ⟨_, _, _, rfl, ⟨Rd.nil _, Rd.nil _, Ri.nil _⟩, chain3_below HBW.out (Nat.le_refl _) _ _ _⟩
          · have hz1 : (D != 0) = false := by rw [bne_eq_false_iff_eq]; exact hZ
            have hx1 : (x != 128) = true := by rw [bne_iff_ne]; exact hX0
            have HPf := Lib.hid (HPB.out.trans (show (decide (D = 0) && (x == 128) && (VER == 0) && lb) = false by simp [hX0]))
            clear hZ hX0 HPB
            go_wp2_with (first | (go_at_call 55; refine c3.mono ?_; rintro e3 w3 ⟨rfl, rfl⟩) | (go_at_call 26; refine c8.mono ?_; rintro e8 w8 ⟨rfl, b8⟩; have HB8 := Lib.hid b8; have HM8 := Lib.hid ((b8.block _ (blk_lt' HMR.out)).trans HMR.out); have HG8 := Lib.hid ((b8.block _ (blk_lt' HG1.out)).trans HG1.out); clear g0 g1 g2 gf m0 m1 m2 mf b8 c8; obtain ⟨g0, g1, g2, gf⟩ := cellsL3 HG8.out; obtain ⟨m0, m1, m2, mf⟩ := cellsL3 HM8.out))
            refine bodyPost_ret (plist_results _ _ w.heap.size _ _ _ _ rfl rfl (chain3_row HMR.out (.slice none 0 0) (.slice none 0 0) (.slice none 0 0))) rfl ?_
            obtain ⟨q1, q2, q3⟩ := HTF.out
            rw [q1, q2, q3, HPf.out]
            exact ⟨_, _, _, rfl, ⟨Rd.nil _, Rd.nil _, Ri.nil _⟩, chain3_below HBW.out (Nat.le_refl _) _ _ _⟩
        · have hz1 : (D != 0) = true := by rw [bne_iff_ne]; exact hZ
          have HPf := Lib.hid (HPB.out.trans (show (decide (D = 0) && (x == 128) && (VER == 0) && lb) = false by simp [hZ]))
          clear hZ HPB
          go_wp2_with (first | (go_at_call 55; refine c3.mono ?_; rintro e3 w3 ⟨rfl, rfl⟩) | (go_at_call 26; refine c8.mono ?_; rintro e8 w8 ⟨rfl, b8⟩; have HB8 := Lib.hid b8; have HM8 := Lib.hid ((b8.block _ (blk_lt' HMR.out)).trans HMR.out); have HG8 := Lib.hid ((b8.block _ (blk_lt' HG1.out)).trans HG1.out); clear g0 g1 g2 gf m0 m1 m2 mf b8 c8; obtain ⟨g0, g1, g2, gf⟩ := cellsL3 HG8.out; obtain ⟨m0, m1, m2, mf⟩ := cellsL3 HM8.out))
          refine bodyPost_ret (plist_results _ _ w.heap.size _ _ _ _ rfl rfl (chain3_row HMR.out (.slice none 0 0) (.slice none 0 0) (.slice none 0 0))) rfl ?_
          obtain ⟨q1, q2, q3⟩ := HTF.out
          rw [q1, q2, q3, HPf.out]
          exact ⟨_, _, _, rfl, ⟨Rd.nil _, Rd.nil _, Ri.nil _⟩, chain3_below HBW.out (Nat.le_refl _) _ _ _⟩
end Go.Proofs.Ytjdlmmbkppaenaa
