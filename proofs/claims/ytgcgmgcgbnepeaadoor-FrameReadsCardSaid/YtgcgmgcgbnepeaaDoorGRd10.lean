/- frame.Read tells what bytes are as frames. -/
import Derived.Test.YtgcgmgcgbnepeaaDoorGRd8
import Derived.Defers
import Derived.Recover
namespace Go.Proofs.YtgcgmgcgbnepeaaDoor
open Go Go.RowKit

/-- Where the reading stands: some frames are taken, at t. -/
def Grun (zs : List Int) (L : List Fv) (t : Nat) : Prop := ∃ m, zs.length ≤ t + m ∧ gRead zs = match gAll zs m t with | some q => some (L ++ q) | none => none
theorem grun_init (zs : List Int) : Grun zs [] 0 := ⟨zs.length, by omega, by unfold gRead; cases gAll zs zs.length 0 <;> rfl⟩
theorem grun_none {zs : List Int} {L : List Fv} {t : Nat} (h : Grun zs L t) (hg : gFrame zs t = none) : gRead zs = none := by
  obtain ⟨m, _, h⟩ := h
  rw [h]
  cases m with
  | zero => rfl
  | succ m => simp only [gAll, hg]
theorem grun_last {zs : List Int} {L : List Fv} {t t' : Nat} {f : Fv} (h : Grun zs L t) (hg : gFrame zs t = some (f, t')) (ht : t < t') (he : t' = zs.length) : gRead zs = some (L ++ [f]) := by
  obtain ⟨m, hm, h⟩ := h
  rw [h]
  cases m with
  | zero => omega
  | succ m => simp only [gAll, hg]; rw [if_pos he]
theorem grun_step {zs : List Int} {L : List Fv} {t t' : Nat} {f : Fv} (h : Grun zs L t) (hg : gFrame zs t = some (f, t')) (ht : t < t') (he : t' < zs.length) : Grun zs (L ++ [f]) t' := by
  obtain ⟨m, hm, h⟩ := h
  cases m with
  | zero => omega
  | succ m =>
    refine ⟨m, by omega, ?_⟩
    rw [h]
    simp only [gAll, hg]
    rw [if_neg (by omega)]
    cases gAll zs m t' with
    | none => rfl
    | some q => simp
theorem gframe_body {zs : List Int} {t : Nat} {z : Int} {r : List Int} (h : zs.drop t = z :: r) : gFrame zs t = gBody zs z (t + 1) := by
  unfold gFrame; rw [h]
theorem gframe_end {zs : List Int} {t : Nat} (h : zs.drop t = []) : gFrame zs t = none := by
  unfold gFrame; rw [h]
/-- What frames tells. -/
def Gfs (zs : List Int) (w : World) (R B : Nat) (e : Ending) (w' : World) : Prop :=
  (e = errPanic 3 ∧ Kq R B w w' ∧ gRead zs = none) ∨ ∃ v L, e = .returned v ∧ gRead zs = some (L.map Fe.f) ∧ Fo w.heap.size w' v L ∧ Kq R B w w'
theorem wpList_run_ok {w w' : World} {ops : Array Oper} {rest : List Oper} {o : Oper} {a : Act} {Q : Exit → Act → World → Prop} (s x : Operand) (t : TypeId) {sv xv v' : Value} (hgd : o.guard = none)
    (ho : o.op = .call { callee := .builtin .append, args := #[s, x], argTypes := #[t, t] }) (hs : a.eval s = sv) (hx : a.eval x = xv) (hr : (Builtin.append_ #[t, t] o.type #[sv, xv]).run Tryd.prog w = .ok v' w') (h : wpList Tryd.prog ops Q rest (a.put o.dst v') w') :
    wpList Tryd.prog ops Q (o :: rest) a w := by
  refine wpList_plain hgd fun K hK => ?_
  unfold Oper.wp execOp
  simp only [ho, resolve, invoke, builtin, Sem.run_bind, Sem.run_pure, Result.andThen_ok, List.map_toArray, List.map_cons, List.map_nil, hs, hx, hr]
  exact hK _ _ h
/-- What holds at the loop's head. -/
structure Gl (zs : List Int) (w0 w : World) (R B mb : Nat) (u : Value) (L : List Fe) (t : Nat) (wr : World) : Prop where
  fo : Fo w.heap.size wr u L
  box : ∃ f sv dv, wr.heap[R]? = some (.cells (gCells B f sv dv) 64 (0, 0))
  fq : Fq w0 wr B (zs.drop t) t 3
  mp : MapF wr mb 8 (fnOf R)
  kq : Kq R B w wr
  ord : w0.heap.size ≤ B ∧ B < R ∧ R < w.heap.size ∧ mb = w.heap.size
  len : L.length ≤ t ∧ t ≤ zs.length
theorem Gl.keep {zs : List Int} {w0 w wr w1 : World} {R B mb : Nat} {u : Value} {L : List Fe} {t t' : Nat} (h : Gl zs w0 w R B mb u L t wr) (hb : But B wr w1) (hF : Fq w0 w1 B (zs.drop t') t' 3) (ht : t ≤ t' ∧ t' ≤ zs.length) : Gl zs w0 w R B mb u L t' w1 := by
  obtain ⟨o1, o2, o3, o4⟩ := h.ord
  obtain ⟨f, sv, dv, hx⟩ := h.box
  have hs := h.kq.size
  exact ⟨h.fo.keep fun k hk hl => hb.block k hk (by omega), ⟨f, sv, dv, by rw [hb.block R (by omega) (by omega)]; exact hx⟩, hF, h.mp.keep (hb.block mb h.mp.lt (by omega)), h.kq.trans (Kq.r hb), h.ord, by have := h.len; omega, ht.2⟩
/-- The world behind the fresh frame of kind z. -/
def freshW (w2 : World) (R : Nat) (z : Int) : World := (((((w2.setCell ⟨R, 1, none⟩ (.int .i64 z)).setCell ⟨R, 2, none⟩ (.int .i64 0)).setCell ⟨R, 3, none⟩ (.slice none 0 0)).setCell ⟨R, 4, none⟩ (.int .i64 0)).setCell ⟨R, 5, none⟩ (.slice none 0 0)).setCell ⟨R, 6, none⟩ (.int .i64 0)
theorem freshW_but (w2 : World) (R : Nat) (z : Int) : But R w2 (freshW w2 R z) :=
  (((((But.set w2 R 1 _).trans (But.set _ R 2 _)).trans (But.set _ R 3 _)).trans (But.set _ R 4 _)).trans (But.set _ R 5 _)).trans (But.set _ R 6 _)
theorem freshW_size (w2 : World) (R : Nat) (z : Int) : (freshW w2 R z).heap.size = w2.heap.size := by simp [freshW, World.setCell]
theorem freshW_box {w2 : World} {R B : Nat} {f : Fv} {sv dv : Value} (h : w2.heap[R]? = some (.cells (gCells B f sv dv) 64 (0, 0))) (z : Int) : (freshW w2 R z).heap[R]? = some (.cells (gCells B ⟨z, 0, [], 0, [], 0⟩ (.slice none 0 0) (.slice none 0 0)) 64 (0, 0)) := by
  have e1 := heap_setCell_same w2 R 1 _ 64 (.int .i64 z) h
  have e2 := heap_setCell_same _ R 2 _ 64 (.int .i64 0) e1
  have e3 := heap_setCell_same _ R 3 _ 64 (.slice none 0 0) e2
  have e4 := heap_setCell_same _ R 4 _ 64 (.int .i64 0) e3
  have e5 := heap_setCell_same _ R 5 _ 64 (.slice none 0 0) e4
  exact heap_setCell_same _ R 6 _ 64 (.int .i64 0) e5
theorem Gl.fresh {zs : List Int} {w0 w w2 : World} {R B mb : Nat} {u : Value} {L : List Fe} {t : Nat} {f : Fv} {sv dv : Value} (h : Gl zs w0 w R B mb u L t w2) (hbx : w2.heap[R]? = some (.cells (gCells B f sv dv) 64 (0, 0))) (z : Int) : Gl zs w0 w R B mb u L t (freshW w2 R z) := by
  obtain ⟨o1, o2, o3, o4⟩ := h.ord
  have hb := freshW_but w2 R z
  exact ⟨h.fo.keep fun k hk hl => hb.block k hk (by omega), ⟨_, _, _, freshW_box hbx z⟩, h.fq.but hb (by omega) (by omega), h.mp.keep (hb.block mb h.mp.lt (by omega)), h.kq.trans (Kq.l hb), h.ord, h.len⟩
theorem Gl.gst {zs : List Int} {w0 w W : World} {R B mb : Nat} {u : Value} {L : List Fe} {t : Nat} {z : Int} (h : Gl zs w0 w R B mb u L (t + 1) W) (hb : W.heap[R]? = some (.cells (gCells B ⟨z, 0, [], 0, [], 0⟩ (.slice none 0 0) (.slice none 0 0)) 64 (0, 0))) (hbt : Byt zs) (hl : zs.length ≤ 1200) : Gst zs z (t + 1) w0 W R B W.heap.size := by
  obtain ⟨o1, o2, o3, o4⟩ := h.ord
  have hs := h.kq.size
  exact ⟨⟨hb, World.ownsRow_nil _ _ _ _, ⟨Rd.nil _, fun _ _ _ h => by cases h⟩, .inl rfl, o2, by omega, Nat.le_refl _⟩, h.fq, hbt, hl, ⟨by omega, h.len.2⟩, o1⟩
theorem own_ne_map {w : World} {lo : Nat} {v : Value} {n g mb k : Nat} {T : TypeId} {sz : Nat} {xs : List Value} {f : Int → Option Value} (h : w.ownsRow lo T sz v n xs) (hg : v.ownBlock = some g) (hm : MapF w mb k f) : mb ≠ g := by
  rintro rfl
  obtain ⟨D, ⟨es, clock, hb, _⟩, _⟩ := hm
  rcases h.2 with ⟨rfl, _⟩ | ⟨g', cap, cur, rfl, _, hh, _⟩
  · cases hg
  · cases hg
    rw [hb] at hh
    cases hh
theorem Gl.app {zs : List Int} {w0 w W w3 w5 : World} {R B mb b : Nat} {u : Value} {L : List Fe} {t t' : Nat} {f : Fv} {sv dv : Value} (h : Gl zs w0 w R B mb u L t W) (hk : Kq R B W w3) (g : Gq w3 R B W.heap.size f sv dv) (hF : Fq w0 w3 B (zs.drop t') t' 3) (hb : Below w3.heap.size w3 w5) (ht : t ≤ t' ∧ L.length < t' ∧ t' ≤ zs.length) (hl : zs.length ≤ 1200)
    (hc : ∀ i x, (feC ⟨f, sv, dv⟩)[i]? = some x → w5.cell? ⟨b, i, none⟩ = some x) (ty : TypeId) :
    ∃ v' w6, (Builtin.append_ #[38, 38] ty #[u, .slice (some ⟨b, 0, none⟩) 1 1]).run Tryd.prog w5 = .ok v' w6 ∧ Gl zs w0 w R B mb v' (L ++ [⟨f, sv, dv⟩]) t' w6 := by
  obtain ⟨o1, o2, o3, o4⟩ := h.ord
  have hs := h.kq.size
  have hs3 := hk.size
  have hs5 := hb.size
  have hfo5 : Fo w.heap.size w5 u L := (h.fo.keep fun k hk1 hl1 => hk.block k hk1 (by omega) (by omega)).keep fun k hk1 _ => hb.block k hk1
  have hg : ∀ g, u.ownBlock = some g → g < W.heap.size := fun g hg => (h.fo.own.lt g hg).2
  obtain ⟨v', w6, hrun, hfo6, hgr⟩ := hfo5.app (by omega) (by omega) ⟨f, sv, dv⟩ ((rsa_own g.sp).below hb) (g.d.below hb) g.pl hs hg b hc ty
  have hge : ∀ g, u.ownBlock = some g → w.heap.size ≤ g := fun g hg => (h.fo.own.lt g hg).1
  have hR5 : R < w5.heap.size := by omega
  have hbl : Below w.heap.size w5 w6 := (Below.refl _ w5).grown hgr (by omega) hge
  have hmp5 : MapF w5 mb 8 (fnOf R) := (h.mp.keep (hk.block mb h.mp.lt (by omega) (by omega))).keep (hb.block mb (by have := h.mp.lt; omega))
  have hne : u.ownBlock ≠ some mb := fun he => own_ne_map hfo5.own he hmp5 rfl
  refine ⟨v', w6, hrun, ⟨hfo6, ⟨f, sv, dv, ?_⟩, (hF.keep hb).belowL hbl (by omega), hmp5.keep (hgr.block mb hmp5.lt (fun he => hne (by first | exact he.symm | exact he))), ?_, h.ord, by simp; omega⟩⟩
  · rw [hbl.block R o3, hb.block R (by omega)]; exact g.box
  · exact (h.kq.trans hk).bel ⟨hbl.os.trans hb.os, hbl.tape.trans hb.tape, hbl.output.trans hb.output, Nat.le_trans hb.size hbl.size, fun k hk1 => (hbl.block k hk1).trans (hb.block k (by omega))⟩
theorem feC_new (w : World) (e : Fe) : ∀ i x, (feC e)[i]? = some x → (w.alloc (.cells #[.int .i64 e.f.k, .int .i64 e.f.c, e.sv, .int .i64 e.f.a, e.dv, .int .i64 e.f.t] 29)).cell? ⟨w.heap.size, i, none⟩ = some x := fun i x hx => by
  rw [cell_of_row _ w.heap.size i _ _ (0, 0) (heap_alloc_new w _), ← hx]
  simp [feC]
theorem gcells {w : World} {R B : Nat} {f : Fv} {sv dv : Value} (h : w.heap[R]? = some (.cells (gCells B f sv dv) 64 (0, 0))) :
    w.cell? ⟨R, 0, none⟩ = some (.pointer (some ⟨B, 0, none⟩)) ∧ w.cell? ⟨R, 1, none⟩ = some (.int .i64 f.k) ∧ w.cell? ⟨R, 2, none⟩ = some (.int .i64 f.c) ∧ w.cell? ⟨R, 3, none⟩ = some sv ∧
    w.cell? ⟨R, 4, none⟩ = some (.int .i64 f.a) ∧ w.cell? ⟨R, 5, none⟩ = some dv ∧ w.cell? ⟨R, 6, none⟩ = some (.int .i64 f.t) ∧ (∀ j, w.frozen? ⟨R, j, none⟩ = false) :=
  have c := fun j => cell_of_row w R j _ _ (0, 0) h
  ⟨(c 0).trans rfl, (c 1).trans rfl, (c 2).trans rfl, (c 3).trans rfl, (c 4).trans rfl, (c 5).trans rfl, (c 6).trans rfl, fun j => by simp [World.frozen?, h]⟩
/-- How many elements the slice in the first cell of a block has. -/
def leftW (w : World) (D : Nat) : Nat := match w.cell? ⟨D, 0, none⟩ with | some (.slice _ n _) => n | _ => 0
theorem Fq.leftW {w0 w : World} {B t : Nat} {rest : List Int} {short : Int} (h : Fq w0 w B rest t short) : leftW w B = rest.length := by
  obtain ⟨ao, cap, _, c0, _, _⟩ := h.cells
  unfold Go.Proofs.YtgcgmgcgbnepeaaDoor.leftW
  rw [c0]
set_option maxRecDepth 20000 in
set_option maxHeartbeats 4000000 in
theorem frames_any {w0 w : World} {R B : Nat} {f : Fv} {sv dv : Value} {zs : List Int} (hF : Fq w0 w B zs 0 3) (hbox : w.heap[R]? = some (.cells (gCells B f sv dv) 64 (0, 0))) (hbt : Byt zs) (hl : zs.length ≤ 1200) (ho : w0.heap.size ≤ B ∧ B < R) :
    Calls Tryd.prog 31 #[.pointer (some ⟨R, 0, none⟩)] w (Gfs zs w R B) := by
  have HBT := Lib.hid hbt
  have HL := Lib.hid hl
  have HF := Lib.hid hF
  have HX := Lib.hid hbox
  have hbod := bodies_any w R
  clear hbt hF hbox
  go_enter Tryd.func31, Tryd.ntmps31
  go_wp2_with (go_at_call 44; refine hbod.mono ?_; rintro e w1 ⟨rfl, hm1, hb1⟩)
  have hRl : R < w.heap.size := (Array.getElem?_eq_some_iff.1 HX.out).1
  have hGl : Gl zs w0 w R B w.heap.size (.slice none 0 0) [] 0 w1 := ⟨Fo.nil _ _, ⟨f, sv, dv, by rw [hb1.block R hRl]; exact HX.out⟩, by rw [List.drop_zero]; exact HF.out.keep hb1, hm1, Kq.of_below hb1, ⟨ho.1, ho.2, hRl, rfl⟩, by simp⟩
  have HG := Lib.hid hGl
  clear hbod hm1 hb1 hGl
  go_loopw [4] (fun u wr => ∃ (L : List Fe) (t : Nat), Gl zs w0 w R B w.heap.size u L t wr ∧ Hid ((Grun zs (L.map Fe.f) t ∧ (L = [] ∨ t < zs.length)) ∨ (L ≠ [] ∧ t = zs.length ∧ gRead zs = some (L.map Fe.f)))) (fun _ wr => leftW wr B)
  case atStart => exact ⟨[], 0, HG.out, Lib.hid (.inl ⟨grun_init zs, .inl rfl⟩)⟩
  case round =>
    obtain ⟨L, t, hG, hst⟩ := hrel
    obtain ⟨ua, uc, rfl⟩ := hG.fo.shape
    have HGL := Lib.hid hG
    obtain ⟨f1, sv1, dv1, hbx⟩ := hG.box
    have c0 : wr.cell? ⟨R, 0, none⟩ = some (.pointer (some ⟨B, 0, none⟩)) := (cell_of_row wr R 0 _ _ (0, 0) hbx).trans rfl
    have hcells := fun j => cell_of_row wr R j _ _ (0, 0) hbx
    have cf : ∀ j, wr.frozen? ⟨R, j, none⟩ = false := fun j => by simp [World.frozen?, hbx]
    have hleft := left_q hG.fq
    have hlen := hG.len
    have HLT := Lib.hid hlen.1
    clear hbx
    rcases hst.out with ⟨hrun, hL⟩ | ⟨hL, hteq, hread⟩
    · have HRUN := Lib.hid hrun
      have hor : (L.length = 0) ∨ (0 < L.length ∧ t < zs.length) := by
        rcases hL with rfl | h
        · exact .inl rfl
        · rcases Nat.eq_zero_or_pos L.length with h0 | h0
          · exact .inl h0
          · exact .inr ⟨h0, h⟩
      clear hrun hL hst
      cases hz : zs.drop t with
      | nil =>
        have hor0 : L.length = 0 := by
          rcases hor with h | ⟨_, h⟩
          · exact h
          · have := congrArg List.length hz; simp at this; omega
        have hx := fixed_e hG.fq 1 (by rw [hz]; simp)
        have HNO := Lib.hid (grun_none HRUN.out (gframe_end hz))
        rw [hor0] at *
        clear hG hz hor hcells
        go_wp2_with (go_at_call 46; refine hx.mono ?_; rintro e w2 ⟨he, hb2⟩; rw [errPanic] at he; subst he)
        exact ⟨rfl, .inl ⟨rfl, HGL.out.kq.trans (Kq.r hb2), HNO.out⟩⟩
      | cons z r =>
        have hzb := (HBT.out.drop t) z (by rw [hz]; simp)
        have htl : t < zs.length := by have := congrArg List.length hz; simp at this; omega
        have hx := fixed_q hG.fq 1 (by omega) (by omega) (by rw [hz]; simp)
        have hbz : bigv ((zs.drop t).take 1) 0 = z := by rw [hz]; simp [bigv]
        have hdd : (zs.drop t).drop 1 = zs.drop (t + 1) := by rw [List.drop_drop]
        rw [hbz, hdd] at hx
        have HGF := Lib.hid (gframe_body hz)
        have HX2 := Lib.hid hx
        clear hbz hdd hG hz hx
        rcases hor with hor | ⟨hor, hor2⟩
        · obtain rfl := List.eq_nil_of_length_eq_zero hor
          simp only [List.length_nil] at *
          go_wp2_with fail
          refine HX2.out.mono ?_
          rintro e w2 ⟨rfl, hF2, hb2⟩
          have hG2 := HGL.out.keep hb2 hF2 (by omega)
          obtain ⟨f2, sv2, dv2, hbx2⟩ := hG2.box
          obtain ⟨b0, b1, b2, b3, b4, b5, b6, cf2⟩ := gcells hbx2
          have hGW := Lib.hid (hG2.fresh hbx2 z)
          have hWb := Lib.hid (freshW_box hbx2 z)
          have hsW := Lib.hid (freshW_size w2 R z)
          have hlk := hGW.out.mp.look (wfM hzb.1 (by omega))
          unfold freshW at hlk hGW hWb hsW
          clear hb2 hF2 hG2 hbx2
          cases hfn : fnOf R z with
          | none =>
            rw [hfn] at hlk
            have HNO := Lib.hid (grun_none HRUN.out (HGF.out.trans (fn_none hfn zs (t + 1))))
            simp only [Option.getD, Option.isSome] at hlk
            have hwn := fun w9 => want_no w9 3
            clear hfn hleft
            go_wp2_with (go_at_call 47; refine (hwn _).mono ?_; rintro e w9 ⟨he, rfl⟩; rw [errPanic] at he; subst he)
            exact ⟨rfl, .inl ⟨rfl, hGW.out.kq, HNO.out⟩⟩
          | some v =>
            rw [hfn] at hlk
            obtain ⟨F, rfl, gm⟩ := fn_gm hfn
            simp only [Option.getD, Option.isSome] at hlk
            have hwy := fun w9 => want_yes w9 3
            have hent := gm.ent
            have HGM := Lib.hid gm
            clear hfn gm hleft
            go_wp2_with (go_at_call 47; refine (hwy _).mono ?_; rintro e w9 ⟨rfl, rfl⟩)
            have hgst := hGW.out.gst hWb.out HBT.out HL.out
            have hT := HGM.out.does zs (t + 1) w0 _ R B _ rfl hgst
            clear hgst hent hlk b0 b1 b2 b3 b4 b5 b6 cf2 hwy
            generalize (((((w2.setCell ⟨R, 1, none⟩ (.int .i64 z)).setCell ⟨R, 2, none⟩ (.int .i64 0)).setCell ⟨R, 3, none⟩ (.slice none 0 0)).setCell ⟨R, 4, none⟩ (.int .i64 0)).setCell ⟨R, 5, none⟩ (.slice none 0 0)).setCell ⟨R, 6, none⟩ (.int .i64 0) = W at *
            refine hT.mono ?_
            rintro e w3 (⟨he, hk3, hno⟩ | ⟨f3, sv3, dv3, t3, rfl, hG3, hF3, hk3, hy3, hn3⟩)
            · rw [errPanic] at he
              subst he
              have HNO := Lib.hid (grun_none HRUN.out (HGF.out.trans hno))
              have HK3 := Lib.hid (hGW.out.kq.trans hk3)
              clear hT hk3 hno
              go_wp2_with fail
              exact ⟨rfl, .inl ⟨rfl, HK3.out, HNO.out⟩⟩
            · have hR := right_any (Rs.of_own hG3.sp).1 hG3.d.rd.shape
              obtain ⟨d0, d1, d2, d3, d4, d5, d6, df⟩ := hG3.cells
              have HG3 := Lib.hid hG3
              have HF3 := Lib.hid hF3
              have HK3 := Lib.hid hk3
              unfold fAgg at hR
              clear hT hG3 hF3 hk3
              cases hrb : rightB f3 with
              | false =>
                rw [hrb] at hR
                have HNO := Lib.hid (grun_none HRUN.out (HGF.out.trans (hn3 hrb)))
                have hwn := fun w9 => want_no w9 3
                clear hy3 hn3 hrb
                go_wp2_with (first
                  | (go_at_call 10; refine hR.mono ?_; rintro e w4 ⟨rfl, hb4⟩)
                  | (go_at_call 47; refine (hwn _).mono ?_; rintro e w9 ⟨he, rfl⟩; rw [errPanic] at he; subst he))
                exact ⟨rfl, .inl ⟨rfl, (hGW.out.kq.trans HK3.out).trans (Kq.of_below hb4), HNO.out⟩⟩
              | true =>
                rw [hrb] at hR
                have hgf := HGF.out.trans (hy3 hrb)
                have hinv := gframe_inv HBT.out HL.out hgf
                have HGFR := Lib.hid hgf
                have HINV := Lib.hid (And.intro hinv.2.2.1 hinv.2.2.2.1)
                have hwy := fun w9 => want_yes w9 3
                clear hy3 hn3 hrb hgf hinv
                go_wp2_with (first
                  | (go_at_call 10; refine hR.mono ?_; rintro e w4 ⟨rfl, hb4⟩; have hG4 := HG3.out.below hb4; obtain ⟨d0, d1, d2, d3, d4, d5, d6, df⟩ := hG4.cells; obtain ⟨v6, w6, hr6, hg6⟩ := hGW.out.app HK3.out HG3.out HF3.out (hb4.trans ((below_alloc w4 _).mono hb4.size)) ⟨by have := HINV.out; omega, Nat.lt_of_le_of_lt HLT.out HINV.out.1, HINV.out.2⟩ HL.out (feC_new w4 ⟨f3, sv3, dv3⟩) 38; have HG6 := Lib.hid hg6; clear hg6; obtain ⟨a6, c6, rfl⟩ := HG6.out.fo.shape; have hll : (([] : List Fe) ++ [(⟨f3, sv3, dv3⟩ : Fe)]).length = ([] : List Fe).length + 1 := by simp)
                  | (at_builtin; refine wpList_run_ok (.tmp 49) (.tmp 54) _ rfl rfl rfl rfl hr6 ?_)
                  | (go_at_call 47; refine (hwy _).mono ?_; rintro e w9 ⟨rfl, rfl⟩))
                have HST : Hid ((Grun zs (([] ++ ([⟨f3, sv3, dv3⟩] : List Fe)).map Fe.f) t3 ∧ ([] ++ ([⟨f3, sv3, dv3⟩] : List Fe) = [] ∨ t3 < zs.length)) ∨ ([] ++ ([⟨f3, sv3, dv3⟩] : List Fe) ≠ [] ∧ t3 = zs.length ∧ gRead zs = some (([] ++ ([⟨f3, sv3, dv3⟩] : List Fe)).map Fe.f))) := Lib.hid (by
                  rw [List.map_append]
                  by_cases he : t3 = zs.length
                  · exact .inr ⟨by simp, he, grun_last HRUN.out HGFR.out HINV.out.1 he⟩
                  · have hlt3 : t3 < zs.length := by have := HINV.out.2; omega
                    exact .inl ⟨grun_step HRUN.out HGFR.out HINV.out.1 hlt3, .inr hlt3⟩)
                try rw [hll] at HG6
                go_roundw
                case rel => exact ⟨_, t3, HG6.out, HST.out |> Lib.hid⟩
                case measure => rw [HG6.out.fq.leftW, HGL.out.fq.leftW]; simp; have := HINV.out; omega
        · have hne : ((L.length : Int) == 0) = false := beq_eq_false_iff_ne.2 (by omega)
          have hpos : (0 : Int) < (((zs.drop t).length : Nat) : Int) := by simp; omega
          go_wp2_with (go_at_call 45; refine hleft.mono ?_; rintro e wz ⟨rfl, rfl⟩)
          refine HX2.out.mono ?_
          rintro e w2 ⟨rfl, hF2, hb2⟩
          have hG2 := HGL.out.keep hb2 hF2 (by omega)
          obtain ⟨f2, sv2, dv2, hbx2⟩ := hG2.box
          obtain ⟨b0, b1, b2, b3, b4, b5, b6, cf2⟩ := gcells hbx2
          have hGW := Lib.hid (hG2.fresh hbx2 z)
          have hWb := Lib.hid (freshW_box hbx2 z)
          have hsW := Lib.hid (freshW_size w2 R z)
          have hlk := hGW.out.mp.look (wfM hzb.1 (by omega))
          unfold freshW at hlk hGW hWb hsW
          clear hb2 hF2 hG2 hbx2
          cases hfn : fnOf R z with
          | none =>
            rw [hfn] at hlk
            have HNO := Lib.hid (grun_none HRUN.out (HGF.out.trans (fn_none hfn zs (t + 1))))
            simp only [Option.getD, Option.isSome] at hlk
            have hwn := fun w9 => want_no w9 3
            clear hfn hleft
            go_wp2_with (go_at_call 47; refine (hwn _).mono ?_; rintro e w9 ⟨he, rfl⟩; rw [errPanic] at he; subst he)
            exact ⟨rfl, .inl ⟨rfl, hGW.out.kq, HNO.out⟩⟩
          | some v =>
            rw [hfn] at hlk
            obtain ⟨F, rfl, gm⟩ := fn_gm hfn
            simp only [Option.getD, Option.isSome] at hlk
            have hwy := fun w9 => want_yes w9 3
            have hent := gm.ent
            have HGM := Lib.hid gm
            clear hfn gm hleft
            go_wp2_with (go_at_call 47; refine (hwy _).mono ?_; rintro e w9 ⟨rfl, rfl⟩)
            have hgst := hGW.out.gst hWb.out HBT.out HL.out
            have hT := HGM.out.does zs (t + 1) w0 _ R B _ rfl hgst
            clear hgst hent hlk b0 b1 b2 b3 b4 b5 b6 cf2 hwy
            generalize (((((w2.setCell ⟨R, 1, none⟩ (.int .i64 z)).setCell ⟨R, 2, none⟩ (.int .i64 0)).setCell ⟨R, 3, none⟩ (.slice none 0 0)).setCell ⟨R, 4, none⟩ (.int .i64 0)).setCell ⟨R, 5, none⟩ (.slice none 0 0)).setCell ⟨R, 6, none⟩ (.int .i64 0) = W at *
            refine hT.mono ?_
            rintro e w3 (⟨he, hk3, hno⟩ | ⟨f3, sv3, dv3, t3, rfl, hG3, hF3, hk3, hy3, hn3⟩)
            · rw [errPanic] at he
              subst he
              have HNO := Lib.hid (grun_none HRUN.out (HGF.out.trans hno))
              have HK3 := Lib.hid (hGW.out.kq.trans hk3)
              clear hT hk3 hno
              go_wp2_with fail
              exact ⟨rfl, .inl ⟨rfl, HK3.out, HNO.out⟩⟩
            · have hR := right_any (Rs.of_own hG3.sp).1 hG3.d.rd.shape
              obtain ⟨d0, d1, d2, d3, d4, d5, d6, df⟩ := hG3.cells
              have HG3 := Lib.hid hG3
              have HF3 := Lib.hid hF3
              have HK3 := Lib.hid hk3
              unfold fAgg at hR
              clear hT hG3 hF3 hk3
              cases hrb : rightB f3 with
              | false =>
                rw [hrb] at hR
                have HNO := Lib.hid (grun_none HRUN.out (HGF.out.trans (hn3 hrb)))
                have hwn := fun w9 => want_no w9 3
                clear hy3 hn3 hrb
                go_wp2_with (first
                  | (go_at_call 10; refine hR.mono ?_; rintro e w4 ⟨rfl, hb4⟩)
                  | (go_at_call 47; refine (hwn _).mono ?_; rintro e w9 ⟨he, rfl⟩; rw [errPanic] at he; subst he))
                exact ⟨rfl, .inl ⟨rfl, (hGW.out.kq.trans HK3.out).trans (Kq.of_below hb4), HNO.out⟩⟩
              | true =>
                rw [hrb] at hR
                have hgf := HGF.out.trans (hy3 hrb)
                have hinv := gframe_inv HBT.out HL.out hgf
                have HGFR := Lib.hid hgf
                have HINV := Lib.hid (And.intro hinv.2.2.1 hinv.2.2.2.1)
                have hwy := fun w9 => want_yes w9 3
                clear hy3 hn3 hrb hgf hinv
                go_wp2_with (first
                  | (go_at_call 10; refine hR.mono ?_; rintro e w4 ⟨rfl, hb4⟩; have hG4 := HG3.out.below hb4; obtain ⟨d0, d1, d2, d3, d4, d5, d6, df⟩ := hG4.cells; obtain ⟨v6, w6, hr6, hg6⟩ := hGW.out.app HK3.out HG3.out HF3.out (hb4.trans ((below_alloc w4 _).mono hb4.size)) ⟨by have := HINV.out; omega, Nat.lt_of_le_of_lt HLT.out HINV.out.1, HINV.out.2⟩ HL.out (feC_new w4 ⟨f3, sv3, dv3⟩) 38; have HG6 := Lib.hid hg6; clear hg6; obtain ⟨a6, c6, rfl⟩ := HG6.out.fo.shape; have hll : (L ++ [(⟨f3, sv3, dv3⟩ : Fe)]).length = L.length + 1 := by simp)
                  | (at_builtin; refine wpList_run_ok (.tmp 49) (.tmp 54) _ rfl rfl rfl rfl hr6 ?_)
                  | (go_at_call 47; refine (hwy _).mono ?_; rintro e w9 ⟨rfl, rfl⟩))
                have HST : Hid ((Grun zs ((L ++ ([⟨f3, sv3, dv3⟩] : List Fe)).map Fe.f) t3 ∧ (L ++ ([⟨f3, sv3, dv3⟩] : List Fe) = [] ∨ t3 < zs.length)) ∨ (L ++ ([⟨f3, sv3, dv3⟩] : List Fe) ≠ [] ∧ t3 = zs.length ∧ gRead zs = some ((L ++ ([⟨f3, sv3, dv3⟩] : List Fe)).map Fe.f))) := Lib.hid (by
                  rw [List.map_append]
                  by_cases he : t3 = zs.length
                  · exact .inr ⟨by simp, he, grun_last HRUN.out HGFR.out HINV.out.1 he⟩
                  · have hlt3 : t3 < zs.length := by have := HINV.out.2; omega
                    exact .inl ⟨grun_step HRUN.out HGFR.out HINV.out.1 hlt3, .inr hlt3⟩)
                try rw [hll] at HG6
                go_roundw
                case rel => exact ⟨_, t3, HG6.out, HST.out |> Lib.hid⟩
                case measure => rw [HG6.out.fq.leftW, HGL.out.fq.leftW]; simp; have := HINV.out; omega
    · have hz : zs.drop t = [] := by rw [hteq, List.drop_length]
      rw [hz] at hleft
      have HRD := Lib.hid hread
      have hlp : 0 < L.length := List.length_pos_iff.2 hL
      have hne : ((L.length : Int) == 0) = false := beq_eq_false_iff_ne.2 (by omega)
      clear hG hcells hL hread hst hteq hz
      go_wp2_with (go_at_call 45; refine hleft.mono ?_; rintro e wz ⟨rfl, rfl⟩)
      go_ret
      exact .inr ⟨_, L, rfl, HRD.out, HGL.out.fo, HGL.out.kq⟩
#print axioms frames_any
end Go.Proofs.YtgcgmgcgbnepeaaDoor
namespace Go.Proofs.YtgcgmgcgbnepeaaDoor
open Go Go.RowKit

theorem heap_alloc2_newG (w : World) (o o' : Obj) : ((w.alloc o).alloc o').heap[w.heap.size + 1]? = some o' := by
  have := heap_alloc_new (w.alloc o) o'
  simpa using this
theorem assert_errnoG (k : Int) (w : World) : (Instr.typeAssert (.iface 35 (.int .i64 k)) 20 35 false).run Tryd.prog w = .ok (.int .i64 k) w := by
  kernel_rfl
/-- The two result boxes, and what they hold. -/
structure Ld (H : Nat) (c x : Value) (w : World) : Prop where
  h : w.heap[H]? = some (.cells #[c] 38 (0, 0))
  x : w.heap[H + 1]? = some (.cells #[x] 35 (0, 0))
theorem Ld.cells {H : Nat} {c x : Value} {w : World} (h : Ld H c x w) : w.cell? ⟨H, 0, none⟩ = some c ∧ w.cell? ⟨H + 1, 0, none⟩ = some x ∧ w.frozen? ⟨H, 0, none⟩ = false ∧ w.frozen? ⟨H + 1, 0, none⟩ = false :=
  ⟨(cell_of_row w H 0 _ _ (0, 0) h.h).trans rfl, (cell_of_row w (H + 1) 0 _ _ (0, 0) h.x).trans rfl, by simp [World.frozen?, h.h], by simp [World.frozen?, h.x]⟩
theorem Ld.keep {H : Nat} {c x : Value} {w w' : World} (h : Ld H c x w) (h0 : w'.heap[H]? = w.heap[H]?) (h1 : w'.heap[H + 1]? = w.heap[H + 1]?) : Ld H c x w' := ⟨by rw [h0]; exact h.h, by rw [h1]; exact h.x⟩
theorem ld_of {w : World} {H : Nat} {c x : Value} (hb : Ld H c x w) (c' x' : Value) : Ld H c' x' ((w.setCell ⟨H, 0, none⟩ c').setCell ⟨H + 1, 0, none⟩ x') ∧ Below H w ((w.setCell ⟨H, 0, none⟩ c').setCell ⟨H + 1, 0, none⟩ x') ∧ (∀ k, k < w.heap.size → k ≠ H → k ≠ H + 1 → ((w.setCell ⟨H, 0, none⟩ c').setCell ⟨H + 1, 0, none⟩ x').heap[k]? = w.heap[k]?) := by
  have b1 := But.set w H 0 c'
  have b2 := But.set (w.setCell ⟨H, 0, none⟩ c') (H + 1) 0 x'
  have e0 := heap_setCell_same w H 0 _ 38 c' hb.h
  have hx1 := (b1.block (H + 1) (Array.getElem?_eq_some_iff.1 hb.x).1 (by omega)).trans hb.x
  have e1 := heap_setCell_same (w.setCell ⟨H, 0, none⟩ c') (H + 1) 0 _ 35 x' hx1
  have hl := (Array.getElem?_eq_some_iff.1 hb.x).1
  refine ⟨⟨?_, e1⟩, ⟨b2.os.trans b1.os, b2.tape.trans b1.tape, b2.output.trans b1.output, Nat.le_trans b1.size b2.size, fun k hk => (b2.block k (by have := b1.size; omega) (by omega)).trans (b1.block k (by omega) (by omega))⟩, fun k hk h1 h2 => (b2.block k (by have := b1.size; omega) h2).trans (b1.block k hk h1)⟩
  rw [b2.block H (by have := b1.size; omega) (by omega)]; exact e0
theorem ld_drew {H : Nat} {c x : Value} {w w' : World} (h : Ld H c x w') (hb : Below H w w') : Ld H c x w'.drew ∧ Below H w w'.drew := ⟨⟨h.h, h.x⟩, hb.drew⟩
set_option maxRecDepth 20000 in
set_option maxHeartbeats 2000000 in
theorem gcatch_idle (H : Nat) (w : World) :
    CallsD Tryd.prog 29 #[.pointer (some ⟨H, 0, none⟩), .pointer (some ⟨H + 1, 0, none⟩)] .returning w fun e u' w' => e = .returned (.tuple #[]) ∧ u' = .returning ∧ w = w' := by
  refine callsD_of_wpS Tryd.func29 rfl fun c₀ cs hu => ?_
  apply wpS_seq
  apply wpS_region
  simp [wpOpsS, go_sem, recoverD, hu, Tryd.ntmps29, Exit.thenS]
  apply wpS_seq
  apply wpS_region
  simp [wpOpsS, go_sem, Exit.thenS]
  refine wpS_cond (t := false) (by simp [Act.eval, Array.replicate]) ?_
  simp only [Bool.false_eq_true, if_false]
  refine wpS_of_wp (wp_skip ?_)
  cases c₀
  simp_all [bodyPostS, results, Tryd.results29]
set_option maxRecDepth 20000 in
set_option maxHeartbeats 2000000 in
theorem gcatch_panicking (H : Nat) (w : World) (k : Int) {c x : Value} (hb : Ld H c x w) :
    CallsD Tryd.prog 29 #[.pointer (some ⟨H, 0, none⟩), .pointer (some ⟨H + 1, 0, none⟩)] (.panicking [{ v := .iface 35 (.int .i64 k), recovered := false }]) w fun e u' w' => e = .returned (.tuple #[]) ∧ u' = .panicking [{ v := .iface 35 (.int .i64 k), recovered := true }] ∧ Ld H (.slice none 0 0) (.int .i64 k) w' ∧ Below H w w' := by
  have hld := ld_of hb (.slice none 0 0) (.int .i64 k)
  have HL := Lib.hid (ld_drew hld.1 hld.2.1)
  clear hld
  obtain ⟨a0, b0, af, bf⟩ := hb.cells
  have hta := assert_errnoG k
  refine callsD_of_wpS Tryd.func29 rfl fun c₀ cs hu => ?_
  apply wpS_seq
  apply wpS_region
  simp [wpOpsS, go_sem, recoverD, hu, Tryd.ntmps29, Exit.thenS]
  apply wpS_seq
  apply wpS_region
  simp [wpOpsS, go_sem, Exit.thenS]
  refine wpS_cond (t := true) (by simp [Act.eval, Array.replicate]) ?_
  simp only [if_true]
  refine wpS_of_wp ?_
  simp [Array.replicate]
  go_region
  all_goals
    refine ⟨rfl, _, rfl, .tuple #[], ?_, rfl, rfl, HL.out⟩
    simp [results, Tryd.results29, go_sem]
set_option maxRecDepth 20000 in
theorem gread_results (tmps : Array Value) (w : World) (H : Nat) (c : Value) (x : Int) (h2 : tmps[2]?.getD undef = .pointer (some ⟨H, 0, none⟩)) (h3 : tmps[3]?.getD undef = .pointer (some ⟨H + 1, 0, none⟩)) (hL : Ld H c (.int .i64 x) w) :
    (results Tryd.f18 tmps).run Tryd.prog w = .ok (.tuple #[c, .int .i64 x]) w := by
  obtain ⟨a0, b0, _, _⟩ := hL.cells
  simp [results, Tryd.results18, h2, h3, asAddr, a0, b0, go_sem]
/-- Behind a return: the results are those that the boxes hold. -/
theorem gdoor_idle (tmps : Array Value) (w : World) (H : Nat) (c : Value) (x : Int) (h2 : tmps[2]?.getD undef = .pointer (some ⟨H, 0, none⟩)) (h3 : tmps[3]?.getD undef = .pointer (some ⟨H + 1, 0, none⟩))
    (hL : Ld H c (.int .i64 x) w) {R : Ending → World → Prop} (hR : R (.returned (.tuple #[c, .int .i64 x])) w) :
    bodyPostD Tryd.prog Tryd.f18 R .ret ⟨tmps, [{ target := Target.fn (Fn.func 29) #[.pointer (some ⟨H, 0, none⟩), .pointer (some ⟨H + 1, 0, none⟩)], args := #[] }]⟩ w := by
  refine leaves_cons (f := 29) (args := #[.pointer (some ⟨H, 0, none⟩), .pointer (some ⟨H + 1, 0, none⟩)]) (by simp) (by simp [go_sem]) ?_
  refine (gcatch_idle H w).mono ?_
  rintro e' u' w'' ⟨rfl, rfl, rfl⟩
  exact ⟨_, gread_results tmps w H c x h2 h3 hL, hR⟩
/-- Behind a panic of an error's number: no frames, and the error. -/
theorem gdoor_panic (tmps : Array Value) (w : World) (H : Nat) (k : Int) {c x : Value} (hB : Ld H c x w) (h2 : tmps[2]?.getD undef = .pointer (some ⟨H, 0, none⟩)) (h3 : tmps[3]?.getD undef = .pointer (some ⟨H + 1, 0, none⟩))
    {R : Ending → World → Prop} (hR : ∀ w', Below H w w' → R (.returned (.tuple #[.slice none 0 0, .int .i64 k])) w') :
    bodyPostD Tryd.prog Tryd.f18 R (.panic [{ v := .iface 35 (.int .i64 k), recovered := false }]) ⟨tmps, [{ target := Target.fn (Fn.func 29) #[.pointer (some ⟨H, 0, none⟩), .pointer (some ⟨H + 1, 0, none⟩)], args := #[] }]⟩ w := by
  refine leaves_cons (f := 29) (args := #[.pointer (some ⟨H, 0, none⟩), .pointer (some ⟨H + 1, 0, none⟩)]) (by simp) (by simp [go_sem]) ?_
  refine (gcatch_panicking H w k hB).mono ?_
  rintro e' u' w'' ⟨rfl, rfl, hL, hb⟩
  exact ⟨_, gread_results tmps w'' H _ k h2 h3 hL, hR w'' hb⟩
/-- What Read tells. -/
def GRPost (zs : List Int) (w : World) (e : Ending) (w' : World) : Prop :=
  ∃ v L n, e = .returned (.tuple #[v, .int .i64 n]) ∧ Fl w' v L ∧ Below w.heap.size w w' ∧
    ((n = 4 ∧ 1200 < zs.length ∧ L = []) ∨ (n = 3 ∧ zs.length ≤ 1200 ∧ gRead zs = none ∧ L = []) ∨ (n = 0 ∧ zs.length ≤ 1200 ∧ gRead zs = some (L.map Fe.f)))
theorem grpost_no {zs : List Int} {w w' : World} {n : Int} (h : (n = 4 ∧ 1200 < zs.length) ∨ (n = 3 ∧ zs.length ≤ 1200 ∧ gRead zs = none)) (hb : Below w.heap.size w w') : GRPost zs w (.returned (.tuple #[.slice none 0 0, .int .i64 n])) w' := by
  refine ⟨_, [], n, rfl, (Fo.nil 0 w').fl, hb, ?_⟩
  rcases h with ⟨h1, h2⟩ | ⟨h1, h2, h3⟩
  · exact .inl ⟨h1, h2, rfl⟩
  · exact .inr (.inl ⟨h1, h2, h3, rfl⟩)
set_option maxRecDepth 20000 in
set_option maxHeartbeats 4000000 in
theorem gread_any {w : World} {v : Value} {zs : List Int} (hr : Rd w v zs) (hp : Plain v) (hl : zs.length ≤ 1000000) :
    Calls Tryd.prog 18 #[v] w (GRPost zs w) := by
  obtain ⟨ao, cap, rfl⟩ := hr.shape
  have hB2 : Below w.heap.size w ((w.alloc (.cells #[.slice none 0 0] 38)).alloc (.cells #[.int .i64 0] 35)) := (below_alloc w _).alloc (by simp) _
  have hLD : Ld w.heap.size (.slice none 0 0) (.int .i64 0) ((w.alloc (.cells #[.slice none 0 0] 38)).alloc (.cells #[.int .i64 0] 35)) := ⟨(Below.heap_alloc _ _ w.heap.size (by simp)).trans (heap_alloc_new w _), heap_alloc2_newG w _ _⟩
  have hof := of_q (short := 3) (hr.below hB2) hp hl
  have HBYT := Lib.hid hr.byt
  have HB2 := Lib.hid hB2
  have HLD := Lib.hid hLD
  have HSZ : Hid (((w.alloc (.cells #[.slice none 0 0] 38)).alloc (.cells #[.int .i64 0] 35)).heap.size = w.heap.size + 2) := Lib.hid (by simp)
  obtain ⟨a0, b0, af, bf⟩ := hLD.cells
  by_cases h5 : 1200 < zs.length
  · have h5' : (1200 : Int) < (zs.length : Int) := by omega
    have HN := Lib.hid h5
    have hb4 : Below w.heap.size w ((w.alloc (.cells #[.slice none 0 0] 38)).alloc (.cells #[.int .i64 4] 35)) := (below_alloc w _).alloc (by simp) _
    have hld4 : Ld w.heap.size (.slice none 0 0) (.int .i64 4) ((w.alloc (.cells #[.slice none 0 0] 38)).alloc (.cells #[.int .i64 4] 35)) := ⟨(Below.heap_alloc _ _ w.heap.size (by simp)).trans (heap_alloc_new w _), heap_alloc2_newG w _ _⟩
    have HB4 := Lib.hid hb4
    have HLD4 := Lib.hid hld4
    clear hof hB2 hLD hr hp hb4 hld4 a0 b0 af bf h5
    go_enter_defers Tryd.func18, Tryd.ntmps18
    go_wp2_with fail
    exact ⟨_, gread_results _ _ w.heap.size _ 4 rfl rfl HLD4.out, grpost_no (.inl ⟨rfl, HN.out⟩) HB4.out⟩
  · have h5' : ¬ (1200 : Int) < (zs.length : Int) := by omega
    have HN := Lib.hid (show zs.length ≤ 1200 by omega)
    clear hB2 hLD hr hp h5 a0 b0 af bf
    go_enter_defers Tryd.func18, Tryd.ntmps18
    go_wp2_with fail
    generalize (w.alloc (.cells #[.slice none 0 0] 38)).alloc (.cells #[.int .i64 0] 35) = W0 at *
    refine hof.mono ?_
    rintro e w1 ⟨rfl, hF, rfl⟩
    clear hof
    go_wp2_with fail
    have h2 : ((W0.alloc (.cells #[.slice ao zs.length cap, .int .i64 0, .int .i64 3] 78)).alloc (.cells #[.pointer (some ⟨W0.heap.size, 0, none⟩), .int .i64 0, .int .i64 0, .slice none 0 0, .int .i64 0, .slice none 0 0, .int .i64 0] 64)).heap[W0.heap.size + 1]? = some (.cells (gCells W0.heap.size ⟨0, 0, [], 0, [], 0⟩ (.slice none 0 0) (.slice none 0 0)) 64 (0, 0)) := heap_alloc2_newG W0 _ _
    have hF2 := hF.keep (below_alloc (W0.alloc (.cells #[.slice ao zs.length cap, .int .i64 0, .int .i64 3] 78)) (.cells #[.pointer (some ⟨W0.heap.size, 0, none⟩), .int .i64 0, .int .i64 0, .slice none 0 0, .int .i64 0, .slice none 0 0, .int .i64 0] 64))
    have hsz2 : W0.heap.size + 1 < ((W0.alloc (.cells #[.slice ao zs.length cap, .int .i64 0, .int .i64 3] 78)).alloc (.cells #[.pointer (some ⟨W0.heap.size, 0, none⟩), .int .i64 0, .int .i64 0, .slice none 0 0, .int .i64 0, .slice none 0 0, .int .i64 0] 64)).heap.size := by simp
    clear hF
    generalize (W0.alloc (.cells #[.slice ao zs.length cap, .int .i64 0, .int .i64 3] 78)).alloc (.cells #[.pointer (some ⟨W0.heap.size, 0, none⟩), .int .i64 0, .int .i64 0, .slice none 0 0, .int .i64 0, .slice none 0 0, .int .i64 0] 64) = w2 at *
    have hc := frames_any hF2 h2 HBYT.out HN.out ⟨Nat.le_refl _, Nat.lt_succ_self _⟩
    have HBL := Lib.hid hF2.bel
    clear h2 hF2
    have HK : Hid (∀ w3, Kq (W0.heap.size + 1) W0.heap.size w2 w3 → Ld w.heap.size (.slice none 0 0) (.int .i64 0) w3 ∧ Below w.heap.size w w3) := Lib.hid fun w3 hk => by
      have hsz := HSZ.out
      have hb := HBL.out
      have hs2 := hb.size
      refine ⟨(HLD.out.keep (hb.block _ (by omega)) (hb.block _ (by omega))).keep (hk.block _ (by omega) (by omega) (by omega)) (hk.block _ (by omega) (by omega) (by omega)), ?_⟩
      exact (HB2.out.trans (hb.mono (by omega))).trans ⟨hk.os, hk.tape, hk.output, hk.size, fun k hk1 => hk.block k (by omega) (by omega) (by omega)⟩
    refine hc.mono ?_
    rintro e w3 (⟨he, hk, hno⟩ | ⟨fv, L, rfl, hyes, hfo, hk⟩)
    · have hk2 := HK.out w3 hk
      have HK2 := Lib.hid hk2
      have HNO := Lib.hid hno
      rw [errPanic] at he
      subst he
      clear hno hk hk2 hc
      go_wp2_with fail
      exact gdoor_panic _ _ w.heap.size 3 HK2.out.1 rfl rfl fun w' hb => grpost_no (.inr ⟨rfl, HN.out, HNO.out⟩) (HK2.out.2.trans hb)
    · have hk2 := HK.out w3 hk
      obtain ⟨a0, b0, af, bf⟩ := hk2.1.cells
      obtain ⟨fa, fc, rfl⟩ := hfo.shape
      have hld := ld_of hk2.1 (.slice fa L.length fc) (.int .i64 0)
      have hfo2 := hfo.keep (w' := (w3.setCell ⟨w.heap.size, 0, none⟩ (.slice fa L.length fc)).setCell ⟨w.heap.size + 1, 0, none⟩ (.int .i64 0)) fun k hk1 hk3 => hld.2.2 k hk1 (by have := HSZ.out; have := hsz2; omega) (by have := HSZ.out; have := hsz2; omega)
      have HLD2 := Lib.hid hld
      have HFO := Lib.hid hfo2
      have HBB := Lib.hid hk2.2
      have HY := Lib.hid hyes
      clear hk hk2 hfo hfo2 hld hyes hc
      go_wp2_with fail
      exact gdoor_idle _ _ w.heap.size _ 0 rfl rfl HLD2.out.1 ⟨_, L, 0, rfl, HFO.out.fl, HBB.out.trans HLD2.out.2.1, .inr (.inr ⟨rfl, HN.out, HY.out⟩)⟩
#print axioms gread_any
end Go.Proofs.YtgcgmgcgbnepeaaDoor
