/- A mind that knows nothing; a mind told a list; what can be made of a list. -/
import Derived.Test.YtepkhhpdpmhfaaaDoorZTMgE
import Derived.Test.YtepkhhpdpmhfaaaDoorZTMgR
namespace Go.Proofs.YtepkhhpdpmhfaaaDoor.T
open Go Go.RowKit Go.Shelf
attribute [local go_sem] Oper.semAt_some
theorem run_store_fn {P : Program} {w : World} {a : Addr} {m : Mode} (fn : Fn) (first captured : Array Value) : (store a (.func fn first captured) m).run P w = stored P w a (.func fn first captured) m := run_store P w a _ m rfl
attribute [local go_sem] run_store_fn
theorem callsIn_world {F : Fence} {n : Nat} {P : Program} {f : FuncId} {xs : Array Value} {Q : Ending → World → Prop} {W : World} (C : World → Prop) (hC : C W) (h : ∀ W', C W' → CallsIn F n P f xs W' Q) : CallsIn F n P f xs W Q := h W hC
/-- The frame of Can: the mind's pointer, the map, its box, the closure's. -/
structure Cf (c : Fx) (w W : World) : Prop where
  size : W.heap.size = w.heap.size + 4
  b : Below w.heap.size w W
  e0 : W.heap[w.heap.size]? = some (.cells #[.pointer (some ⟨c.M, 0, none⟩)] 66 (0, 0))
  e1 : W.heap[w.heap.size + 1]? = some (.map #[] 0)
  e2 : W.heap[w.heap.size + 2]? = some (.cells #[.map (some (w.heap.size + 1))] 85 (0, 0))
  e3 : W.heap[w.heap.size + 3]? = some (.cells #[.func (.func 40) #[] #[.pointer (some ⟨w.heap.size + 2, 0, none⟩), .pointer (some ⟨w.heap.size, 0, none⟩)]] 68 (0, 0))
theorem Cf.made (c : Fx) (w : World) : Cf c w ((((w.alloc (.cells #[.pointer (some ⟨c.M, 0, none⟩)] 66)).alloc (.map #[] 0)).alloc (.cells #[.map (some (w.heap.size + 1))] 85)).alloc
    (.cells #[.func (.func 40) #[] #[.pointer (some ⟨w.heap.size + 2, 0, none⟩), .pointer (some ⟨w.heap.size, 0, none⟩)]] 68)) where
  size := by simp
  b := (((below_alloc _ _).trans ((below_alloc _ _).mono (by simp))).trans ((below_alloc _ _).mono (by simp; omega))).trans ((below_alloc _ _).mono (by simp; omega))
  e0 := by rw [(below_alloc _ _).block _ (by simp; omega), (below_alloc _ _).block _ (by simp; omega), (below_alloc _ _).block _ (by simp)]; exact heap_alloc_new w _
  e1 := by rw [(below_alloc _ _).block _ (by simp), (below_alloc _ _).block _ (by simp)]; exact heap_alloc2_new w _ _
  e2 := by
    rw [(below_alloc _ _).block _ (by simp)]
    have := heap_alloc2_new (w.alloc (.cells #[.pointer (some ⟨c.M, 0, none⟩)] 66)) (.map #[] 0) (.cells #[.map (some (w.heap.size + 1))] 85)
    simpa using this
  e3 := by
    have := heap_alloc2_new ((w.alloc (.cells #[.pointer (some ⟨c.M, 0, none⟩)] 66)).alloc (.map #[] 0)) (.cells #[.map (some (w.heap.size + 1))] 85) (.cells #[.func (.func 40) #[] #[.pointer (some ⟨w.heap.size + 2, 0, none⟩), .pointer (some ⟨w.heap.size, 0, none⟩)]] 68)
    simpa using this
/-- .. with what the loop over the term's parts has beside it. -/
structure Cg (c : Fx) (w : World) (x : Int) (X : Obj) (W : World) : Prop where
  size : W.heap.size = w.heap.size + 8
  b : Below w.heap.size w W
  e0 : W.heap[w.heap.size]? = some (.cells #[.pointer (some ⟨c.M, 0, none⟩)] 66 (0, 0))
  e1 : W.heap[w.heap.size + 1]? = some (.map #[] 0)
  e2 : W.heap[w.heap.size + 2]? = some (.cells #[.map (some (w.heap.size + 1))] 85 (0, 0))
  e3 : W.heap[w.heap.size + 3]? = some (.cells #[.func (.func 40) #[] #[.pointer (some ⟨w.heap.size + 2, 0, none⟩), .pointer (some ⟨w.heap.size, 0, none⟩)]] 68 (0, 0))
  e4 : W.heap[w.heap.size + 4]? = some (.cells #[.pointer (some ⟨c.M, 0, none⟩)] 66 (0, 0))
  e5 : W.heap[w.heap.size + 5]? = some (.cells #[.int .i64 x] 27 (0, 0))
  e6 : W.heap[w.heap.size + 6]? = some (.deferred (some []))
  e7 : W.heap[w.heap.size + 7]? = some X
theorem Cf.more {c : Fx} {w W : World} (h : Cf c w W) (x : Int) (X : Obj) : Cg c w x X ((((W.alloc (.cells #[.pointer (some ⟨c.M, 0, none⟩)] 66)).alloc (.cells #[.int .i64 x] 27)).alloc (.deferred (some []))).alloc X) := by
  have hs := h.size
  have hb : Below W.heap.size W ((((W.alloc (.cells #[.pointer (some ⟨c.M, 0, none⟩)] 66)).alloc (.cells #[.int .i64 x] 27)).alloc (.deferred (some []))).alloc X) :=
    (((below_alloc _ _).trans ((below_alloc _ _).mono (by simp))).trans ((below_alloc _ _).mono (by simp; omega))).trans ((below_alloc _ _).mono (by simp; omega))
  exact
  { size := by simp [hs]
    b := h.b.trans (hb.mono h.b.size)
    e0 := by rw [hb.block _ (by omega)]; exact h.e0
    e1 := by rw [hb.block _ (by omega)]; exact h.e1
    e2 := by rw [hb.block _ (by omega)]; exact h.e2
    e3 := by rw [hb.block _ (by omega)]; exact h.e3
    e4 := by
      rw [(below_alloc _ _).block _ (by simp; omega), (below_alloc _ _).block _ (by simp; omega), (below_alloc _ _).block _ (by simp; omega)]
      have := heap_alloc_new W (.cells #[.pointer (some ⟨c.M, 0, none⟩)] 66)
      rwa [hs] at this
    e5 := by
      rw [(below_alloc _ _).block _ (by simp; omega), (below_alloc _ _).block _ (by simp; omega)]
      have := heap_alloc2_new W (.cells #[.pointer (some ⟨c.M, 0, none⟩)] 66) (.cells #[.int .i64 x] 27)
      rwa [hs] at this
    e6 := by
      rw [(below_alloc _ _).block _ (by simp; omega)]
      have := heap_alloc2_new (W.alloc (.cells #[.pointer (some ⟨c.M, 0, none⟩)] 66)) (.cells #[.int .i64 x] 27) (.deferred (some []))
      simpa [hs] using this
    e7 := by
      have := heap_alloc2_new ((W.alloc (.cells #[.pointer (some ⟨c.M, 0, none⟩)] 66)).alloc (.cells #[.int .i64 x] 27)) (.deferred (some [])) X
      simpa [hs] using this }
theorem can_out {R : Ending → World → Prop} {tmps : Array Value} {W : World} {D : Nat} (hd : W.heap[D]? = some (.deferred (some []))) (hR : R (.returned (tmps.getD 4 undef)) (W.putObj D (.deferred none))) :
    LeavesInM Fence.wide 8 Tryd.prog Tryd.f26 tmps R [{ target := .collected D, args := #[] }] .returning W :=
  ⟨by simp, .inl ⟨_, _, rfl, run_takeDeferred hd, _, results_tmp (t := 4) rfl _ _ _, hR⟩⟩
/-- What holds between two rounds. -/
def Jc (N : List Nd) (S : MS) (O : Nat) (W Ws : World) (qs : List Int) (W' : World) : Prop := Below W.heap.size W Ws ∧ OwnM W' O (qs.foldl (ownStep N S) (fun _ => false)) ∧ Stp (fun k => k = O) Ws (fun k => k = O) W'
set_option maxHeartbeats 8000000 in
set_option maxRecDepth 20000 in
theorem canm_any {c : Fx} {N : List Nd} {w : World} {F : Nat → Prop} {r : Nat → Int → Option Value} {S : MS} (h : Mnd c w F r S) (hT : Tp w F c.tp N) (hN : Wf N) {x : Int} (hw : (Lit.int .i64 x).wf = true) :
    Calls Tryd.prog 26 #[.pointer (some ⟨c.M, 0, none⟩), .int .i64 x] w fun e w' => ∃ l, Bel N S.st x l ∧ e = .returned (.bool (ownF N S l x || canP S x)) ∧ Below w.heap.size w w' := by
  refine callsIn_wide.1 (callsIn_of_wp_marks (n := 8) (F := Fence.wide) Tryd.func26 rfl trivial ?_ rfl)
  have hmm := @run_makeMap Tryd.prog
  have hF39 : Fence.wide.fn 43 := trivial
  have hF36 : Fence.wide.fn 40 := trivial
  have hF38 : Fence.wide.fn 42 := trivial
  simp only [Tryd.ntmps26, List.size_toArray, List.length_cons, List.length_nil, Nat.reduceAdd, Nat.reduceSub, Array.replicate_succ, Array.replicate_zero, List.push_toArray, List.append_toArray, List.nil_append, List.cons_append]
  gi_wp2
  refine callsIn_world (Cf c w) (Cf.made c w) (fun W3 hf => ?_)
  refine (callsIn_wide.2 below_any).mono ?_
  rintro e w' ⟨rfl, rfl⟩
  gi_wp2
  refine wpIn_wide.2 (range_open rfl (enters_of Tryd.func53 (by kernel_rfl) rfl) fun fn => ?_)
  have hsz := hf.size
  have hz2 : ((W3.alloc (.cells #[.pointer (some ⟨c.M, 0, none⟩)] 66)).alloc (.cells #[.int .i64 x] 27)).heap.size = w.heap.size + 6 := by simp [hsz]
  rw [hz2, hsz]
  have HG := fun X => hf.more x X
  have hM := blk_lt h.cell
  have hFl := h.lt
  refine (callsIn_wide.1 (below_in (c := c) (F := F) (r := r) (n := 8) (hb := w.heap.size + 4 + 1) (mb := w.heap.size + 4) (h.below (HG _).b) (hT.step (.below (HG _).b)) hN hw (by decide) (cell_row0 (HG _).e5) (cell_row0 (HG _).e4)
    (Jc N S (w.heap.size + 1) _) (fun Ws hWs => ⟨hWs, ?hown, .refl _ _⟩) (fun Ws qs W' hJ k h1 h2 => ?_) ?hY)).mono ?post
  case hown =>
    have hmade := MapG.made (w.alloc (.cells #[.pointer (some ⟨c.M, 0, none⟩)] 66))
    have hss : (w.alloc (.cells #[.pointer (some ⟨c.M, 0, none⟩)] 66)).heap.size = w.heap.size + 1 := by simp
    rw [hss] at hmade
    refine (hmade.keep ?_).congr fun k => by simp
    have h3 := heap_alloc_new (w.alloc (.cells #[.pointer (some ⟨c.M, 0, none⟩)] 66)) (.map #[] 0)
    rw [hss] at h3
    rw [h3, hWs.block _ (by rw [(HG _).size]; omega)]
    exact (HG _).e1
  · obtain ⟨_, _, hst⟩ := hJ
    rw [(HG _).size] at h1
    exact hst.block k h2 (fun e => by omega)
  case hY =>
    intro Ws lq qs x' s a cp W1 hBel hpre hJ hpr
    obtain ⟨hbW, hom, hst⟩ := hJ
    have hs1 := hbW.size
    rw [(HG _).size] at hs1 hpr
    have hWs : ∀ k, w.heap.size ≤ k → k < Ws.heap.size → k ≠ w.heap.size + 1 → W1.heap[k]? = Ws.heap[k]? := fun k h1 h2 h3 => hst.block k h2 h3
    have hold : ∀ k, w.heap.size ≤ k → k < w.heap.size + 8 → k ≠ w.heap.size + 1 → W1.heap[k]? = _ := fun k h1 h2 h3 => (hWs k h1 (by omega) h3).trans (hbW.block k (by rw [(HG _).size]; omega))
    have hrec := (hold (w.heap.size + 7) (by omega) (by omega) (by omega)).trans (HG _).e7
    have hb0 := (hold w.heap.size (by omega) (by omega) (by omega)).trans (HG _).e0
    have hb2 := (hold (w.heap.size + 2) (by omega) (by omega) (by omega)).trans (HG _).e2
    have hb3 := (hold (w.heap.size + 3) (by omega) (by omega) (by omega)).trans (HG _).e3
    have hbw1 : Below w.heap.size w W1 := ((HG _).b.trans (hbW.mono (by rw [(HG _).size]; omega))).trans (hst.toBelow (B := w.heap.size) (by omega) (fun k hk => by omega))
    have hin := hBel.inn x' (hpre.subset (by simp))
    have hpw : W1.ownsRow (w.heap.size + 8) 27 1 (.slice a (partsN N x').length cp) (partsN N x').length (cs .i64 (partsN N x')) := own_keep hpr fun k hk => hWs k (by have := (hpr.lt k hk).1; omega) (hpr.lt k hk).2 (by have := (hpr.lt k hk).1; omega)
    have hfar : ∀ k, (Value.slice a (partsN N x').length cp).ownBlock = some k → w.heap.size + 8 ≤ k ∧ k < W1.heap.size := fun k hk => ⟨(hpr.lt k hk).1, (hpw.lt k hk).2⟩
    have HOM := Lib.hid hom
    have HST := Lib.hid hst
    have HBW := Lib.hid hbW
    have HPW := Lib.hid hpw
    have HFAR := Lib.hid hfar
    have HIN := Lib.hid hin
    have HREC := Lib.hid hrec
    have HX := Lib.hid (And.intro hb0 (And.intro hb2 hb3))
    have HS1 := Lib.hid hs1
    have HB1 := Lib.hid hbw1
    have HH := Lib.hid h
    refine yield_open hrec rfl ?_
    clear hom hst hbW hpw hfar hin hrec hb0 hb2 hb3 hs1 hbw1 hpr hBel hpre hWs hold hf HG h
    gi_wp2
    refine ⟨row_keep (below_alloc W1 _) HREC.out, ?_⟩
    have hl1 := blk_lt HREC.out
    refine wpIn_world (fun Wd => Wd = (W1.alloc (.cells #[.int .i64 (kindN N x'), .string s, .slice a (partsN N x').length cp] 54)).putObj (w.heap.size + 6 + 1) _) rfl ?_
    intro Wd hWd
    have hkd : ∀ k, k < W1.heap.size → k ≠ w.heap.size + 7 → Wd.heap[k]? = W1.heap[k]? := fun k h1 h2 => by rw [hWd, World.putObj_heap_other (by omega), (below_alloc W1 _).block k h1]
    have hnd : Wd.heap[W1.heap.size]? = some (.cells #[.int .i64 (kindN N x'), .string s, .slice a (partsN N x').length cp] 54 (0, 0)) := by
      rw [hWd, World.putObj_heap_other (by omega)]; exact heap_alloc_new W1 _
    have hbusy : ∃ X, Wd.heap[w.heap.size + 7]? = some (.loop X) := by rw [hWd]; exact ⟨_, World.putObj_heap_same (by simp; omega)⟩
    have hszd : Wd.heap.size = W1.heap.size + 1 := by rw [hWd]; simp
    have hbd : Below w.heap.size w Wd := by
      have h1 := HB1.out
      refine ⟨?_, ?_, ?_, by have := h1.size; omega, fun k hk => (hkd k (by have := h1.size; omega) (by omega)).trans (h1.block k hk)⟩
      · rw [hWd]; exact h1.os
      · rw [hWd]; exact h1.tape
      · rw [hWd]; exact h1.output
    have hmd := HH.out.below hbd
    have homd : OwnM Wd (w.heap.size + 1) _ := HOM.out.keep (hkd _ (by omega) (by omega))
    have k0 := cell_row0 ((hkd _ (by omega) (by omega)).trans HX.out.1)
    have k2 := cell_row0 ((hkd _ (by omega) (by omega)).trans HX.out.2.1)
    have k3 := cell_row0 ((hkd _ (by omega) (by omega)).trans HX.out.2.2)
    have n0 : Wd.cell? ⟨W1.heap.size, 0, none⟩ = some (.int .i64 (kindN N x')) := by unfold World.cell?; rw [hnd]; rfl
    have n1 : Wd.cell? ⟨W1.heap.size, 1, none⟩ = some (.string s) := by unfold World.cell?; rw [hnd]; rfl
    have n2 : Wd.cell? ⟨W1.heap.size, 2, none⟩ = some (.slice a (partsN N x').length cp) := by unfold World.cell?; rw [hnd]; rfl
    have hrd : Rd .i64 Wd (.slice a (partsN N x').length cp) (partsN N x') := (Rd.of_own (own_keep HPW.out fun k hk => hkd k (HFAR.out k hk).2 (by have := (HFAR.out k hk).1; omega))).1
    have hoF : partsN N x' ≠ [] → OutF F (.slice a (partsN N x').length cp) := fun hz ad m cq e hF => by
      have hob : (Value.slice a (partsN N x').length cp).ownBlock = some ad.block := by
        rcases HPW.out.2 with ⟨e2, _⟩ | ⟨g2, cap2, cur, e2, _⟩
        · rw [e2] at e; cases e
        · rw [e2] at e; cases e; rw [e2]; rfl
      have h1 := (HFAR.out _ hob).1
      have h2 := hFl _ hF
      omega
    have hlow := hN.low x' HIN.out.1 HIN.out.2.1
    have hlk := callsIn_wide (n := 8 - 1 - 1).2 (lacks_c hmd (cn := fun y => qs.foldl (ownStep N S) (fun _ => false) y || canP S y) (o1 := w.heap.size + 2) (o2 := w.heap.size)
      (fun W hW y hy => can_c (hmd.below hW) (homd.keep (hW.block _ homd.lt)) (keepS hW k2) (keepS hW k0) hy) (x := x') (k := kindN N x') (s := s) hrd hoF
      (fun y hy => by have := hlow y hy; exact wfT this.1 (by have := hN.few; have := HIN.out.2.1; omega)) (fun e => (hN.two x' e).1) (hN.sixteen x'))
    have hfold : (qs ++ [x']).foldl (ownStep N S) (fun _ => false) = if lackP S (fun y => qs.foldl (ownStep N S) (fun _ => false) y || canP S y) x' (kindN N x') (partsN N x') = [] then up (qs.foldl (ownStep N S) (fun _ => false)) x' true else qs.foldl (ownStep N S) (fun _ => false) := by
      rw [List.foldl_append]; rfl
    generalize lackP S (fun y => qs.foldl (ownStep N S) (fun _ => false) y || canP S y) x' (kindN N x') (partsN N x') = L at *
    have k1 : Wd.cell? ⟨w.heap.size + 1 + 1, 0, none⟩ = some (.map (some (w.heap.size + 1))) := k2
    have HWD := Lib.hid hWd
    have HBY := Lib.hid hbusy
    have HSZ := Lib.hid hszd
    have HOD := Lib.hid homd
    have HF := Lib.hid hfold
    have HK1 := Lib.hid k1
    clear hbusy hkd hnd hbd hmd homd hrd hoF hlow hfold hWd hszd
    by_cases hL : L = []
    · rw [hL] at hlk
      gi_wp2_with (first
        | (gi_at_call 43
           refine (CallsIn.inRound _ hlk).mono ?_
           rintro e w6 ⟨v, rfl, hrd6, ho6, hb6⟩
           obtain ⟨va, vc, rfl⟩ : ∃ va vc, v = .slice va 0 vc := by obtain ⟨a, c, e, _⟩ := hrd6; exact ⟨a, c, e⟩
           have HB6 := Lib.hid hb6
           have k1b := keepS hb6 HK1.out
           clear hrd6 ho6 hb6 hlk)
        | (gi_at_mapUpdate
           refine wpListIn_updG rfl _ _ _ 85 86 rfl Tryd.underlying85 (HOD.out.keep (HB6.out.block _ HOD.out.lt)) HIN.out.1 (by have := HIN.out.2.1; have := hN.few; omega) (.agg #[]) rfl rfl rfl ?_
           intro w7 hm7 hg7
           have HM7 := Lib.hid hm7
           have HG7 := Lib.hid hg7
           clear hm7 hg7))
      have hp2 : Stp (fun k => k = w.heap.size + 1) Wd (fun k => k = w.heap.size + 1) w7 := (Stp.below HB6.out).trans (Stp.of_grown HG7.out (fun g e => by cases e; rfl) (fun k hk => .inl hk))
      have hby : Wd.heap[w.heap.size + 6 + 1]? = _ := (congrArg (fun W : World => W.heap[w.heap.size + 6 + 1]?) HWD.out).trans (World.putObj_heap_same (by simp; omega))
      have hby7 := (hp2.block (w.heap.size + 6 + 1) (by have := HSZ.out; omega) (by omega)).trans hby
      rw [HWD.out] at hp2
      refine ⟨hby7, rfl, HBW.out, ?_, HST.out.trans (stp_round HREC.out (by omega) hp2)⟩
      rw [HF.out, if_pos hL]
      refine MapG.keep (MapG.congr HM7.out fun k => ?_) (World.putObj_heap_other (by omega))
      by_cases e : k = x'
      · subst e; rw [if_pos rfl, up_same, if_pos rfl]
      · rw [if_neg e, up_other _ _ e]
    · have hz : ((L.length : Int) == 0) = false := by
        have : L.length ≠ 0 := fun e => hL (List.length_eq_zero_iff.1 e)
        have h1 : (L.length : Int) ≠ 0 := by omega
        simpa using h1
      gi_wp2_with (gi_at_call 43; refine (CallsIn.inRound _ hlk).mono ?_; rintro e w6 ⟨v, rfl, hrd6, ho6, hb6⟩; obtain ⟨va, vc, rfl⟩ : ∃ va vc, v = .slice va L.length vc := (by obtain ⟨a, c, e, _⟩ := hrd6; exact ⟨a, c, e⟩); have HB6 := Lib.hid hb6; clear hrd6 ho6 hb6 hlk)
      have hp2 : Stp (fun k => k = w.heap.size + 1) Wd (fun k => k = w.heap.size + 1) w6 := Stp.below HB6.out
      have hby : Wd.heap[w.heap.size + 6 + 1]? = _ := (congrArg (fun W : World => W.heap[w.heap.size + 6 + 1]?) HWD.out).trans (World.putObj_heap_same (by simp; omega))
      have hby7 := (hp2.block (w.heap.size + 6 + 1) (by have := HSZ.out; omega) (by omega)).trans hby
      have hom6 : OwnM w6 (w.heap.size + 1) _ := HOD.out.keep (HB6.out.block _ HOD.out.lt)
      rw [HWD.out] at hp2
      refine ⟨hby7, rfl, HBW.out, ?_, HST.out.trans (stp_round HREC.out (by omega) hp2)⟩
      rw [HF.out, if_neg hL]
      exact MapG.keep hom6 (World.putObj_heap_other (by omega))
  case post =>
    rintro e W ⟨he, Ws, l, hBel, hbW, hom, hst⟩
    have hs1 := hbW.size
    rw [(HG _).size] at hs1
    have hold : ∀ k, w.heap.size ≤ k → k < w.heap.size + 8 → k ≠ w.heap.size + 1 → W.heap[k]? = _ := fun k h1 h2 h3 => (hst.block k (by omega) h3).trans (hbW.block k (by rw [(HG _).size]; omega))
    have hrec := (hold (w.heap.size + 7) (by omega) (by omega) (by omega)).trans (HG _).e7
    have hb0 := (hold w.heap.size (by omega) (by omega) (by omega)).trans (HG _).e0
    have hb2 := (hold (w.heap.size + 2) (by omega) (by omega) (by omega)).trans (HG _).e2
    have hb3 := (hold (w.heap.size + 3) (by omega) (by omega) (by omega)).trans (HG _).e3
    have hb6 := (hold (w.heap.size + 6) (by omega) (by omega) (by omega)).trans (HG _).e6
    have hbw1 : Below w.heap.size w W := ((HG _).b.trans (hbW.mono (by rw [(HG _).size]; omega))).trans (hst.toBelow (B := w.heap.size) (by omega) (fun k hk => by omega))
    refine ⟨he, .inl ⟨hrec, fun o => ?_⟩⟩
    have hne : ∀ k, k ≠ w.heap.size + 7 → (W.putObj (w.heap.size + 6 + 1) o).heap[k]? = W.heap[k]? := fun k hk => World.putObj_heap_other (by omega)
    have hbw2 : Below w.heap.size w (W.putObj (w.heap.size + 6 + 1) o) := ⟨hbw1.os, hbw1.tape, hbw1.output, by have := hbw1.size; simpa using this, fun k hk => (hne k (by omega)).trans (hbw1.block k hk)⟩
    have hm2 := h.below hbw2
    have ho2 : OwnM (W.putObj (w.heap.size + 6 + 1) o) (w.heap.size + 1) _ := hom.keep (hne _ (by omega))
    have k0 := cell_row0 ((hne _ (by omega)).trans hb0)
    have k2 := cell_row0 ((hne _ (by omega)).trans hb2)
    have k3 := cell_row0 ((hne _ (by omega)).trans hb3)
    have hd6 := (hne _ (by omega)).trans hb6
    have hcan := can_c hm2 ho2 k2 k0 hw
    show Exit.inBlock 0 _ Exit.normal _ (W.putObj (w.heap.size + 6 + 1) o)
    generalize W.putObj (w.heap.size + 6 + 1) o = W2 at *
    have HD := Lib.hid hd6
    have HB := Lib.hid hbw2
    have HBEL := Lib.hid hBel
    have k3' : W2.cell? ⟨w.heap.size + 1 + 1 + 1, 0, none⟩ = _ := k3
    clear hd6 hbw2 hBel hm2 ho2 hbw1 hrec hb0 hb2 hb3 hb6 hold hs1 hst hom hbW HG hf h hT hN hne
    simp only [Exit.inBlock, Exit.then]
    refine ‹∀ (a : Act) (w : World), Code.wpIn Fence.wide 8 Tryd.prog _ _ a w → _› _ _ ?_
    refine wpIn_wide.2 ?_
    dsimp only [marked]
    change Calls _ _ _ _ (fun e w' => e = .returned (.bool (ownF N S l x || canP S x)) ∧ _) at hcan
    generalize hres : (ownF N S l x || canP S x) = res at *
    go_wp2_with (go_at_call 40; refine hcan.mono ?_; rintro e w3 ⟨rfl, hb3⟩; have HB3 := Lib.hid hb3; clear hb3)
    have hd3 := (HB3.out.block (w.heap.size + 6) (blk_lt HD.out)).trans HD.out
    refine can_out hd3 ⟨l, HBEL.out, by rw [hres]; rfl, ?_⟩
    have h3 := HB.out.trans (HB3.out.mono HB.out.size)
    exact ⟨h3.os, h3.tape, h3.output, by have := h3.size; simpa using this, fun k hk => by rw [World.putObj_heap_other (by omega)]; exact h3.block k hk⟩
set_option maxRecDepth 20000 in
theorem canm_nil {w : World} {x : Int} : Calls Tryd.prog 26 #[.pointer none, .int .i64 x] w fun e w' => e = .returned (.bool false) ∧ Below w.heap.size w w' := by
  have bb := below_alloc w (.cells #[.pointer none] 66)
  go_enter Tryd.func26, Tryd.ntmps26
  go_wp2_with fail
  go_ret
  exact ⟨rfl, bb⟩
#print axioms canm_any
end Go.Proofs.YtepkhhpdpmhfaaaDoor.T
namespace Go.Proofs.YtepkhhpdpmhfaaaDoor.T
open Go Go.RowKit

theorem Mi.zero {N : List Nd} : Mi N (fun _ => False) MS.none (fun _ => 0) where
  news := rfl
  inr := ⟨fun _ h => absurd rfl h, fun _ => ⟨Int.le_refl _, by show (0 : Int) ≤ 3; decide⟩, fun _ h => (by cases h), fun _ _ h => (by cases h), fun _ _ h => (by cases h), fun _ h => (by cases h)⟩
  cn := by
    have hz : ∀ h, cT N.length MS.none.waits h = 0 := fun h => by
      have := sumN_le (n := N.length) (k := 0) (f := fun y => (MS.none.waits y).count h) fun y _ _ => by simp [MS.none]
      unfold cT; omega
    exact ⟨⟨fun y => (by simp [MS.none, rr]), fun y h hh => (by cases hh), fun h _ => hz h⟩, fun h _ => (by rw [hz]; omega), fun h _ => (by rw [hz]; exact Nat.zero_le _), fun y => (by simp [MS.none])⟩
  inv := ⟨fun h e => absurd (show (0 : Int) = 3 from e) (by decide), fun k e => absurd (show (2 : Int) ≤ 0 from e) (by decide), fun x e => absurd (show (0 : Int) = 1 from e) (by decide), fun x e => absurd (show (0 : Int) = 1 from e) (by decide)⟩
  snd := ⟨fun h e => absurd (show (0 : Int) = 3 from e) (by decide), fun h e => absurd (show (2 : Int) ≤ 0 from e) (by decide), fun a e => (by cases e), fun k u e => (by cases e)⟩
  told := fun _ h => h.elim
def fx0 (B : Nat) (tp : Value) : Fx := ⟨B + 4, B, B + 1, B + 2, B + 3, tp, 0, 0⟩
theorem Mnd.made (w : World) (tp : Value) : Mnd (fx0 w.heap.size tp) (((((w.alloc (.map #[] 0)).alloc (.map #[] 0)).alloc (.map #[] 0)).alloc (.map #[] 0)).alloc (.cells #[tp, .map (some w.heap.size), .map (some (w.heap.size + 1)), .map (some (w.heap.size + 2)), .map (some (w.heap.size + 3))] 106))
    (fun k => w.heap.size ≤ k ∧ k < w.heap.size + 4) (fun _ _ => none) MS.none := by
  have e0 := heap_alloc_new w (.map #[] 0)
  have e1 := heap_alloc2_new w (.map #[] 0) (.map #[] 0)
  have e2 := heap_alloc2_new (w.alloc (.map #[] 0)) (.map #[] 0) (.map #[] 0)
  have e3 := heap_alloc2_new ((w.alloc (.map #[] 0)).alloc (.map #[] 0)) (.map #[] 0) (.map #[] 0)
  have e4 := heap_alloc2_new (((w.alloc (.map #[] 0)).alloc (.map #[] 0)).alloc (.map #[] 0)) (.map #[] 0) (.cells #[tp, .map (some w.heap.size), .map (some (w.heap.size + 1)), .map (some (w.heap.size + 2)), .map (some (w.heap.size + 3))] 106)
  have hmap : ∀ (W : World) (k : Nat), W.heap[k]? = some (.map #[] 0) → MapG W k (fun _ => none) := fun W k hk => by
    have hm := MapG.made { w with heap := (Array.range k).map fun _ => Obj.map #[] 0 }
    have hs : ({ w with heap := (Array.range k).map fun _ => Obj.map #[] 0 } : World).heap.size = k := by simp
    rw [hs] at hm
    refine hm.keep ?_
    have h2 := heap_alloc_new { w with heap := (Array.range k).map fun _ => Obj.map #[] 0 } (.map #[] 0)
    rw [hs] at h2
    rw [hk, h2]
  simp only [World.size_alloc] at e2 e3 e4
  generalize hW : ((((w.alloc (.map #[] 0)).alloc (.map #[] 0)).alloc (.map #[] 0)).alloc (.map #[] 0)).alloc (.cells #[tp, .map (some w.heap.size), .map (some (w.heap.size + 1)), .map (some (w.heap.size + 2)), .map (some (w.heap.size + 3))] 106) = W at *
  have hsz : W.heap.size = w.heap.size + 5 := by rw [← hW]; simp
  have k0 : W.heap[w.heap.size]? = some (.map #[] 0) := by
    rw [← hW, (below_alloc _ _).block _ (by simp <;> omega), (below_alloc _ _).block _ (by simp <;> omega), (below_alloc _ _).block _ (by simp <;> omega), (below_alloc _ _).block _ (by simp)]; exact e0
  have k1 : W.heap[w.heap.size + 1]? = some (.map #[] 0) := by
    rw [← hW, (below_alloc _ _).block _ (by simp <;> omega), (below_alloc _ _).block _ (by simp <;> omega), (below_alloc _ _).block _ (by simp)]; exact e1
  have k2 : W.heap[w.heap.size + 2]? = some (.map #[] 0) := by
    rw [← hW, (below_alloc _ _).block _ (by simp <;> omega), (below_alloc _ _).block _ (by simp)]; exact e2
  have k3 : W.heap[w.heap.size + 3]? = some (.map #[] 0) := by
    rw [← hW, (below_alloc _ _).block _ (by simp)]; exact e3
  exact
  { lt := fun k hk => by omega
    cell := e4
    out := fun e => by have e' : w.heap.size ≤ w.heap.size + 4 ∧ w.heap.size + 4 < w.heap.size + 4 := e; omega
    f1 := ⟨Nat.le_refl _, by show w.heap.size < _; omega⟩, f2 := ⟨by show _ ≤ w.heap.size + 1; omega, by show w.heap.size + 1 < _; omega⟩, f3 := ⟨by show _ ≤ w.heap.size + 2; omega, by show w.heap.size + 2 < _; omega⟩, f4 := ⟨by show _ ≤ w.heap.size + 3; omega, by show w.heap.size + 3 < _; omega⟩
    ne := by
      show w.heap.size ≠ w.heap.size + 1 ∧ w.heap.size ≠ w.heap.size + 2 ∧ w.heap.size ≠ w.heap.size + 3 ∧ w.heap.size + 1 ≠ w.heap.size + 2 ∧ w.heap.size + 1 ≠ w.heap.size + 3 ∧ w.heap.size + 2 ≠ w.heap.size + 3
      omega
    states := (hmap W _ k0).congr fun k => rfl
    shown := (hmap W _ k1).congr fun k => rfl
    shut := (hmap W _ k2).congr fun k => rfl
    waits := (hmap W _ k3).congr fun k => rfl
    rows := fun b k => by
      have : lst MS.none b k = [] := by unfold lst; split <;> (try split) <;> (try split) <;> rfl
      rw [this]
      exact RowF.nil _ _
    apart := fun b k b' k' g h => by cases h }
set_option maxHeartbeats 1000000 in
set_option maxRecDepth 20000 in
theorem mnew_any {w : World} {F : Nat → Prop} {tp : Value} {N : List Nd} (hT : Tp w F tp N) : Calls Tryd.prog 38 #[tp] w fun e w' => e = .returned (.pointer (some ⟨(fx0 w.heap.size tp).M, 0, none⟩)) ∧ Mnd (fx0 w.heap.size tp) w' (fun k => w.heap.size ≤ k ∧ k < w.heap.size + 4) (fun _ _ => none) MS.none ∧ Below w.heap.size w w' := by
  have hmm := @run_makeMap Tryd.prog
  have hmade := Mnd.made w tp
  have hb : Below w.heap.size w (((((w.alloc (.map #[] 0)).alloc (.map #[] 0)).alloc (.map #[] 0)).alloc (.map #[] 0)).alloc (.cells #[tp, .map (some w.heap.size), .map (some (w.heap.size + 1)), .map (some (w.heap.size + 2)), .map (some (w.heap.size + 3))] 106)) :=
    ((((below_alloc _ _).trans ((below_alloc _ _).mono (by simp))).trans ((below_alloc _ _).mono (by simp <;> omega))).trans ((below_alloc _ _).mono (by simp <;> omega))).trans ((below_alloc _ _).mono (by simp <;> omega))
  obtain ⟨p, rfl⟩ : ∃ p : Option Addr, tp = .pointer p := by
    rcases hT with ⟨e, _⟩ | ⟨_, tb, _, _, e, _⟩
    · exact ⟨none, e⟩
    · exact ⟨some ⟨tb, 0, none⟩, e⟩
  have HM := Lib.hid hmade
  have HB := Lib.hid hb
  clear hmade hb hT
  go_enter Tryd.func38, Tryd.ntmps38
  go_wp2_with fail
  go_ret
  exact ⟨rfl, HM.out, HB.out⟩
set_option maxHeartbeats 1000000 in
set_option maxRecDepth 20000 in
theorem learnt_any {w : World} {tp : Value} {N : List Nd} (hT : Tp w (fun _ => False) tp N) (hN : Wf N) {lv : Value} {ls : List Int} (hl : Rd .i64 w lv ls) (hwf : ∀ y ∈ ls, (Lit.int .i64 y).wf = true) :
    Calls Tryd.prog 25 #[tp, lv] w fun e w' => ∃ (c : Fx) (F : Nat → Prop) (r : Nat → Int → Option Value) (S : MS) (pops : Int → Nat), e = .returned (.pointer (some ⟨c.M, 0, none⟩)) ∧ c.tp = tp ∧ Mnd c w' F r S ∧ Tp w' F tp N ∧ Mi N (fun y => y ∈ ls) S pops ∧ Below w.heap.size w w' := by
  have hnew := mnew_any hT
  have HT := Lib.hid hT
  have HL := Lib.hid (show OutR (fun _ => False) w lv ls from ⟨hl, fun _ _ _ _ _ h => h⟩)
  have HWF := Lib.hid hwf
  obtain ⟨p, rfl⟩ : ∃ p : Option Addr, tp = .pointer p := by
    rcases hT with ⟨e, _⟩ | ⟨_, tb, _, _, e, _⟩
    · exact ⟨none, e⟩
    · exact ⟨some ⟨tb, 0, none⟩, e⟩
  obtain ⟨la, lc, rfl⟩ : ∃ la lc, lv = .slice la ls.length lc := by obtain ⟨a, c, e, _⟩ := hl; exact ⟨a, c, e⟩
  clear hT hl hwf
  go_enter Tryd.func25, Tryd.ntmps25
  go_wp2_with (first
    | (go_at_call 38
       refine hnew.mono ?_
       rintro e w1 ⟨rfl, hm1, hb1⟩
       have hs1 : Stp (fun _ => False) w (fun k => w.heap.size ≤ k ∧ k < w.heap.size + 4) w1 := ⟨hb1.os, hb1.tape, hb1.output, hb1.size, fun k hk _ => hb1.block k hk, fun k hk => .inr hk.1⟩
       have hlearn := learn_any hm1 (HT.out.step hs1) hN (Mi.zero (N := N)) (Cs := fun y => y ∈ ls) (fun _ h => h.elim) (HL.out.step hs1) HWF.out (fun _ h => h) (fun _ h => .inr h)
       have HB1 := Lib.hid hb1
       clear hm1 hs1 hb1 hnew)
    | (go_at_call 39
       refine hlearn.mono ?_
       rintro e w2 ⟨rfl, F2, r2, S2, p2, X, NB, q1, q2, q3, q4⟩
       have Q1 := Lib.hid q1
       have Q2 := Lib.hid q2
       have Q3 := Lib.hid q3
       have Q4 := Lib.hid q4
       clear q1 q2 q3 q4 hlearn))
  go_ret
  exact ⟨(fx0 w.heap.size (.pointer p)).re X NB, F2, r2, S2, p2, rfl, rfl, Q1.out, Q2.out, Q3.out, HB1.out.trans (Q4.out.toBelow HB1.out.size fun k hk => hk.1)⟩
set_option maxHeartbeats 1000000 in
set_option maxRecDepth 20000 in
/-- What can be made of a list. -/
theorem kcan_any {w : World} {tp : Value} {N : List Nd} (hT : Tp w (fun _ => False) tp N) (hN : Wf N) {lv : Value} {ls : List Int} (hl : Rd .i64 w lv ls) (hwf : ∀ y ∈ ls, (Lit.int .i64 y).wf = true) {h : Int} (hh : (Lit.int .i64 h).wf = true) :
    Calls Tryd.prog 12 #[tp, lv, .int .i64 h] w fun e w' => ∃ b : Bool, e = .returned (.bool b) ∧ (b = true ↔ Der N (fun y => y ∈ ls) false h) ∧ Below w.heap.size w w' := by
  have hlearn := learnt_any hT hN hl hwf
  obtain ⟨p, rfl⟩ : ∃ p : Option Addr, tp = .pointer p := by
    rcases hT with ⟨e, _⟩ | ⟨_, tb, _, _, e, _⟩
    · exact ⟨none, e⟩
    · exact ⟨some ⟨tb, 0, none⟩, e⟩
  obtain ⟨la, lc, rfl⟩ : ∃ la lc, lv = .slice la ls.length lc := by obtain ⟨a, c, e, _⟩ := hl; exact ⟨a, c, e⟩
  clear hT hl hwf
  go_enter Tryd.func12, Tryd.ntmps12
  go_wp2_with (first
    | (go_at_call 25
       refine hlearn.mono ?_
       rintro e w1 ⟨c, F, r, S, pops, rfl, hc, q1, q2, q3, q4⟩
       have hcan := canm_any q1 (hc ▸ q2) hN hh
       have Q3 := Lib.hid q3
       have Q4 := Lib.hid q4
       clear hc q1 q2 q3 q4 hlearn)
    | (go_at_call 26
       refine hcan.mono ?_
       rintro e w2 ⟨l, hl, rfl, hb⟩
       have HL := Lib.hid hl
       have HB := Lib.hid hb
       clear hl hb hcan))
  go_ret
  exact ⟨_, rfl, Q3.out.can hN HL.out, Q4.out.trans (HB.out.mono Q4.out.size)⟩
#print axioms kcan_any
#print axioms mnew_any
#print axioms Mi.zero
end Go.Proofs.YtepkhhpdpmhfaaaDoor.T
