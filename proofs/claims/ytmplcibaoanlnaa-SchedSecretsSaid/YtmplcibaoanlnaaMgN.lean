/- A mind that knows nothing; a mind told a list; what can be made of a list. -/
import Derived.Test.YtmplcibaoanlnaaMgO
import Derived.Test.YtmplcibaoanlnaaPkH
import Derived.Test.YtmplcibaoanlnaaMgE
import Derived.Test.YtmplcibaoanlnaaMgT
import Derived.Test.YtmplcibaoanlnaaPkI
import Derived.Deep.LoopGhost
namespace Go.Proofs.Ytmplcibaoanlnaa
open Go Go.RowKit Go.Shelf

/-- The map of what is found on the way. -/
abbrev OwnM (w : World) (o : Nat) (own : Int → Bool) : Prop := MapG w o (fun k => if own k = true then some (.agg #[]) else none)
theorem ownLook {w : World} {o : Nat} {own : Int → Bool} (h : OwnM w o own) {k : Int} (hk : (Lit.int .i64 k).wf = true) :
    (Instr.lookup 69 (.map (some o)) (.int .i64 k) true).run Try.prog w = .ok (.tuple #[.agg #[], .bool (own k)]) w := by
  rw [h.look2 Try.underlying69 zeroUn hk]
  cases e : own k <;> simp
set_option maxHeartbeats 1000000 in
set_option maxRecDepth 20000 in
theorem can_c {c : Fx} {w : World} {F : Nat → Prop} {r : Nat → Int → Option Value} {S : MS} (h : Mnd c w F r S) {o o1 o2 : Nat} {own : Int → Bool} (ho : OwnM w o own) (k1 : w.cell? ⟨o1, 0, none⟩ = some (.map (some o))) (k2 : w.cell? ⟨o2, 0, none⟩ = some (.pointer (some ⟨c.M, 0, none⟩)))
    {y : Int} (hy : (Lit.int .i64 y).wf = true) :
    Calls Try.prog 37 #[.int .i64 y, .pointer (some ⟨o1, 0, none⟩), .pointer (some ⟨o2, 0, none⟩)] w fun e w' => e = .returned (.bool (own y || canP S y)) ∧ Below w.heap.size w w' := by
  have hl := ownLook ho hy
  have bb := below_alloc w (.cells #[.agg #[]] 70)
  have bb0 := below_alloc w (.cells #[] 70)
  have hm := h.below bb0
  have kk2 := keepS bb0 k2
  have hc := can_any hm hy
  clear h hm ho
  cases hO : own y with
  | true =>
    rw [hO] at hl
    go_enter Try.func37, Try.ntmps37
    go_wp2_with fail
    go_ret
    exact ⟨rfl, bb0⟩
  | false =>
    rw [hO] at hl
    go_enter Try.func37, Try.ntmps37
    go_wp2_with (go_at_call 38; refine hc.mono ?_; rintro e w3 ⟨rfl, rfl⟩)
    go_ret
    exact ⟨rfl, bb0⟩
#print axioms can_c
end Go.Proofs.Ytmplcibaoanlnaa
namespace Go.Proofs.Ytmplcibaoanlnaa
open Go Go.RowKit Go.Shelf
attribute [local go_sem] Oper.semAt_some
theorem run_store_fn {P : Program} {w : World} {a : Addr} {m : Mode} (fn : Fn) (first captured : Array Value) : (store a (.func fn first captured) m).run P w = stored P w a (.func fn first captured) m := run_store P w a _ m rfl
attribute [local go_sem] run_store_fn
theorem callsIn_world {F : Fence} {n : Nat} {P : Program} {f : FuncId} {xs : Array Value} {Q : Ending → World → Prop} {W : World} (C : World → Prop) (hC : C W) (h : ∀ W', C W' → CallsIn F n P f xs W' Q) : CallsIn F n P f xs W Q := h W hC
/-- The frame of Can: the mind's pointer, the map, its box, the closure's. -/
structure Cf (c : Fx) (w W : World) : Prop where
  size : W.heap.size = w.heap.size + 4
  b : Below w.heap.size w W
  e0 : W.heap[w.heap.size]? = some (.cells #[.pointer (some ⟨c.M, 0, none⟩)] 54 (0, 0))
  e1 : W.heap[w.heap.size + 1]? = some (.map #[] 0)
  e2 : W.heap[w.heap.size + 2]? = some (.cells #[.map (some (w.heap.size + 1))] 69 (0, 0))
  e3 : W.heap[w.heap.size + 3]? = some (.cells #[.func (.func 37) #[] #[.pointer (some ⟨w.heap.size + 2, 0, none⟩), .pointer (some ⟨w.heap.size, 0, none⟩)]] 56 (0, 0))
theorem Cf.made (c : Fx) (w : World) : Cf c w ((((w.alloc (.cells #[.pointer (some ⟨c.M, 0, none⟩)] 54)).alloc (.map #[] 0)).alloc (.cells #[.map (some (w.heap.size + 1))] 69)).alloc
    (.cells #[.func (.func 37) #[] #[.pointer (some ⟨w.heap.size + 2, 0, none⟩), .pointer (some ⟨w.heap.size, 0, none⟩)]] 56)) where
  size := by simp
  b := (((below_alloc _ _).trans ((below_alloc _ _).mono (by simp))).trans ((below_alloc _ _).mono (by simp; omega))).trans ((below_alloc _ _).mono (by simp; omega))
  e0 := by rw [(below_alloc _ _).block _ (by simp; omega), (below_alloc _ _).block _ (by simp; omega), (below_alloc _ _).block _ (by simp)]; exact heap_alloc_new w _
  e1 := by rw [(below_alloc _ _).block _ (by simp), (below_alloc _ _).block _ (by simp)]; exact heap_alloc2_new w _ _
  e2 := by
    rw [(below_alloc _ _).block _ (by simp)]
    have := heap_alloc2_new (w.alloc (.cells #[.pointer (some ⟨c.M, 0, none⟩)] 54)) (.map #[] 0) (.cells #[.map (some (w.heap.size + 1))] 69)
    simpa using this
  e3 := by
    have := heap_alloc2_new ((w.alloc (.cells #[.pointer (some ⟨c.M, 0, none⟩)] 54)).alloc (.map #[] 0)) (.cells #[.map (some (w.heap.size + 1))] 69) (.cells #[.func (.func 37) #[] #[.pointer (some ⟨w.heap.size + 2, 0, none⟩), .pointer (some ⟨w.heap.size, 0, none⟩)]] 56)
    simpa using this
/-- .. with what the loop over the term's parts has beside it. -/
structure Cg (c : Fx) (w : World) (x : Int) (X : Obj) (W : World) : Prop where
  size : W.heap.size = w.heap.size + 8
  b : Below w.heap.size w W
  e0 : W.heap[w.heap.size]? = some (.cells #[.pointer (some ⟨c.M, 0, none⟩)] 54 (0, 0))
  e1 : W.heap[w.heap.size + 1]? = some (.map #[] 0)
  e2 : W.heap[w.heap.size + 2]? = some (.cells #[.map (some (w.heap.size + 1))] 69 (0, 0))
  e3 : W.heap[w.heap.size + 3]? = some (.cells #[.func (.func 37) #[] #[.pointer (some ⟨w.heap.size + 2, 0, none⟩), .pointer (some ⟨w.heap.size, 0, none⟩)]] 56 (0, 0))
  e4 : W.heap[w.heap.size + 4]? = some (.cells #[.pointer (some ⟨c.M, 0, none⟩)] 54 (0, 0))
  e5 : W.heap[w.heap.size + 5]? = some (.cells #[.int .i64 x] 26 (0, 0))
  e6 : W.heap[w.heap.size + 6]? = some (.deferred (some []))
  e7 : W.heap[w.heap.size + 7]? = some X
theorem Cf.more {c : Fx} {w W : World} (h : Cf c w W) (x : Int) (X : Obj) : Cg c w x X ((((W.alloc (.cells #[.pointer (some ⟨c.M, 0, none⟩)] 54)).alloc (.cells #[.int .i64 x] 26)).alloc (.deferred (some []))).alloc X) := by
  have hs := h.size
  have hb : Below W.heap.size W ((((W.alloc (.cells #[.pointer (some ⟨c.M, 0, none⟩)] 54)).alloc (.cells #[.int .i64 x] 26)).alloc (.deferred (some []))).alloc X) :=
    (((below_alloc _ _).trans ((below_alloc _ _).mono (by simp))).trans ((below_alloc _ _).mono (by simp; omega))).trans ((below_alloc _ _).mono (by simp; omega))
  exact
  { size := by simp [hs]
    b := h.b.trans (hb.mono h.b.size)
    e0 := by rw [hb.block _ (by omega)]; exact h.e0
    e1 := by rw [hb.block _ (by omega)]; exact h.e1
    e2 := by rw [hb.block _ (by omega)]; exact h.e2
    e3 := by rw [hb.block _ (by omega)]; exact h.e3
    e4 := by
      rw [(below_alloc _ _).block _ (by simp; omega), (below_alloc _ _).block _ (by simp; omega), (below_alloc _ _).block _ (by simp; omega)]
      have := heap_alloc_new W (.cells #[.pointer (some ⟨c.M, 0, none⟩)] 54)
      rwa [hs] at this
    e5 := by
      rw [(below_alloc _ _).block _ (by simp; omega), (below_alloc _ _).block _ (by simp; omega)]
      have := heap_alloc2_new W (.cells #[.pointer (some ⟨c.M, 0, none⟩)] 54) (.cells #[.int .i64 x] 26)
      rwa [hs] at this
    e6 := by
      rw [(below_alloc _ _).block _ (by simp; omega)]
      have := heap_alloc2_new (W.alloc (.cells #[.pointer (some ⟨c.M, 0, none⟩)] 54)) (.cells #[.int .i64 x] 26) (.deferred (some []))
      simpa [hs] using this
    e7 := by
      have := heap_alloc2_new ((W.alloc (.cells #[.pointer (some ⟨c.M, 0, none⟩)] 54)).alloc (.cells #[.int .i64 x] 26)) (.deferred (some [])) X
      simpa [hs] using this }
theorem can_out {R : Ending → World → Prop} {tmps : Array Value} {W : World} {D : Nat} (hd : W.heap[D]? = some (.deferred (some []))) (hR : R (.returned (tmps.getD 4 undef)) (W.putObj D (.deferred none))) :
    LeavesInM Fence.wide 8 Try.prog Try.f30 tmps R [{ target := .collected D, args := #[] }] .returning W :=
  ⟨by simp, .inl ⟨_, _, rfl, run_takeDeferred hd, _, results_tmp (t := 4) rfl _ _ _, hR⟩⟩
/-- What holds between two rounds. -/
def Jc (N : List Nd) (S : MS) (O : Nat) (W Ws : World) (qs : List Int) (W' : World) : Prop := Below W.heap.size W Ws ∧ OwnM W' O (qs.foldl (ownStep N S) (fun _ => false)) ∧ Stp (fun k => k = O) Ws (fun k => k = O) W'
set_option maxHeartbeats 8000000 in
set_option maxRecDepth 20000 in
theorem canm_any {c : Fx} {N : List Nd} {w : World} {F : Nat → Prop} {r : Nat → Int → Option Value} {S : MS} (h : Mnd c w F r S) (hT : Tp w F c.tp N) (hN : Wf N) {x : Int} (hw : (Lit.int .i64 x).wf = true) :
    Calls Try.prog 30 #[.pointer (some ⟨c.M, 0, none⟩), .int .i64 x] w fun e w' => ∃ l, Bel N S.st x l ∧ e = .returned (.bool (ownF N S l x || canP S x)) ∧ Below w.heap.size w w' := by
  refine callsIn_wide.1 (callsIn_of_wp_marks (n := 8) (F := Fence.wide) Try.func30 rfl trivial ?_ rfl)
  have hmm := @run_makeMap Try.prog
  have hF39 : Fence.wide.fn 40 := trivial
  have hF36 : Fence.wide.fn 37 := trivial
  have hF38 : Fence.wide.fn 39 := trivial
  simp only [Try.ntmps30, List.size_toArray, List.length_cons, List.length_nil, Nat.reduceAdd, Nat.reduceSub, Array.replicate_succ, Array.replicate_zero, List.push_toArray, List.append_toArray, List.nil_append, List.cons_append]
  gi_wp2
  refine callsIn_world (Cf c w) (Cf.made c w) (fun W3 hf => ?_)
  refine (callsIn_wide.2 below_any).mono ?_
  rintro e w' ⟨rfl, rfl⟩
  gi_wp2
  refine wpIn_wide.2 (range_open rfl (enters_of Try.func44 (by kernel_rfl) rfl) fun fn => ?_)
  have hsz := hf.size
  have hz2 : ((W3.alloc (.cells #[.pointer (some ⟨c.M, 0, none⟩)] 54)).alloc (.cells #[.int .i64 x] 26)).heap.size = w.heap.size + 6 := by simp [hsz]
  rw [hz2, hsz]
  have HG := fun X => hf.more x X
  have hM := blk_lt h.cell
  have hFl := h.lt
  refine (callsIn_wide.1 (below_in (c := c) (F := F) (r := r) (n := 8) (hb := w.heap.size + 4 + 1) (mb := w.heap.size + 4) (h.below (HG _).b) (hT.step (.below (HG _).b)) hN hw (by decide) (cell_row0 (HG _).e5) (cell_row0 (HG _).e4)
    (Jc N S (w.heap.size + 1) _) (fun Ws hWs => ⟨hWs, ?hown, .refl _ _⟩) (fun Ws qs W' hJ k h1 h2 => ?_) ?hY)).mono ?post
  case hown =>
    have hmade := MapG.made (w.alloc (.cells #[.pointer (some ⟨c.M, 0, none⟩)] 54))
    have hss : (w.alloc (.cells #[.pointer (some ⟨c.M, 0, none⟩)] 54)).heap.size = w.heap.size + 1 := by simp
    rw [hss] at hmade
    refine (hmade.keep ?_).congr fun k => by simp
    have h3 := heap_alloc_new (w.alloc (.cells #[.pointer (some ⟨c.M, 0, none⟩)] 54)) (.map #[] 0)
    rw [hss] at h3
    rw [h3, hWs.block _ (by rw [(HG _).size]; omega)]
    exact (HG _).e1
  · obtain ⟨_, _, hst⟩ := hJ
    rw [(HG _).size] at h1
    exact hst.block k h2 (fun e => by omega)
  case hY =>
    intro Ws lq qs x' s a cp W1 hBel hpre hJ hpr
    obtain ⟨hbW, hom, hst⟩ := hJ
    have hs1 := hbW.size
    rw [(HG _).size] at hs1 hpr
    have hWs : ∀ k, w.heap.size ≤ k → k < Ws.heap.size → k ≠ w.heap.size + 1 → W1.heap[k]? = Ws.heap[k]? := fun k h1 h2 h3 => hst.block k h2 h3
    have hold : ∀ k, w.heap.size ≤ k → k < w.heap.size + 8 → k ≠ w.heap.size + 1 → W1.heap[k]? = _ := fun k h1 h2 h3 => (hWs k h1 (by omega) h3).trans (hbW.block k (by rw [(HG _).size]; omega))
    have hrec := (hold (w.heap.size + 7) (by omega) (by omega) (by omega)).trans (HG _).e7
    have hb0 := (hold w.heap.size (by omega) (by omega) (by omega)).trans (HG _).e0
    have hb2 := (hold (w.heap.size + 2) (by omega) (by omega) (by omega)).trans (HG _).e2
    have hb3 := (hold (w.heap.size + 3) (by omega) (by omega) (by omega)).trans (HG _).e3
    have hbw1 : Below w.heap.size w W1 := ((HG _).b.trans (hbW.mono (by rw [(HG _).size]; omega))).trans (hst.toBelow (B := w.heap.size) (by omega) (fun k hk => by omega))
    have hin := hBel.inn x' (hpre.subset (by simp))
    have hpw : W1.ownsRow (w.heap.size + 8) 26 1 (.slice a (partsN N x').length cp) (partsN N x').length (cs .i64 (partsN N x')) := own_keep hpr fun k hk => hWs k (by have := (hpr.lt k hk).1; omega) (hpr.lt k hk).2 (by have := (hpr.lt k hk).1; omega)
    have hfar : ∀ k, (Value.slice a (partsN N x').length cp).ownBlock = some k → w.heap.size + 8 ≤ k ∧ k < W1.heap.size := fun k hk => ⟨(hpr.lt k hk).1, (hpw.lt k hk).2⟩
    have HOM := Lib.hid hom
    have HST := Lib.hid hst
    have HBW := Lib.hid hbW
    have HPW := Lib.hid hpw
    have HFAR := Lib.hid hfar
    have HIN := Lib.hid hin
    have HREC := Lib.hid hrec
    have HX := Lib.hid (And.intro hb0 (And.intro hb2 hb3))
    have HS1 := Lib.hid hs1
    have HB1 := Lib.hid hbw1
    have HH := Lib.hid h
    refine yield_open hrec rfl ?_
    clear hom hst hbW hpw hfar hin hrec hb0 hb2 hb3 hs1 hbw1 hpr hBel hpre hWs hold hf HG h
    gi_wp2
    refine ⟨row_keep (below_alloc W1 _) HREC.out, ?_⟩
    have hl1 := blk_lt HREC.out
    refine wpIn_world (fun Wd => Wd = (W1.alloc (.cells #[.int .i64 (kindN N x'), .string s, .slice a (partsN N x').length cp] 47)).putObj (w.heap.size + 6 + 1) _) rfl ?_
    intro Wd hWd
    have hkd : ∀ k, k < W1.heap.size → k ≠ w.heap.size + 7 → Wd.heap[k]? = W1.heap[k]? := fun k h1 h2 => by rw [hWd, World.putObj_heap_other (by omega), (below_alloc W1 _).block k h1]
    have hnd : Wd.heap[W1.heap.size]? = some (.cells #[.int .i64 (kindN N x'), .string s, .slice a (partsN N x').length cp] 47 (0, 0)) := by
      rw [hWd, World.putObj_heap_other (by omega)]; exact heap_alloc_new W1 _
    have hbusy : ∃ X, Wd.heap[w.heap.size + 7]? = some (.loop X) := by rw [hWd]; exact ⟨_, World.putObj_heap_same (by simp; omega)⟩
    have hszd : Wd.heap.size = W1.heap.size + 1 := by rw [hWd]; simp
    have hbd : Below w.heap.size w Wd := by
      have h1 := HB1.out
      refine ⟨?_, ?_, ?_, by have := h1.size; omega, fun k hk => (hkd k (by have := h1.size; omega) (by omega)).trans (h1.block k hk)⟩
      · rw [hWd]; exact h1.os
      · rw [hWd]; exact h1.tape
      · rw [hWd]; exact h1.output
    have hmd := HH.out.below hbd
    have homd : OwnM Wd (w.heap.size + 1) _ := HOM.out.keep (hkd _ (by omega) (by omega))
    have k0 := cell_row0 ((hkd _ (by omega) (by omega)).trans HX.out.1)
    have k2 := cell_row0 ((hkd _ (by omega) (by omega)).trans HX.out.2.1)
    have k3 := cell_row0 ((hkd _ (by omega) (by omega)).trans HX.out.2.2)
    have n0 : Wd.cell? ⟨W1.heap.size, 0, none⟩ = some (.int .i64 (kindN N x')) := by unfold World.cell?; rw [hnd]; rfl
    have n1 : Wd.cell? ⟨W1.heap.size, 1, none⟩ = some (.string s) := by unfold World.cell?; rw [hnd]; rfl
    have n2 : Wd.cell? ⟨W1.heap.size, 2, none⟩ = some (.slice a (partsN N x').length cp) := by unfold World.cell?; rw [hnd]; rfl
    have hrd : Rd .i64 Wd (.slice a (partsN N x').length cp) (partsN N x') := (Rd.of_own (own_keep HPW.out fun k hk => hkd k (HFAR.out k hk).2 (by have := (HFAR.out k hk).1; omega))).1
    have hoF : partsN N x' ≠ [] → OutF F (.slice a (partsN N x').length cp) := fun hz ad m cq e hF => by
      have hob : (Value.slice a (partsN N x').length cp).ownBlock = some ad.block := by
        rcases HPW.out.2 with ⟨e2, _⟩ | ⟨g2, cap2, cur, e2, _⟩
        · rw [e2] at e; cases e
        · rw [e2] at e; cases e; rw [e2]; rfl
      have h1 := (HFAR.out _ hob).1
      have h2 := hFl _ hF
      omega
    have hlow := hN.low x' HIN.out.1 HIN.out.2.1
    have hlk := callsIn_wide (n := 8 - 1 - 1).2 (lacks_c hmd (cn := fun y => qs.foldl (ownStep N S) (fun _ => false) y || canP S y) (o1 := w.heap.size + 2) (o2 := w.heap.size)
      (fun W hW y hy => can_c (hmd.below hW) (homd.keep (hW.block _ homd.lt)) (keepS hW k2) (keepS hW k0) hy) (x := x') (k := kindN N x') (s := s) hrd hoF
      (fun y hy => by have := hlow y hy; exact wfT this.1 (by have := hN.few; have := HIN.out.2.1; omega)) (fun e => (hN.two x' e).1) (hN.sixteen x'))
    have hfold : (qs ++ [x']).foldl (ownStep N S) (fun _ => false) = if lackP S (fun y => qs.foldl (ownStep N S) (fun _ => false) y || canP S y) x' (kindN N x') (partsN N x') = [] then up (qs.foldl (ownStep N S) (fun _ => false)) x' true else qs.foldl (ownStep N S) (fun _ => false) := by
      rw [List.foldl_append]; rfl
    generalize lackP S (fun y => qs.foldl (ownStep N S) (fun _ => false) y || canP S y) x' (kindN N x') (partsN N x') = L at *
    have k1 : Wd.cell? ⟨w.heap.size + 1 + 1, 0, none⟩ = some (.map (some (w.heap.size + 1))) := k2
    have HWD := Lib.hid hWd
    have HBY := Lib.hid hbusy
    have HSZ := Lib.hid hszd
    have HOD := Lib.hid homd
    have HF := Lib.hid hfold
    have HK1 := Lib.hid k1
    clear hbusy hkd hnd hbd hmd homd hrd hoF hlow hfold hWd hszd
    by_cases hL : L = []
    · rw [hL] at hlk
      gi_wp2_with (first
        | (gi_at_call 40
           refine (CallsIn.inRound _ hlk).mono ?_
           rintro e w6 ⟨v, rfl, hrd6, ho6, hb6⟩
           obtain ⟨va, vc, rfl⟩ : ∃ va vc, v = .slice va 0 vc := by obtain ⟨a, c, e, _⟩ := hrd6; exact ⟨a, c, e⟩
           have HB6 := Lib.hid hb6
           have k1b := keepS hb6 HK1.out
           clear hrd6 ho6 hb6 hlk)
        | (gi_at_mapUpdate
           refine wpListIn_updG rfl _ _ _ 69 70 rfl Try.underlying69 (HOD.out.keep (HB6.out.block _ HOD.out.lt)) HIN.out.1 (by have := HIN.out.2.1; have := hN.few; omega) (.agg #[]) rfl rfl rfl ?_
           intro w7 hm7 hg7
           have HM7 := Lib.hid hm7
           have HG7 := Lib.hid hg7
           clear hm7 hg7))
      have hp2 : Stp (fun k => k = w.heap.size + 1) Wd (fun k => k = w.heap.size + 1) w7 := (Stp.below HB6.out).trans (Stp.of_grown HG7.out (fun g e => by cases e; rfl) (fun k hk => .inl hk))
      have hby : Wd.heap[w.heap.size + 6 + 1]? = _ := (congrArg (fun W : World => W.heap[w.heap.size + 6 + 1]?) HWD.out).trans (World.putObj_heap_same (by simp; omega))
      have hby7 := (hp2.block (w.heap.size + 6 + 1) (by have := HSZ.out; omega) (by omega)).trans hby
      rw [HWD.out] at hp2
      refine ⟨hby7, rfl, HBW.out, ?_, HST.out.trans (stp_round HREC.out (by omega) hp2)⟩
      rw [HF.out, if_pos hL]
      refine MapG.keep (MapG.congr HM7.out fun k => ?_) (World.putObj_heap_other (by omega))
      by_cases e : k = x'
      · subst e; rw [if_pos rfl, up_same, if_pos rfl]
      · rw [if_neg e, up_other _ _ e]
    · have hz : ((L.length : Int) == 0) = false := by
        have : L.length ≠ 0 := fun e => hL (List.length_eq_zero_iff.1 e)
        have h1 : (L.length : Int) ≠ 0 := by omega
        simpa using h1
      gi_wp2_with (gi_at_call 40; refine (CallsIn.inRound _ hlk).mono ?_; rintro e w6 ⟨v, rfl, hrd6, ho6, hb6⟩; obtain ⟨va, vc, rfl⟩ : ∃ va vc, v = .slice va L.length vc := (by obtain ⟨a, c, e, _⟩ := hrd6; exact ⟨a, c, e⟩); have HB6 := Lib.hid hb6; clear hrd6 ho6 hb6 hlk)
      have hp2 : Stp (fun k => k = w.heap.size + 1) Wd (fun k => k = w.heap.size + 1) w6 := Stp.below HB6.out
      have hby : Wd.heap[w.heap.size + 6 + 1]? = _ := (congrArg (fun W : World => W.heap[w.heap.size + 6 + 1]?) HWD.out).trans (World.putObj_heap_same (by simp; omega))
      have hby7 := (hp2.block (w.heap.size + 6 + 1) (by have := HSZ.out; omega) (by omega)).trans hby
      have hom6 : OwnM w6 (w.heap.size + 1) _ := HOD.out.keep (HB6.out.block _ HOD.out.lt)
      rw [HWD.out] at hp2
      refine ⟨hby7, rfl, HBW.out, ?_, HST.out.trans (stp_round HREC.out (by omega) hp2)⟩
      rw [HF.out, if_neg hL]
      exact MapG.keep hom6 (World.putObj_heap_other (by omega))
  case post =>
    rintro e W ⟨he, Ws, l, hBel, hbW, hom, hst⟩
    have hs1 := hbW.size
    rw [(HG _).size] at hs1
    have hold : ∀ k, w.heap.size ≤ k → k < w.heap.size + 8 → k ≠ w.heap.size + 1 → W.heap[k]? = _ := fun k h1 h2 h3 => (hst.block k (by omega) h3).trans (hbW.block k (by rw [(HG _).size]; omega))
    have hrec := (hold (w.heap.size + 7) (by omega) (by omega) (by omega)).trans (HG _).e7
    have hb0 := (hold w.heap.size (by omega) (by omega) (by omega)).trans (HG _).e0
    have hb2 := (hold (w.heap.size + 2) (by omega) (by omega) (by omega)).trans (HG _).e2
    have hb3 := (hold (w.heap.size + 3) (by omega) (by omega) (by omega)).trans (HG _).e3
    have hb6 := (hold (w.heap.size + 6) (by omega) (by omega) (by omega)).trans (HG _).e6
    have hbw1 : Below w.heap.size w W := ((HG _).b.trans (hbW.mono (by rw [(HG _).size]; omega))).trans (hst.toBelow (B := w.heap.size) (by omega) (fun k hk => by omega))
    refine ⟨he, .inl ⟨hrec, fun o => ?_⟩⟩
    have hne : ∀ k, k ≠ w.heap.size + 7 → (W.putObj (w.heap.size + 6 + 1) o).heap[k]? = W.heap[k]? := fun k hk => World.putObj_heap_other (by omega)
    have hbw2 : Below w.heap.size w (W.putObj (w.heap.size + 6 + 1) o) := ⟨hbw1.os, hbw1.tape, hbw1.output, by have := hbw1.size; simpa using this, fun k hk => (hne k (by omega)).trans (hbw1.block k hk)⟩
    have hm2 := h.below hbw2
    have ho2 : OwnM (W.putObj (w.heap.size + 6 + 1) o) (w.heap.size + 1) _ := hom.keep (hne _ (by omega))
    have k0 := cell_row0 ((hne _ (by omega)).trans hb0)
    have k2 := cell_row0 ((hne _ (by omega)).trans hb2)
    have k3 := cell_row0 ((hne _ (by omega)).trans hb3)
    have hd6 := (hne _ (by omega)).trans hb6
    have hcan := can_c hm2 ho2 k2 k0 hw
    show Exit.inBlock 0 _ Exit.normal _ (W.putObj (w.heap.size + 6 + 1) o)
    generalize W.putObj (w.heap.size + 6 + 1) o = W2 at *
    have HD := Lib.hid hd6
    have HB := Lib.hid hbw2
    have HBEL := Lib.hid hBel
    have k3' : W2.cell? ⟨w.heap.size + 1 + 1 + 1, 0, none⟩ = _ := k3
    clear hd6 hbw2 hBel hm2 ho2 hbw1 hrec hb0 hb2 hb3 hb6 hold hs1 hst hom hbW HG hf h hT hN hne
    simp only [Exit.inBlock, Exit.then]
    refine ‹∀ (a : Act) (w : World), Code.wpIn Fence.wide 8 Try.prog _ _ a w → _› _ _ ?_
    refine wpIn_wide.2 ?_
    dsimp only [marked]
    change Calls _ _ _ _ (fun e w' => e = .returned (.bool (ownF N S l x || canP S x)) ∧ _) at hcan
    generalize hres : (ownF N S l x || canP S x) = res at *
    go_wp2_with (go_at_call 37; refine hcan.mono ?_; rintro e w3 ⟨rfl, hb3⟩; have HB3 := Lib.hid hb3; clear hb3)
    have hd3 := (HB3.out.block (w.heap.size + 6) (blk_lt HD.out)).trans HD.out
    refine can_out hd3 ⟨l, HBEL.out, by rw [hres]; rfl, ?_⟩
    have h3 := HB.out.trans (HB3.out.mono HB.out.size)
    exact ⟨h3.os, h3.tape, h3.output, by have := h3.size; simpa using this, fun k hk => by rw [World.putObj_heap_other (by omega)]; exact h3.block k hk⟩
set_option maxRecDepth 20000 in
theorem canm_nil {w : World} {x : Int} : Calls Try.prog 30 #[.pointer none, .int .i64 x] w fun e w' => e = .returned (.bool false) ∧ Below w.heap.size w w' := by
  have bb := below_alloc w (.cells #[.pointer none] 54)
  go_enter Try.func30, Try.ntmps30
  go_wp2_with fail
  go_ret
  exact ⟨rfl, bb⟩
#print axioms canm_any
end Go.Proofs.Ytmplcibaoanlnaa
namespace Go.Proofs.Ytmplcibaoanlnaa
open Go Go.RowKit

theorem own_last {w : World} {e : TypeId} {a : Option Addr} {n cap : Nat} {xs : List Value} {x : Value} (h : w.ownsRow 0 e 1 (.slice a (n + 1) cap) (n + 1) (xs ++ [x])) :
    w.ownsRow 0 e 1 (.slice a n cap) n xs ∧ ∃ g, a = some ⟨g, 0, none⟩ ∧ n + 1 ≤ cap ∧ cap ≤ maxLen := by
  obtain ⟨h1, h2⟩ := h
  have hl : xs.length = n := by simp at h1; omega
  rcases h2 with ⟨_, h2⟩ | ⟨g, cap', cur, hv, hb, hg, hc, hm, hs, ht⟩
  · omega
  · cases hv
    refine ⟨⟨by omega, .inr ⟨g, cap, cur, rfl, hb, hg, by omega, hm, hs, ?_⟩⟩, g, rfl, hc, hm⟩
    have h3 : (cur.toList.take ((n + 1) * 1)).take (n * 1) = (xs ++ [x]).take (n * 1) := by rw [ht]
    rw [List.take_take] at h3
    rw [show min (n * 1) ((n + 1) * 1) = n * 1 by omega] at h3
    rw [h3]
    simp [← hl]
def Fx.re (c : Fx) (X NB : Nat) : Fx := { c with X := X, NB := NB }
theorem lst_at {S : MS} {b : Nat} {k : Int} (hb : b ≠ 2 ∨ k ≠ 0) (l : List Int) : lst { S with news := l } b k = lst S b k := by
  unfold lst
  by_cases e : b = 2
  · subst e
    have hk : k ≠ 0 := by rcases hb with e | e; exact absurd rfl e; exact e
    simp [hk]
  · simp [e]
/-- The boxes that Learn makes. -/
theorem LW.enter {c : Fx} {N : List Nd} {w w2 : World} {F : Nat → Prop} {r : Nat → Int → Option Value} {S : MS} (h : Mnd c w F r S) (hT : Tp w F c.tp N) (hi : Inr N.length S) (hN : Wf N) (hn : S.news = []) (hb : Below w.heap.size w w2) {X NB : Nat}
    (hX : w2.heap[X]? = some (.cells #[.pointer (some ⟨c.M, 0, none⟩)] 54 (0, 0))) (hX0 : w.heap.size ≤ X) (hNX : NB ≠ X) (hB : w2.heap[NB]? = some (.cells #[.slice none 0 0] 31 (0, 0))) (hB0 : w.heap.size ≤ NB) :
    LW (c.re X NB) N w2 (fun k => F k ∨ k = NB) (rset r 2 0 none) S ∧ Stp F w (fun k => F k ∨ k = NB) w2 := by
  have s1 : Stp F w (fun k => F k ∨ k = NB) w2 := ⟨hb.os, hb.tape, hb.output, hb.size, fun k hk _ => hb.block k hk, fun k hk => hk.imp id fun e => by omega⟩
  have h2 := h.below hb
  have hM := blk_lt h.cell
  refine ⟨⟨?_, hX, ?_, ?_, .inr rfl, hT.step s1, hi, hN⟩, s1⟩
  · exact
    { lt := fun k hk => hk.elim (h2.lt k) fun e => e ▸ blk_lt hB
      cell := h2.cell
      out := fun e => e.elim h2.out fun e => by have e' : c.M = NB := e; omega
      f1 := .inl h2.f1, f2 := .inl h2.f2, f3 := .inl h2.f3, f4 := .inl h2.f4, ne := h2.ne
      states := h2.states, shown := h2.shown
      shut := h2.shut.congr fun k => by simp [rset], waits := h2.waits.congr fun k => by simp [rset]
      rows := fun b k => by
        by_cases e : b = 2 ∧ k = 0
        · obtain ⟨rfl, rfl⟩ := e
          rw [val_del, show lst S 2 0 = [] by simp [lst, hn]]
          exact .nil _ _
        · have e' : b ≠ 2 ∨ k ≠ 0 := Classical.byContradiction fun e1 => e ⟨Classical.byContradiction fun e2 => e1 (.inl e2), Classical.byContradiction fun e2 => e1 (.inr e2)⟩
          rw [val_not r none e']
          exact ⟨(h2.rows b k).1, fun g hg => .inl ((h2.rows b k).2 g hg)⟩
      apart := fun b k b' k' g h1 h3 => by
        have key : ∀ b k, (val (rset r 2 0 none) b k).ownBlock = some g → (val r b k).ownBlock = some g := fun b k hk => by
          by_cases e : b = 2 ∧ k = 0
          · obtain ⟨rfl, rfl⟩ := e
            rw [val_del] at hk; cases hk
          · have e' : b ≠ 2 ∨ k ≠ 0 := Classical.byContradiction fun e1 => e ⟨Classical.byContradiction fun e2 => e1 (.inl e2), Classical.byContradiction fun e2 => e1 (.inr e2)⟩
            rw [val_not r none e'] at hk; exact hk
        exact h.apart b k b' k' g (key _ _ h1) (key _ _ h3) }
  · rintro (e | e)
    · have e' : F X := e
      have := h.lt _ e'; omega
    · exact hNX e.symm
  · rw [val_del]; exact hB
/-- What has risen loses its last. -/
theorem LW.cut {c : Fx} {N : List Nd} {w : World} {F : Nat → Prop} {r : Nat → Int → Option Value} {S : MS} (h : LW c N w F r S) {rest : List Int} {x : Int} (hn : S.news = rest ++ [x]) {a : Option Addr} {cap : Nat} (hv : val r 2 0 = .slice a (rest.length + 1) cap) :
    LW c N (w.setCell ⟨c.NB, 0, none⟩ (.slice a rest.length cap)) F (rset r 2 0 (some (.slice a rest.length cap))) { S with news := rest } ∧ Stp F w F (w.setCell ⟨c.NB, 0, none⟩ (.slice a rest.length cap)) := by
  have hN := h.nb_ne
  have hg3 : w.grownBy (w.setCell ⟨c.NB, 0, none⟩ (.slice a rest.length cap)) (some c.NB) := grownBy_setCell' _ _ _
  have hr := (h.mnd.rows 2 0).1
  rw [hv, show lst S 2 0 = rest ++ [x] by simp [lst, hn]] at hr
  have hown : (Value.slice a rest.length cap).ownBlock = (val r 2 0).ownBlock := by rw [hv]; cases a <;> rfl
  have hcut := (own_last (n := rest.length) (xs := cs .i64 rest) (x := .int .i64 x) (by simpa [cs] using hr)).1
  have s1 : Stp F w F (w.setCell ⟨c.NB, 0, none⟩ (.slice a rest.length cap)) := .of_grown hg3 (fun g e => by cases e; exact h.nbF) (fun k hk => .inl hk)
  have hi := h.inr
  have k3 : ∀ k, k < w.heap.size → k ≠ c.NB → (w.setCell ⟨c.NB, 0, none⟩ (.slice a rest.length cap)).heap[k]? = w.heap[k]? := fun k hk e => hg3.block k hk (fun e2 => e (Option.some.inj e2))
  refine ⟨⟨?_, ?_, h.boxF, ?_, h.nbF, h.tab.step s1, ⟨hi.st0, hi.stb, hi.sh0, hi.shut, hi.waits, fun y hy => hi.news y (by rw [hn]; simp [hy])⟩, h.wf⟩, s1⟩
  · refine h.mnd.turn (S' := { S with news := rest }) 2 0 (fun k => k = c.NB) s1.size (fun k hk _ hc => k3 k hk hc) (fun k hk => by subst hk; exact ⟨hN.1, hN.2.1, hN.2.2.1, hN.2.2.2.2.2⟩) rfl rfl ?_ ?_ (fun b k e => ⟨val_not r _ e, lst_at e rest⟩) ?_ ?_ (fun k => ?_)
    · exact (h.mnd.shut.keep (k3 _ h.mnd.shut.lt hN.2.2.2.1.symm)).congr fun k => by simp [rset]
    · exact (h.mnd.waits.keep (k3 _ h.mnd.waits.lt hN.2.2.2.2.1.symm)).congr fun k => by simp [rset]
    · rw [val_set]
      show World.ownsRow _ 0 _ 1 _ rest.length _
      exact own_keep hcut fun g hg => k3 g (hcut.lt g hg).2 (fun e => hN.2.2.2.2.2 2 0 (by rw [← hown, ← e]; exact hg))
    · rw [val_set]; intro g hg; exact .inl (by rw [← hown]; exact hg)
    · rw [val_set, hown]
      exact ⟨.inl, fun e => e.elim id fun e => (h.mnd.rows 2 0).2 k e⟩
  · rw [s1.block c.X (blk_lt h.box) h.boxF]; exact h.box
  · rw [val_set]; exact heap_setCell_row h.nb _
#print axioms LW.enter
#print axioms LW.cut
end Go.Proofs.Ytmplcibaoanlnaa
namespace Go.Proofs.Ytmplcibaoanlnaa
open Go Go.RowKit

def tellStep (N : List Nd) (S : MS) (h : Int) : MS := if 1 ≤ h ∧ h ≤ (N.length : Int) then riseP S h 3 else S
def tellP (N : List Nd) (S : MS) (l : List Int) : MS := l.foldl (tellStep N) S
theorem tell_keep (N : List Nd) (S : MS) (l : List Int) : ∀ y, S.st y ≤ (tellP N S l).st y := by
  induction l generalizing S with
  | nil => intro y; exact Int.le_refl _
  | cons x r ih =>
    intro y
    refine Int.le_trans ?_ (ih (tellStep N S x) y)
    unfold tellStep
    split
    · exact rise_mono S x 3 y
    · exact Int.le_refl _
theorem Mb.tells {N : List Nd} {Bs : Int → Prop} {pops : Int → Nat} (l : List Int) (hl : ∀ x ∈ l, Bs x) : ∀ {S : MS}, Mb N Bs S pops → (∀ y, S.st y ≤ 3) → Mb N Bs (tellP N S l) pops := by
  induction l with
  | nil => intro S m _; exact m
  | cons x r ih =>
    intro S m h3
    refine ih (fun y hy => hl y (by simp [hy])) (S := tellStep N S x) ?_ ?_
    · unfold tellStep
      split
      · rename_i hx; exact m.tell hx (hl x (by simp))
      · exact m
    · intro y
      unfold tellStep
      split
      · unfold riseP
        split
        · show up S.st x 3 y ≤ 3
          by_cases e : y = x
          · subst e; rw [up_same]; decide
          · rw [up_other _ _ e]; exact h3 y
        · exact h3 y
      · exact h3 y
theorem tell_top {N : List Nd} (l : List Int) : ∀ {S : MS}, Inr N.length S → ∀ y ∈ l, 1 ≤ y → y ≤ (N.length : Int) → (tellP N S l).st y = 3 := by
  induction l with
  | nil => intro S _ y hy; cases hy
  | cons x r ih =>
    intro S hi y hy h1 h2
    have hi' : Inr N.length (tellStep N S x) := by
      unfold tellStep
      split
      · rename_i hx; exact hi.rise hx (by decide)
      · exact hi
    by_cases e : y ∈ r
    · exact ih (S := tellStep N S x) hi' y e h1 h2
    · have e2 : y = x := by
        rcases List.mem_cons.1 hy with e3 | e3
        · exact e3
        · exact absurd e3 e
      subst e2
      have h4 : (tellStep N S y).st y = 3 := by
        unfold tellStep
        rw [if_pos ⟨h1, h2⟩]
        exact rise_top hi.stb y
      have h5 := tell_keep N (tellStep N S y) r y
      have h6 : Inr N.length (tellP N (tellStep N S y) r) := by
        clear ih hy e h4 h5
        generalize tellStep N S y = S1 at hi'
        induction r generalizing S1 with
        | nil => exact hi'
        | cons z q ih2 =>
          refine ih2 (tellStep N S1 z) ?_
          unfold tellStep
          split
          · rename_i hz; exact hi'.rise hz (by decide)
          · exact hi'
      have h7 := (h6.stb y).2
      show (tellP N (tellStep N S y) r).st y = 3
      omega
set_option maxHeartbeats 4000000 in
set_option maxRecDepth 20000 in
theorem learn_any {c : Fx} {N : List Nd} {w : World} {F : Nat → Prop} {r : Nat → Int → Option Value} {S : MS} (h : Mnd c w F r S) (hT : Tp w F c.tp N) (hN : Wf N) {Bs Cs : Int → Prop} {pops : Int → Nat} (m : Mi N Bs S pops) (hBC : ∀ x, Bs x → Cs x)
    {lv : Value} {ls : List Int} (hl : OutR F w lv ls) (hwf : ∀ y ∈ ls, (Lit.int .i64 y).wf = true) (hls : ∀ y ∈ ls, Cs y) (hCs : ∀ y, Cs y → Bs y ∨ y ∈ ls) :
    Calls Try.prog 36 #[.pointer (some ⟨c.M, 0, none⟩), lv] w fun e w' => e = .returned (.tuple #[]) ∧
      ∃ F' r' S' pops' X NB, Mnd (c.re X NB) w' F' r' S' ∧ Tp w' F' c.tp N ∧ Mi N Cs S' pops' ∧ Stp F w F' w' := by
  have hs0 : ∀ o : Obj, (w.alloc o).heap.size = w.heap.size + 1 := fun o => by simp
  have hE := LW.enter (w2 := (w.alloc (.cells #[.pointer (some ⟨c.M, 0, none⟩)] 54)).alloc (.cells #[.slice none 0 0] 31)) (X := w.heap.size) (NB := w.heap.size + 1) h hT m.inr hN m.news ((below_alloc _ _).trans ((below_alloc _ _).mono (by simp)))
    (by rw [(below_alloc _ _).block _ (by simp)]; exact heap_alloc_new w _) (Nat.le_refl _) (by omega) (heap_alloc2_new w _ _) (by omega)
  have hMb := (m.busy hBC)
  have hTold : ∀ y, Bs y → 1 ≤ y → y ≤ (N.length : Int) → S.st y = 3 := m.told
  have hIn := m.inr
  obtain ⟨la, lc, rfl⟩ : ∃ la lc, lv = .slice la ls.length lc := by obtain ⟨a, c, e, _⟩ := hl.rd; exact ⟨a, c, e⟩
  have hO := hl.step hE.2
  have HE := Lib.hid hE
  have HO := Lib.hid hO
  have HM := Lib.hid hMb
  have HT := Lib.hid hTold
  have HI := Lib.hid hIn
  have HWF := Lib.hid hwf
  have HLS := Lib.hid hls
  have HCS := Lib.hid hCs
  clear h hT m hl hE hO hMb hTold hIn hwf hls hCs hBC
  go_enter Try.func36, Try.ntmps36
  go_wp2_with fail
  generalize (w.alloc (.cells #[.pointer (some ⟨c.M, 0, none⟩)] 54)).alloc (.cells #[.slice none 0 0] 31) = W2 at *
  go_loopw [16] (fun i wr => ∃ (j : Nat) (F' : Nat → Prop) (r' : Nat → Int → Option Value), j ≤ ls.length ∧ i = .int .i64 j ∧ LW (c.re w.heap.size (w.heap.size + 1)) N wr F' r' (tellP N S (ls.take j)) ∧ Stp F w F' wr ∧ OutR F' wr (.slice la ls.length lc) ls) (fun i _ => ls.length - (RowKit.intOf i).toNat)
  case atStart => exact ⟨0, _, _, Nat.zero_le _, rfl, HE.out.1, HE.out.2, HO.out⟩
  case round =>
    obtain ⟨j, F', r', hj, rfl, hlw, hst, hor⟩ := hrel
    by_cases hlt : j < ls.length
    · have hlt' : (j : Int) < (ls.length : Int) := by omega
      rcases hor.rd.cases with ⟨h0, _⟩ | ⟨b, off, cp, e, _, _, _, _, hc⟩
      · rw [h0] at hlt; simp at hlt
      · cases e
        have hcj := hc j hlt
        have hy := HWF.out _ (getD_mem hlt)
        have HTK := Lib.hid (take_succ_getD ls j hlt)
        have x0 : wr.cell? ⟨w.heap.size, 0, none⟩ = some (.pointer (some ⟨c.M, 0, none⟩)) := cell_row0 hlw.box
        have m0 : wr.cell? ⟨c.M, 0, none⟩ = some c.tp := hlw.mnd.fields.1
        have htab : Tp wr F' c.tp N := hlw.tab
        have HRM := Lib.hid (((Mb.tells (ls.take j) (fun z hz => HLS.out z (List.mem_of_mem_take hz)) HM.out (fun z => (HI.out.stb z).2)).cn.room hN hlw.inr).mono (k := 1099511627776) (by decide))
        have HLW := Lib.hid hlw
        have HST := Lib.hid hst
        have HOR := Lib.hid hor
        clear hlw hst hor hc
        generalize hYY : ls.getD j 0 = y at *
        by_cases hin : 1 ≤ y ∧ y ≤ (N.length : Int)
        · have hlook := htab.look hin.1 hin.2
          have HIN := Lib.hid hin
          have eT : tellP N S (ls.take (j + 1)) = riseP (tellP N S (ls.take j)) y 3 := by
            rw [HTK.out]
            unfold tellP
            rw [List.foldl_append]
            show tellStep N _ y = _
            unfold tellStep
            rw [if_pos hin]
          have HET := Lib.hid eT
          clear eT hin htab
          go_wp2_with (first
            | (go_at_call 31; refine hlook.mono ?_; rintro e w3 ⟨s3, pv3, rfl, ho3, hb3⟩; obtain ⟨a3, p3, rfl, _⟩ := own_shape ho3; clear ho3; have HB3 := Lib.hid hb3; clear hb3 hlook)
            | (go_at_call 42; refine (rise_any (to := 3) (HLW.out.below (HB3.out.trans ((below_alloc w3 _).mono HB3.out.size))) HIN.out (by decide) HRM.out).mono ?_; rintro e w4 ⟨rfl, F4, r4, hl4, hs4, _⟩; have HL4 := Lib.hid hl4; have HS4 := Lib.hid hs4; clear hl4 hs4))
          go_roundw
          case rel =>
            have hs := (Stp.below (HB3.out.trans ((below_alloc w3 _).mono HB3.out.size))).trans HS4.out
            exact ⟨j + 1, F4, r4, by omega, by go_num, by rw [HET.out]; exact HL4.out, HST.out.trans hs, HOR.out.step hs⟩
          case measure => simp [RowKit.intOf]; omega
        · have hno := htab.look_no (x := y) (by omega)
          have eT : tellP N S (ls.take (j + 1)) = tellP N S (ls.take j) := by
            rw [HTK.out]
            unfold tellP
            rw [List.foldl_append]
            show tellStep N _ y = _
            unfold tellStep
            rw [if_neg hin]
          have HET := Lib.hid eT
          clear eT hin htab
          go_wp2_with (go_at_call 31; refine hno.mono ?_; rintro e w3 ⟨rfl, hb3⟩; have HB3 := Lib.hid hb3; clear hb3 hno)
          go_roundw
          case rel =>
            have hb := HB3.out.trans ((below_alloc w3 (.cells #[.int .i64 0, .string ByteArray.empty, .slice none 0 0] 47)).mono HB3.out.size)
            have hs := Stp.below (F := F') hb
            exact ⟨j + 1, F', r', by omega, by go_num, by rw [HET.out]; exact HLW.out.below hb, HST.out.trans hs, HOR.out.step hs⟩
          case measure => simp [RowKit.intOf]; omega
    · obtain rfl : j = ls.length := by omega
      have HLW := Lib.hid hlw
      have HST := Lib.hid hst
      clear hlw hst hor
      have eA : ls.take ls.length = ls := List.take_length
      rw [eA] at HLW
      have hmb1 := Mb.tells ls HLS.out HM.out (fun z => (HI.out.stb z).2)
      have htop : ∀ y, Cs y → 1 ≤ y → y ≤ (N.length : Int) → (tellP N S ls).st y = 3 := fun y hy h1 h2 => by
        rcases HCS.out y hy with e | e
        · have h3 := HT.out y e h1 h2
          have h4 := tell_keep N S ls y
          have h5 := (HLW.out.inr.stb y).2
          omega
        · exact tell_top ls HI.out y e h1 h2
      have hsum : sumN N.length pops ≤ 2 * N.length := sumN_le fun y _ _ => by have := hmb1.cn.c0.c1 y; omega
      have HTOP := Lib.hid htop
      have HMB := Lib.hid hmb1
      clear htop hmb1 eA
      go_wp2_with fail
      go_loopg [] (2 * N.length - sumN N.length pops) (fun k wr => ∃ (F' : Nat → Prop) (r' : Nat → Int → Option Value) (S' : MS) (pops' : Int → Nat), LW (c.re w.heap.size (w.heap.size + 1)) N wr F' r' S' ∧ Stp F w F' wr ∧ Mb N Cs S' pops' ∧ (∀ y, Cs y → 1 ≤ y → y ≤ (N.length : Int) → S'.st y = 3) ∧ sumN N.length pops' + k = 2 * N.length)
      case atStart => exact ⟨F', r', _, pops, HLW.out, HST.out, HMB.out, HTOP.out, by omega⟩
      case round =>
        clear HLW HST HTOP HMB HM HT HI HWF HLS HCS hsum
        obtain ⟨F2, r2, S2, p2, hlw, hst, hmb, htp, hk⟩ := hrel
        have hrow := (hlw.mnd.rows 2 0).1
        have e20 : lst S2 2 0 = S2.news := by simp [lst]
        rw [e20] at hrow
        obtain ⟨a2, cp2, hv, _⟩ := own_shape hrow
        have nb0 : wr.cell? ⟨w.heap.size + 1, 0, none⟩ = some (val r2 2 0) := cell_row0 hlw.nb
        have nz0 : wr.frozen? ⟨w.heap.size + 1, 0, none⟩ = false := by simp [World.frozen?, show wr.heap[w.heap.size + 1]? = _ from hlw.nb]
        rw [hv] at nb0
        rcases List.eq_nil_or_concat S2.news with hnil | ⟨rest, x, hnews⟩
        · rw [hnil] at nb0
          have HLW := Lib.hid hlw
          have HST := Lib.hid hst
          have HMB := Lib.hid hmb
          have HTP := Lib.hid htp
          clear hlw hst hmb htp hrow
          go_wp2_with fail
          go_end0
          exact ⟨rfl, F2, r2, S2, p2, w.heap.size, w.heap.size + 1, HLW.out.mnd, HLW.out.tab, ⟨hnil, HLW.out.inr, HMB.out.cn, HMB.out.inv, HMB.out.snd, HTP.out⟩, HST.out⟩
        · rw [List.concat_eq_append] at hnews
          have hlen : S2.news.length = rest.length + 1 := by rw [hnews]; simp
          rw [hlen] at hv nb0
          have hcut := hlw.cut hnews hv
          have hrow2 := hrow
          rw [hlen, hv, hnews] at hrow2
          obtain ⟨_, g, rfl, hle, hmx⟩ := own_last (n := rest.length) (xs := cs .i64 rest) (x := .int .i64 x) (by simpa [cs] using hrow2)
          have hgx : wr.cell? ⟨g, rest.length, none⟩ = some (.int .i64 x) := by
            have h1 := (Rd.of_own hrow2).1
            rcases h1.cases with ⟨h0, _⟩ | ⟨b, off, cp, e, _, _, _, _, hc⟩
            · simp at h0
            · have e1 := (Value.slice.inj e).1
              cases e1
              have := hc rest.length (by simp)
              simpa [List.getD_eq_getElem?_getD] using this
          have hx : 1 ≤ x ∧ x ≤ (N.length : Int) := hlw.inr.news x (by rw [hnews]; simp)
          have hspr := spread_any hcut.1 hx (hmb.cn.room hN hlw.inr |> fun h => ⟨h.shut, h.waits, by have := h.news; rw [hnews] at this; simp at this; show rest.length ≤ _; omega⟩)
          have x0 : wr.cell? ⟨w.heap.size, 0, none⟩ = some (.pointer (some ⟨c.M, 0, none⟩)) := cell_row0 hlw.box
          have hpop := hmb.cn.pop hlw.inr hnews
          have HSP := Lib.hid hspr
          have HLW := Lib.hid hlw
          have HST := Lib.hid hst
          have HMB := Lib.hid hmb
          have HTP := Lib.hid htp
          have HCU := Lib.hid hcut
          have HPO := Lib.hid hpop
          clear hlw hst hmb htp hrow hrow2 hspr hcut hpop hv
          generalize rest.length = q at *
          have hq64 : wrap64 (q : Int) = q := by unfold maxLen at hmx; unfold wrap64; omega
          have hqn : ((q : Int)).toNat = q := by omega
          go_wp2_with (go_at_call 43; refine HSP.out.mono ?_; rintro e w5 ⟨rfl, S5, hsp5, F5, r5, hl5, hst5⟩; have HS5 := Lib.hid hsp5; have HL5 := Lib.hid hl5; have HT5 := Lib.hid hst5; clear hsp5 hl5 hst5)
          go_roundg (gk - 1)
          case measure => have := HPO.out; omega
          case rel =>
            have hm5 := HMB.out.spread hN HLW.out.inr hnews HS5.out
            exact ⟨F5, r5, S5, pop1 p2 x, HL5.out, HST.out.trans (HCU.out.2.trans HT5.out), hm5.1, fun y hy h1 h2 => by
              have h3 := HTP.out y hy h1 h2
              have h4 := hm5.2 y
              have h5 := (HL5.out.inr.stb y).2
              omega, by have := HPO.out; omega⟩
#print axioms learn_any
end Go.Proofs.Ytmplcibaoanlnaa
namespace Go.Proofs.Ytmplcibaoanlnaa
open Go Go.RowKit

theorem Mi.zero {N : List Nd} : Mi N (fun _ => False) MS.none (fun _ => 0) where
  news := rfl
  inr := ⟨fun _ h => absurd rfl h, fun _ => ⟨Int.le_refl _, by show (0 : Int) ≤ 3; decide⟩, fun _ h => (by cases h), fun _ _ h => (by cases h), fun _ _ h => (by cases h), fun _ h => (by cases h)⟩
  cn := by
    have hz : ∀ h, cT N.length MS.none.waits h = 0 := fun h => by
      have := sumN_le (n := N.length) (k := 0) (f := fun y => (MS.none.waits y).count h) fun y _ _ => by simp [MS.none]
      unfold cT; omega
    exact ⟨⟨fun y => (by simp [MS.none, rr]), fun y h hh => (by cases hh), fun h _ => hz h⟩, fun h _ => (by rw [hz]; omega), fun h _ => (by rw [hz]; exact Nat.zero_le _), fun y => (by simp [MS.none])⟩
  inv := ⟨fun h e => absurd (show (0 : Int) = 3 from e) (by decide), fun k e => absurd (show (2 : Int) ≤ 0 from e) (by decide), fun x e => absurd (show (0 : Int) = 1 from e) (by decide), fun x e => absurd (show (0 : Int) = 1 from e) (by decide)⟩
  snd := ⟨fun h e => absurd (show (0 : Int) = 3 from e) (by decide), fun h e => absurd (show (2 : Int) ≤ 0 from e) (by decide), fun a e => (by cases e), fun k u e => (by cases e)⟩
  told := fun _ h => h.elim
def fx0 (B : Nat) (tp : Value) : Fx := ⟨B + 4, B, B + 1, B + 2, B + 3, tp, 0, 0⟩
theorem Mnd.made (w : World) (tp : Value) : Mnd (fx0 w.heap.size tp) (((((w.alloc (.map #[] 0)).alloc (.map #[] 0)).alloc (.map #[] 0)).alloc (.map #[] 0)).alloc (.cells #[tp, .map (some w.heap.size), .map (some (w.heap.size + 1)), .map (some (w.heap.size + 2)), .map (some (w.heap.size + 3))] 80))
    (fun k => w.heap.size ≤ k ∧ k < w.heap.size + 4) (fun _ _ => none) MS.none := by
  have e0 := heap_alloc_new w (.map #[] 0)
  have e1 := heap_alloc2_new w (.map #[] 0) (.map #[] 0)
  have e2 := heap_alloc2_new (w.alloc (.map #[] 0)) (.map #[] 0) (.map #[] 0)
  have e3 := heap_alloc2_new ((w.alloc (.map #[] 0)).alloc (.map #[] 0)) (.map #[] 0) (.map #[] 0)
  have e4 := heap_alloc2_new (((w.alloc (.map #[] 0)).alloc (.map #[] 0)).alloc (.map #[] 0)) (.map #[] 0) (.cells #[tp, .map (some w.heap.size), .map (some (w.heap.size + 1)), .map (some (w.heap.size + 2)), .map (some (w.heap.size + 3))] 80)
  have hmap : ∀ (W : World) (k : Nat), W.heap[k]? = some (.map #[] 0) → MapG W k (fun _ => none) := fun W k hk => by
    have hm := MapG.made { w with heap := (Array.range k).map fun _ => Obj.map #[] 0 }
    have hs : ({ w with heap := (Array.range k).map fun _ => Obj.map #[] 0 } : World).heap.size = k := by simp
    rw [hs] at hm
    refine hm.keep ?_
    have h2 := heap_alloc_new { w with heap := (Array.range k).map fun _ => Obj.map #[] 0 } (.map #[] 0)
    rw [hs] at h2
    rw [hk, h2]
  simp only [World.size_alloc] at e2 e3 e4
  generalize hW : ((((w.alloc (.map #[] 0)).alloc (.map #[] 0)).alloc (.map #[] 0)).alloc (.map #[] 0)).alloc (.cells #[tp, .map (some w.heap.size), .map (some (w.heap.size + 1)), .map (some (w.heap.size + 2)), .map (some (w.heap.size + 3))] 80) = W at *
  have hsz : W.heap.size = w.heap.size + 5 := by rw [← hW]; simp
  have k0 : W.heap[w.heap.size]? = some (.map #[] 0) := by
    rw [← hW, (below_alloc _ _).block _ (by simp <;> omega), (below_alloc _ _).block _ (by simp <;> omega), (below_alloc _ _).block _ (by simp <;> omega), (below_alloc _ _).block _ (by simp)]; exact e0
  have k1 : W.heap[w.heap.size + 1]? = some (.map #[] 0) := by
    rw [← hW, (below_alloc _ _).block _ (by simp <;> omega), (below_alloc _ _).block _ (by simp <;> omega), (below_alloc _ _).block _ (by simp)]; exact e1
  have k2 : W.heap[w.heap.size + 2]? = some (.map #[] 0) := by
    rw [← hW, (below_alloc _ _).block _ (by simp <;> omega), (below_alloc _ _).block _ (by simp)]; exact e2
  have k3 : W.heap[w.heap.size + 3]? = some (.map #[] 0) := by
    rw [← hW, (below_alloc _ _).block _ (by simp)]; exact e3
  exact
  { lt := fun k hk => by omega
    cell := e4
    out := fun e => by have e' : w.heap.size ≤ w.heap.size + 4 ∧ w.heap.size + 4 < w.heap.size + 4 := e; omega
    f1 := ⟨Nat.le_refl _, by show w.heap.size < _; omega⟩, f2 := ⟨by show _ ≤ w.heap.size + 1; omega, by show w.heap.size + 1 < _; omega⟩, f3 := ⟨by show _ ≤ w.heap.size + 2; omega, by show w.heap.size + 2 < _; omega⟩, f4 := ⟨by show _ ≤ w.heap.size + 3; omega, by show w.heap.size + 3 < _; omega⟩
    ne := by
      show w.heap.size ≠ w.heap.size + 1 ∧ w.heap.size ≠ w.heap.size + 2 ∧ w.heap.size ≠ w.heap.size + 3 ∧ w.heap.size + 1 ≠ w.heap.size + 2 ∧ w.heap.size + 1 ≠ w.heap.size + 3 ∧ w.heap.size + 2 ≠ w.heap.size + 3
      omega
    states := (hmap W _ k0).congr fun k => rfl
    shown := (hmap W _ k1).congr fun k => rfl
    shut := (hmap W _ k2).congr fun k => rfl
    waits := (hmap W _ k3).congr fun k => rfl
    rows := fun b k => by
      have : lst MS.none b k = [] := by unfold lst; split <;> (try split) <;> (try split) <;> rfl
      rw [this]
      exact RowF.nil _ _
    apart := fun b k b' k' g h => by cases h }
set_option maxHeartbeats 1000000 in
set_option maxRecDepth 20000 in
theorem mnew_any {w : World} {F : Nat → Prop} {tp : Value} {N : List Nd} (hT : Tp w F tp N) : Calls Try.prog 35 #[tp] w fun e w' => e = .returned (.pointer (some ⟨(fx0 w.heap.size tp).M, 0, none⟩)) ∧ Mnd (fx0 w.heap.size tp) w' (fun k => w.heap.size ≤ k ∧ k < w.heap.size + 4) (fun _ _ => none) MS.none ∧ Below w.heap.size w w' := by
  have hmm := @run_makeMap Try.prog
  have hmade := Mnd.made w tp
  have hb : Below w.heap.size w (((((w.alloc (.map #[] 0)).alloc (.map #[] 0)).alloc (.map #[] 0)).alloc (.map #[] 0)).alloc (.cells #[tp, .map (some w.heap.size), .map (some (w.heap.size + 1)), .map (some (w.heap.size + 2)), .map (some (w.heap.size + 3))] 80)) :=
    ((((below_alloc _ _).trans ((below_alloc _ _).mono (by simp))).trans ((below_alloc _ _).mono (by simp <;> omega))).trans ((below_alloc _ _).mono (by simp <;> omega))).trans ((below_alloc _ _).mono (by simp <;> omega))
  obtain ⟨p, rfl⟩ : ∃ p : Option Addr, tp = .pointer p := by
    rcases hT with ⟨e, _⟩ | ⟨_, tb, _, _, e, _⟩
    · exact ⟨none, e⟩
    · exact ⟨some ⟨tb, 0, none⟩, e⟩
  have HM := Lib.hid hmade
  have HB := Lib.hid hb
  clear hmade hb hT
  go_enter Try.func35, Try.ntmps35
  go_wp2_with fail
  go_ret
  exact ⟨rfl, HM.out, HB.out⟩
set_option maxHeartbeats 1000000 in
set_option maxRecDepth 20000 in
theorem learnt_any {w : World} {tp : Value} {N : List Nd} (hT : Tp w (fun _ => False) tp N) (hN : Wf N) {lv : Value} {ls : List Int} (hl : Rd .i64 w lv ls) (hwf : ∀ y ∈ ls, (Lit.int .i64 y).wf = true) :
    Calls Try.prog 29 #[tp, lv] w fun e w' => ∃ (c : Fx) (F : Nat → Prop) (r : Nat → Int → Option Value) (S : MS) (pops : Int → Nat), e = .returned (.pointer (some ⟨c.M, 0, none⟩)) ∧ c.tp = tp ∧ Mnd c w' F r S ∧ Tp w' F tp N ∧ Mi N (fun y => y ∈ ls) S pops ∧ Below w.heap.size w w' := by
  have hnew := mnew_any hT
  have HT := Lib.hid hT
  have HL := Lib.hid (show OutR (fun _ => False) w lv ls from ⟨hl, fun _ _ _ _ _ h => h⟩)
  have HWF := Lib.hid hwf
  obtain ⟨p, rfl⟩ : ∃ p : Option Addr, tp = .pointer p := by
    rcases hT with ⟨e, _⟩ | ⟨_, tb, _, _, e, _⟩
    · exact ⟨none, e⟩
    · exact ⟨some ⟨tb, 0, none⟩, e⟩
  obtain ⟨la, lc, rfl⟩ : ∃ la lc, lv = .slice la ls.length lc := by obtain ⟨a, c, e, _⟩ := hl; exact ⟨a, c, e⟩
  clear hT hl hwf
  go_enter Try.func29, Try.ntmps29
  go_wp2_with (first
    | (go_at_call 35
       refine hnew.mono ?_
       rintro e w1 ⟨rfl, hm1, hb1⟩
       have hs1 : Stp (fun _ => False) w (fun k => w.heap.size ≤ k ∧ k < w.heap.size + 4) w1 := ⟨hb1.os, hb1.tape, hb1.output, hb1.size, fun k hk _ => hb1.block k hk, fun k hk => .inr hk.1⟩
       have hlearn := learn_any hm1 (HT.out.step hs1) hN (Mi.zero (N := N)) (Cs := fun y => y ∈ ls) (fun _ h => h.elim) (HL.out.step hs1) HWF.out (fun _ h => h) (fun _ h => .inr h)
       have HB1 := Lib.hid hb1
       clear hm1 hs1 hb1 hnew)
    | (go_at_call 36
       refine hlearn.mono ?_
       rintro e w2 ⟨rfl, F2, r2, S2, p2, X, NB, q1, q2, q3, q4⟩
       have Q1 := Lib.hid q1
       have Q2 := Lib.hid q2
       have Q3 := Lib.hid q3
       have Q4 := Lib.hid q4
       clear q1 q2 q3 q4 hlearn))
  go_ret
  exact ⟨(fx0 w.heap.size (.pointer p)).re X NB, F2, r2, S2, p2, rfl, rfl, Q1.out, Q2.out, Q3.out, HB1.out.trans (Q4.out.toBelow HB1.out.size fun k hk => hk.1)⟩
set_option maxHeartbeats 1000000 in
set_option maxRecDepth 20000 in
/-- What can be made of a list. -/
theorem kcan_any {w : World} {tp : Value} {N : List Nd} (hT : Tp w (fun _ => False) tp N) (hN : Wf N) {lv : Value} {ls : List Int} (hl : Rd .i64 w lv ls) (hwf : ∀ y ∈ ls, (Lit.int .i64 y).wf = true) {h : Int} (hh : (Lit.int .i64 h).wf = true) :
    Calls Try.prog 17 #[tp, lv, .int .i64 h] w fun e w' => ∃ b : Bool, e = .returned (.bool b) ∧ (b = true ↔ Der N (fun y => y ∈ ls) false h) ∧ Below w.heap.size w w' := by
  have hlearn := learnt_any hT hN hl hwf
  obtain ⟨p, rfl⟩ : ∃ p : Option Addr, tp = .pointer p := by
    rcases hT with ⟨e, _⟩ | ⟨_, tb, _, _, e, _⟩
    · exact ⟨none, e⟩
    · exact ⟨some ⟨tb, 0, none⟩, e⟩
  obtain ⟨la, lc, rfl⟩ : ∃ la lc, lv = .slice la ls.length lc := by obtain ⟨a, c, e, _⟩ := hl; exact ⟨a, c, e⟩
  clear hT hl hwf
  go_enter Try.func17, Try.ntmps17
  go_wp2_with (first
    | (go_at_call 29
       refine hlearn.mono ?_
       rintro e w1 ⟨c, F, r, S, pops, rfl, hc, q1, q2, q3, q4⟩
       have hcan := canm_any q1 (hc ▸ q2) hN hh
       have Q3 := Lib.hid q3
       have Q4 := Lib.hid q4
       clear hc q1 q2 q3 q4 hlearn)
    | (go_at_call 30
       refine hcan.mono ?_
       rintro e w2 ⟨l, hl, rfl, hb⟩
       have HL := Lib.hid hl
       have HB := Lib.hid hb
       clear hl hb hcan))
  go_ret
  exact ⟨_, rfl, Q3.out.can hN HL.out, Q4.out.trans (HB.out.mono Q4.out.size)⟩
#print axioms kcan_any
#print axioms mnew_any
#print axioms Mi.zero
end Go.Proofs.Ytmplcibaoanlnaa
