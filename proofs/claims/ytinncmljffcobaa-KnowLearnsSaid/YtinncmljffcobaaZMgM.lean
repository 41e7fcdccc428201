/- Whether a mind can make a term. -/
import Derived.Test.YtinncmljffcobaaZMgO
import Derived.Test.YtinncmljffcobaaZPkI
import Derived.Test.YtinncmljffcobaaZMgE
namespace Go.Proofs.Ytinncmljffcobaa
open Go Go.RowKit Go.Shelf

/-- The map of what is found on the way. -/
abbrev OwnM (w : World) (o : Nat) (own : Int → Bool) : Prop := MapG w o (fun k => if own k = true then some (.agg #[]) else none)
theorem ownLook {w : World} {o : Nat} {own : Int → Bool} (h : OwnM w o own) {k : Int} (hk : (Lit.int .i64 k).wf = true) :
    (Instr.lookup 72 (.map (some o)) (.int .i64 k) true).run Try.prog w = .ok (.tuple #[.agg #[], .bool (own k)]) w := by
  rw [h.look2 Try.underlying72 zeroUn hk]
  cases e : own k <;> simp
set_option maxHeartbeats 1000000 in
set_option maxRecDepth 20000 in
theorem can_c {c : Fx} {w : World} {F : Nat → Prop} {r : Nat → Int → Option Value} {S : MS} (h : Mnd c w F r S) {o o1 o2 : Nat} {own : Int → Bool} (ho : OwnM w o own) (k1 : w.cell? ⟨o1, 0, none⟩ = some (.map (some o))) (k2 : w.cell? ⟨o2, 0, none⟩ = some (.pointer (some ⟨c.M, 0, none⟩)))
    {y : Int} (hy : (Lit.int .i64 y).wf = true) :
    Calls Try.prog 36 #[.int .i64 y, .pointer (some ⟨o1, 0, none⟩), .pointer (some ⟨o2, 0, none⟩)] w fun e w' => e = .returned (.bool (own y || canP S y)) ∧ Below w.heap.size w w' := by
  have hl := ownLook ho hy
  have bb := below_alloc w (.cells #[.agg #[]] 79)
  have bb0 := below_alloc w (.cells #[] 79)
  have hm := h.below bb0
  have kk2 := keepS bb0 k2
  have hc := can_any hm hy
  clear h hm ho
  cases hO : own y with
  | true =>
    rw [hO] at hl
    go_enter Try.func36, Try.ntmps36
    go_wp2_with fail
    go_ret
    exact ⟨rfl, bb0⟩
  | false =>
    rw [hO] at hl
    go_enter Try.func36, Try.ntmps36
    go_wp2_with (go_at_call 37; refine hc.mono ?_; rintro e w3 ⟨rfl, rfl⟩)
    go_ret
    exact ⟨rfl, bb0⟩
#print axioms can_c
end Go.Proofs.Ytinncmljffcobaa
namespace Go.Proofs.Ytinncmljffcobaa
open Go Go.RowKit Go.Shelf
attribute [local go_sem] Oper.semAt_some
theorem run_store_fn {P : Program} {w : World} {a : Addr} {m : Mode} (fn : Fn) (first captured : Array Value) : (store a (.func fn first captured) m).run P w = stored P w a (.func fn first captured) m := run_store P w a _ m rfl
attribute [local go_sem] run_store_fn
theorem callsIn_world {F : Fence} {n : Nat} {P : Program} {f : FuncId} {xs : Array Value} {Q : Ending → World → Prop} {W : World} (C : World → Prop) (hC : C W) (h : ∀ W', C W' → CallsIn F n P f xs W' Q) : CallsIn F n P f xs W Q := h W hC
/-- The frame of Can: the mind's pointer, the map, its box, the closure's. -/
structure Cf (c : Fx) (w W : World) : Prop where
  size : W.heap.size = w.heap.size + 4
  b : Below w.heap.size w W
  e0 : W.heap[w.heap.size]? = some (.cells #[.pointer (some ⟨c.M, 0, none⟩)] 44 (0, 0))
  e1 : W.heap[w.heap.size + 1]? = some (.map #[] 0)
  e2 : W.heap[w.heap.size + 2]? = some (.cells #[.map (some (w.heap.size + 1))] 72 (0, 0))
  e3 : W.heap[w.heap.size + 3]? = some (.cells #[.func (.func 36) #[] #[.pointer (some ⟨w.heap.size + 2, 0, none⟩), .pointer (some ⟨w.heap.size, 0, none⟩)]] 48 (0, 0))
theorem Cf.made (c : Fx) (w : World) : Cf c w ((((w.alloc (.cells #[.pointer (some ⟨c.M, 0, none⟩)] 44)).alloc (.map #[] 0)).alloc (.cells #[.map (some (w.heap.size + 1))] 72)).alloc
    (.cells #[.func (.func 36) #[] #[.pointer (some ⟨w.heap.size + 2, 0, none⟩), .pointer (some ⟨w.heap.size, 0, none⟩)]] 48)) where
  size := by simp
  b := (((below_alloc _ _).trans ((below_alloc _ _).mono (by simp))).trans ((below_alloc _ _).mono (by simp; omega))).trans ((below_alloc _ _).mono (by simp; omega))
  e0 := by rw [(below_alloc _ _).block _ (by simp; omega), (below_alloc _ _).block _ (by simp; omega), (below_alloc _ _).block _ (by simp)]; exact heap_alloc_new w _
  e1 := by rw [(below_alloc _ _).block _ (by simp), (below_alloc _ _).block _ (by simp)]; exact heap_alloc2_new w _ _
  e2 := by
    rw [(below_alloc _ _).block _ (by simp)]
    have := heap_alloc2_new (w.alloc (.cells #[.pointer (some ⟨c.M, 0, none⟩)] 44)) (.map #[] 0) (.cells #[.map (some (w.heap.size + 1))] 72)
    simpa using this
  e3 := by
    have := heap_alloc2_new ((w.alloc (.cells #[.pointer (some ⟨c.M, 0, none⟩)] 44)).alloc (.map #[] 0)) (.cells #[.map (some (w.heap.size + 1))] 72) (.cells #[.func (.func 36) #[] #[.pointer (some ⟨w.heap.size + 2, 0, none⟩), .pointer (some ⟨w.heap.size, 0, none⟩)]] 48)
    simpa using this
/-- .. with what the loop over the term's parts has beside it. -/
structure Cg (c : Fx) (w : World) (x : Int) (X : Obj) (W : World) : Prop where
  size : W.heap.size = w.heap.size + 8
  b : Below w.heap.size w W
  e0 : W.heap[w.heap.size]? = some (.cells #[.pointer (some ⟨c.M, 0, none⟩)] 44 (0, 0))
  e1 : W.heap[w.heap.size + 1]? = some (.map #[] 0)
  e2 : W.heap[w.heap.size + 2]? = some (.cells #[.map (some (w.heap.size + 1))] 72 (0, 0))
  e3 : W.heap[w.heap.size + 3]? = some (.cells #[.func (.func 36) #[] #[.pointer (some ⟨w.heap.size + 2, 0, none⟩), .pointer (some ⟨w.heap.size, 0, none⟩)]] 48 (0, 0))
  e4 : W.heap[w.heap.size + 4]? = some (.cells #[.pointer (some ⟨c.M, 0, none⟩)] 44 (0, 0))
  e5 : W.heap[w.heap.size + 5]? = some (.cells #[.int .i64 x] 42 (0, 0))
  e6 : W.heap[w.heap.size + 6]? = some (.deferred (some []))
  e7 : W.heap[w.heap.size + 7]? = some X
theorem Cf.more {c : Fx} {w W : World} (h : Cf c w W) (x : Int) (X : Obj) : Cg c w x X ((((W.alloc (.cells #[.pointer (some ⟨c.M, 0, none⟩)] 44)).alloc (.cells #[.int .i64 x] 42)).alloc (.deferred (some []))).alloc X) := by
  have hs := h.size
  have hb : Below W.heap.size W ((((W.alloc (.cells #[.pointer (some ⟨c.M, 0, none⟩)] 44)).alloc (.cells #[.int .i64 x] 42)).alloc (.deferred (some []))).alloc X) :=
    (((below_alloc _ _).trans ((below_alloc _ _).mono (by simp))).trans ((below_alloc _ _).mono (by simp; omega))).trans ((below_alloc _ _).mono (by simp; omega))
  exact
  { size := by simp [hs]
    b := h.b.trans (hb.mono h.b.size)
    e0 := by rw [hb.block _ (by omega)]; exact h.e0
    e1 := by rw [hb.block _ (by omega)]; exact h.e1
    e2 := by rw [hb.block _ (by omega)]; exact h.e2
    e3 := by rw [hb.block _ (by omega)]; exact h.e3
    e4 := by
      rw [(below_alloc _ _).block _ (by simp; omega), (below_alloc _ _).block _ (by simp; omega), (below_alloc _ _).block _ (by simp; omega)]
      have := heap_alloc_new W (.cells #[.pointer (some ⟨c.M, 0, none⟩)] 44)
      rwa [hs] at this
    e5 := by
      rw [(below_alloc _ _).block _ (by simp; omega), (below_alloc _ _).block _ (by simp; omega)]
      have := heap_alloc2_new W (.cells #[.pointer (some ⟨c.M, 0, none⟩)] 44) (.cells #[.int .i64 x] 42)
      rwa [hs] at this
    e6 := by
      rw [(below_alloc _ _).block _ (by simp; omega)]
      have := heap_alloc2_new (W.alloc (.cells #[.pointer (some ⟨c.M, 0, none⟩)] 44)) (.cells #[.int .i64 x] 42) (.deferred (some []))
      simpa [hs] using this
    e7 := by
      have := heap_alloc2_new ((W.alloc (.cells #[.pointer (some ⟨c.M, 0, none⟩)] 44)).alloc (.cells #[.int .i64 x] 42)) (.deferred (some [])) X
      simpa [hs] using this }
theorem can_out {R : Ending → World → Prop} {tmps : Array Value} {W : World} {D : Nat} (hd : W.heap[D]? = some (.deferred (some []))) (hR : R (.returned (tmps.getD 4 undef)) (W.putObj D (.deferred none))) :
    LeavesInM Fence.wide 8 Try.prog Try.f21 tmps R [{ target := .collected D, args := #[] }] .returning W :=
  ⟨by simp, .inl ⟨_, _, rfl, run_takeDeferred hd, _, results_tmp (t := 4) rfl _ _ _, hR⟩⟩
/-- What holds between two rounds. -/
def Jc (N : List Nd) (S : MS) (O : Nat) (W Ws : World) (qs : List Int) (W' : World) : Prop := Below W.heap.size W Ws ∧ OwnM W' O (qs.foldl (ownStep N S) (fun _ => false)) ∧ Stp (fun k => k = O) Ws (fun k => k = O) W'
set_option maxHeartbeats 8000000 in
set_option maxRecDepth 20000 in
theorem canm_any {c : Fx} {N : List Nd} {w : World} {F : Nat → Prop} {r : Nat → Int → Option Value} {S : MS} (h : Mnd c w F r S) (hT : Tp w F c.tp N) (hN : Wf N) {x : Int} (hw : (Lit.int .i64 x).wf = true) :
    Calls Try.prog 21 #[.pointer (some ⟨c.M, 0, none⟩), .int .i64 x] w fun e w' => ∃ l, Bel N S.st x l ∧ e = .returned (.bool (ownF N S l x || canP S x)) ∧ Below w.heap.size w w' := by
  refine callsIn_wide.1 (callsIn_of_wp_marks (n := 8) (F := Fence.wide) Try.func21 rfl trivial ?_ rfl)
  have hmm := @run_makeMap Try.prog
  have hF39 : Fence.wide.fn 39 := trivial
  have hF36 : Fence.wide.fn 36 := trivial
  have hF38 : Fence.wide.fn 38 := trivial
  simp only [Try.ntmps21, List.size_toArray, List.length_cons, List.length_nil, Nat.reduceAdd, Nat.reduceSub, Array.replicate_succ, Array.replicate_zero, List.push_toArray, List.append_toArray, List.nil_append, List.cons_append]
  gi_wp2
  refine callsIn_world (Cf c w) (Cf.made c w) (fun W3 hf => ?_)
  refine (callsIn_wide.2 below_any).mono ?_
  rintro e w' ⟨rfl, rfl⟩
  gi_wp2
  refine wpIn_wide.2 (range_open rfl (enters_of Try.func54 (by kernel_rfl) rfl) fun fn => ?_)
  have hsz := hf.size
  have hz2 : ((W3.alloc (.cells #[.pointer (some ⟨c.M, 0, none⟩)] 44)).alloc (.cells #[.int .i64 x] 42)).heap.size = w.heap.size + 6 := by simp [hsz]
  rw [hz2, hsz]
  have HG := fun X => hf.more x X
  have hM := blk_lt h.cell
  have hFl := h.lt
  refine (callsIn_wide.1 (below_in (c := c) (F := F) (r := r) (n := 8) (hb := w.heap.size + 4 + 1) (mb := w.heap.size + 4) (h.below (HG _).b) (hT.step (.below (HG _).b)) hN hw (by decide) (cell_row0 (HG _).e5) (cell_row0 (HG _).e4)
    (Jc N S (w.heap.size + 1) _) (fun Ws hWs => ⟨hWs, ?hown, .refl _ _⟩) (fun Ws qs W' hJ k h1 h2 => ?_) ?hY)).mono ?post
  case hown =>
    have hmade := MapG.made (w.alloc (.cells #[.pointer (some ⟨c.M, 0, none⟩)] 44))
    have hss : (w.alloc (.cells #[.pointer (some ⟨c.M, 0, none⟩)] 44)).heap.size = w.heap.size + 1 := by simp
    rw [hss] at hmade
    refine (hmade.keep ?_).congr fun k => by simp
    have h3 := heap_alloc_new (w.alloc (.cells #[.pointer (some ⟨c.M, 0, none⟩)] 44)) (.map #[] 0)
    rw [hss] at h3
    rw [h3, hWs.block _ (by rw [(HG _).size]; omega)]
    exact (HG _).e1
  · obtain ⟨_, _, hst⟩ := hJ
    rw [(HG _).size] at h1
    exact hst.block k h2 (fun e => by omega)
  case hY =>
    intro Ws lq qs x' s a cp W1 hBel hpre hJ hpr
    obtain ⟨hbW, hom, hst⟩ := hJ
    have hs1 := hbW.size
    rw [(HG _).size] at hs1 hpr
    have hWs : ∀ k, w.heap.size ≤ k → k < Ws.heap.size → k ≠ w.heap.size + 1 → W1.heap[k]? = Ws.heap[k]? := fun k h1 h2 h3 => hst.block k h2 h3
    have hold : ∀ k, w.heap.size ≤ k → k < w.heap.size + 8 → k ≠ w.heap.size + 1 → W1.heap[k]? = _ := fun k h1 h2 h3 => (hWs k h1 (by omega) h3).trans (hbW.block k (by rw [(HG _).size]; omega))
    have hrec := (hold (w.heap.size + 7) (by omega) (by omega) (by omega)).trans (HG _).e7
    have hb0 := (hold w.heap.size (by omega) (by omega) (by omega)).trans (HG _).e0
    have hb2 := (hold (w.heap.size + 2) (by omega) (by omega) (by omega)).trans (HG _).e2
    have hb3 := (hold (w.heap.size + 3) (by omega) (by omega) (by omega)).trans (HG _).e3
    have hbw1 : Below w.heap.size w W1 := ((HG _).b.trans (hbW.mono (by rw [(HG _).size]; omega))).trans (hst.toBelow (B := w.heap.size) (by omega) (fun k hk => by omega))
    have hin := hBel.inn x' (hpre.subset (by simp))
    have hpw : W1.ownsRow (w.heap.size + 8) 42 1 (.slice a (partsN N x').length cp) (partsN N x').length (cs .i64 (partsN N x')) := own_keep hpr fun k hk => hWs k (by have := (hpr.lt k hk).1; omega) (hpr.lt k hk).2 (by have := (hpr.lt k hk).1; omega)
    have hfar : ∀ k, (Value.slice a (partsN N x').length cp).ownBlock = some k → w.heap.size + 8 ≤ k ∧ k < W1.heap.size := fun k hk => ⟨(hpr.lt k hk).1, (hpw.lt k hk).2⟩
    have HOM := Lib.hid hom
    have HST := Lib.hid hst
    have HBW := Lib.hid hbW
    have HPW := Lib.hid hpw
    have HFAR := Lib.hid hfar
    have HIN := Lib.hid hin
    have HREC := Lib.hid hrec
    have HX := Lib.hid (And.intro hb0 (And.intro hb2 hb3))
    have HS1 := Lib.hid hs1
    have HB1 := Lib.hid hbw1
    have HH := Lib.hid h
    refine yield_open hrec rfl ?_
    clear hom hst hbW hpw hfar hin hrec hb0 hb2 hb3 hs1 hbw1 hpr hBel hpre hWs hold hf HG h
    gi_wp2
    refine ⟨row_keep (below_alloc W1 _) HREC.out, ?_⟩
    have hl1 := blk_lt HREC.out
    refine wpIn_world (fun Wd => Wd = (W1.alloc (.cells #[.int .i64 (kindN N x'), .string s, .slice a (partsN N x').length cp] 53)).putObj (w.heap.size + 6 + 1) _) rfl ?_
    intro Wd hWd
    have hkd : ∀ k, k < W1.heap.size → k ≠ w.heap.size + 7 → Wd.heap[k]? = W1.heap[k]? := fun k h1 h2 => by rw [hWd, World.putObj_heap_other (by omega), (below_alloc W1 _).block k h1]
    have hnd : Wd.heap[W1.heap.size]? = some (.cells #[.int .i64 (kindN N x'), .string s, .slice a (partsN N x').length cp] 53 (0, 0)) := by
      rw [hWd, World.putObj_heap_other (by omega)]; exact heap_alloc_new W1 _
    have hbusy : ∃ X, Wd.heap[w.heap.size + 7]? = some (.loop X) := by rw [hWd]; exact ⟨_, World.putObj_heap_same (by simp; omega)⟩
    have hszd : Wd.heap.size = W1.heap.size + 1 := by rw [hWd]; simp
    have hbd : Below w.heap.size w Wd := by
      have h1 := HB1.out
      refine ⟨?_, ?_, ?_, by have := h1.size; omega, fun k hk => (hkd k (by have := h1.size; omega) (by omega)).trans (h1.block k hk)⟩
      · rw [hWd]; exact h1.os
      · rw [hWd]; exact h1.tape
      · rw [hWd]; exact h1.output
    have hmd := HH.out.below hbd
    have homd : OwnM Wd (w.heap.size + 1) _ := HOM.out.keep (hkd _ (by omega) (by omega))
    have k0 := cell_row0 ((hkd _ (by omega) (by omega)).trans HX.out.1)
    have k2 := cell_row0 ((hkd _ (by omega) (by omega)).trans HX.out.2.1)
    have k3 := cell_row0 ((hkd _ (by omega) (by omega)).trans HX.out.2.2)
    have n0 : Wd.cell? ⟨W1.heap.size, 0, none⟩ = some (.int .i64 (kindN N x')) := by unfold World.cell?; rw [hnd]; rfl
    have n1 : Wd.cell? ⟨W1.heap.size, 1, none⟩ = some (.string s) := by unfold World.cell?; rw [hnd]; rfl
    have n2 : Wd.cell? ⟨W1.heap.size, 2, none⟩ = some (.slice a (partsN N x').length cp) := by unfold World.cell?; rw [hnd]; rfl
    have hrd : Rd .i64 Wd (.slice a (partsN N x').length cp) (partsN N x') := (Rd.of_own (own_keep HPW.out fun k hk => hkd k (HFAR.out k hk).2 (by have := (HFAR.out k hk).1; omega))).1
    have hoF : partsN N x' ≠ [] → OutF F (.slice a (partsN N x').length cp) := fun hz ad m cq e hF => by
      have hob : (Value.slice a (partsN N x').length cp).ownBlock = some ad.block := by
        rcases HPW.out.2 with ⟨e2, _⟩ | ⟨g2, cap2, cur, e2, _⟩
        · rw [e2] at e; cases e
        · rw [e2] at e; cases e; rw [e2]; rfl
      have h1 := (HFAR.out _ hob).1
      have h2 := hFl _ hF
      omega
    have hlow := hN.low x' HIN.out.1 HIN.out.2.1
    have hlk := callsIn_wide (n := 8 - 1 - 1).2 (lacks_c hmd (cn := fun y => qs.foldl (ownStep N S) (fun _ => false) y || canP S y) (o1 := w.heap.size + 2) (o2 := w.heap.size)
      (fun W hW y hy => can_c (hmd.below hW) (homd.keep (hW.block _ homd.lt)) (keepS hW k2) (keepS hW k0) hy) (x := x') (k := kindN N x') (s := s) hrd hoF
      (fun y hy => by have := hlow y hy; exact wfT this.1 (by have := hN.few; have := HIN.out.2.1; omega)) (fun e => (hN.two x' e).1) (hN.sixteen x'))
    have hfold : (qs ++ [x']).foldl (ownStep N S) (fun _ => false) = if lackP S (fun y => qs.foldl (ownStep N S) (fun _ => false) y || canP S y) x' (kindN N x') (partsN N x') = [] then up (qs.foldl (ownStep N S) (fun _ => false)) x' true else qs.foldl (ownStep N S) (fun _ => false) := by
      rw [List.foldl_append]; rfl
    generalize lackP S (fun y => qs.foldl (ownStep N S) (fun _ => false) y || canP S y) x' (kindN N x') (partsN N x') = L at *
    have k1 : Wd.cell? ⟨w.heap.size + 1 + 1, 0, none⟩ = some (.map (some (w.heap.size + 1))) := k2
    have HWD := Lib.hid hWd
    have HBY := Lib.hid hbusy
    have HSZ := Lib.hid hszd
    have HOD := Lib.hid homd
    have HF := Lib.hid hfold
    have HK1 := Lib.hid k1
    clear hbusy hkd hnd hbd hmd homd hrd hoF hlow hfold hWd hszd
    by_cases hL : L = []
    · rw [hL] at hlk
      gi_wp2_with (first
        | (gi_at_call 39
           refine (CallsIn.inRound _ hlk).mono ?_
           rintro e w6 ⟨v, rfl, hrd6, ho6, hb6⟩
           obtain ⟨va, vc, rfl⟩ : ∃ va vc, v = .slice va 0 vc := by obtain ⟨a, c, e, _⟩ := hrd6; exact ⟨a, c, e⟩
           have HB6 := Lib.hid hb6
           have k1b := keepS hb6 HK1.out
           clear hrd6 ho6 hb6 hlk)
        | (gi_at_mapUpdate
           refine wpListIn_updG rfl _ _ _ 72 79 rfl Try.underlying72 (HOD.out.keep (HB6.out.block _ HOD.out.lt)) HIN.out.1 (by have := HIN.out.2.1; have := hN.few; omega) (.agg #[]) rfl rfl rfl ?_
           intro w7 hm7 hg7
           have HM7 := Lib.hid hm7
           have HG7 := Lib.hid hg7
           clear hm7 hg7))
      have hp2 : Stp (fun k => k = w.heap.size + 1) Wd (fun k => k = w.heap.size + 1) w7 := (Stp.below HB6.out).trans (Stp.of_grown HG7.out (fun g e => by cases e; rfl) (fun k hk => .inl hk))
      have hby : Wd.heap[w.heap.size + 6 + 1]? = _ := (congrArg (fun W : World => W.heap[w.heap.size + 6 + 1]?) HWD.out).trans (World.putObj_heap_same (by simp; omega))
      have hby7 := (hp2.block (w.heap.size + 6 + 1) (by have := HSZ.out; omega) (by omega)).trans hby
      rw [HWD.out] at hp2
      refine ⟨hby7, rfl, HBW.out, ?_, HST.out.trans (stp_round HREC.out (by omega) hp2)⟩
      rw [HF.out, if_pos hL]
      refine MapG.keep (MapG.congr HM7.out fun k => ?_) (World.putObj_heap_other (by omega))
      by_cases e : k = x'
      · subst e; rw [if_pos rfl, up_same, if_pos rfl]
      · rw [if_neg e, up_other _ _ e]
    · have hz : ((L.length : Int) == 0) = false := by
        have : L.length ≠ 0 := fun e => hL (List.length_eq_zero_iff.1 e)
        have h1 : (L.length : Int) ≠ 0 := by omega
        simpa using h1
      gi_wp2_with (gi_at_call 39; refine (CallsIn.inRound _ hlk).mono ?_; rintro e w6 ⟨v, rfl, hrd6, ho6, hb6⟩; obtain ⟨va, vc, rfl⟩ : ∃ va vc, v = .slice va L.length vc := (by obtain ⟨a, c, e, _⟩ := hrd6; exact ⟨a, c, e⟩); have HB6 := Lib.hid hb6; clear hrd6 ho6 hb6 hlk)
      have hp2 : Stp (fun k => k = w.heap.size + 1) Wd (fun k => k = w.heap.size + 1) w6 := Stp.below HB6.out
      have hby : Wd.heap[w.heap.size + 6 + 1]? = _ := (congrArg (fun W : World => W.heap[w.heap.size + 6 + 1]?) HWD.out).trans (World.putObj_heap_same (by simp; omega))
      have hby7 := (hp2.block (w.heap.size + 6 + 1) (by have := HSZ.out; omega) (by omega)).trans hby
      have hom6 : OwnM w6 (w.heap.size + 1) _ := HOD.out.keep (HB6.out.block _ HOD.out.lt)
      rw [HWD.out] at hp2
      refine ⟨hby7, rfl, HBW.out, ?_, HST.out.trans (stp_round HREC.out (by omega) hp2)⟩
      rw [HF.out, if_neg hL]
      exact MapG.keep hom6 (World.putObj_heap_other (by omega))
  case post =>
    rintro e W ⟨he, Ws, l, hBel, hbW, hom, hst⟩
    have hs1 := hbW.size
    rw [(HG _).size] at hs1
    have hold : ∀ k, w.heap.size ≤ k → k < w.heap.size + 8 → k ≠ w.heap.size + 1 → W.heap[k]? = _ := fun k h1 h2 h3 => (hst.block k (by omega) h3).trans (hbW.block k (by rw [(HG _).size]; omega))
    have hrec := (hold (w.heap.size + 7) (by omega) (by omega) (by omega)).trans (HG _).e7
    have hb0 := (hold w.heap.size (by omega) (by omega) (by omega)).trans (HG _).e0
    have hb2 := (hold (w.heap.size + 2) (by omega) (by omega) (by omega)).trans (HG _).e2
    have hb3 := (hold (w.heap.size + 3) (by omega) (by omega) (by omega)).trans (HG _).e3
    have hb6 := (hold (w.heap.size + 6) (by omega) (by omega) (by omega)).trans (HG _).e6
    have hbw1 : Below w.heap.size w W := ((HG _).b.trans (hbW.mono (by rw [(HG _).size]; omega))).trans (hst.toBelow (B := w.heap.size) (by omega) (fun k hk => by omega))
    refine ⟨he, .inl ⟨hrec, fun o => ?_⟩⟩
    have hne : ∀ k, k ≠ w.heap.size + 7 → (W.putObj (w.heap.size + 6 + 1) o).heap[k]? = W.heap[k]? := fun k hk => World.putObj_heap_other (by omega)
    have hbw2 : Below w.heap.size w (W.putObj (w.heap.size + 6 + 1) o) := ⟨hbw1.os, hbw1.tape, hbw1.output, by have := hbw1.size; simpa using this, fun k hk => (hne k (by omega)).trans (hbw1.block k hk)⟩
    have hm2 := h.below hbw2
    have ho2 : OwnM (W.putObj (w.heap.size + 6 + 1) o) (w.heap.size + 1) _ := hom.keep (hne _ (by omega))
    have k0 := cell_row0 ((hne _ (by omega)).trans hb0)
    have k2 := cell_row0 ((hne _ (by omega)).trans hb2)
    have k3 := cell_row0 ((hne _ (by omega)).trans hb3)
    have hd6 := (hne _ (by omega)).trans hb6
    have hcan := can_c hm2 ho2 k2 k0 hw
    show Exit.inBlock 0 _ Exit.normal _ (W.putObj (w.heap.size + 6 + 1) o)
    generalize W.putObj (w.heap.size + 6 + 1) o = W2 at *
    have HD := Lib.hid hd6
    have HB := Lib.hid hbw2
    have HBEL := Lib.hid hBel
    have k3' : W2.cell? ⟨w.heap.size + 1 + 1 + 1, 0, none⟩ = _ := k3
    clear hd6 hbw2 hBel hm2 ho2 hbw1 hrec hb0 hb2 hb3 hb6 hold hs1 hst hom hbW HG hf h hT hN hne
    simp only [Exit.inBlock, Exit.then]
    refine ‹∀ (a : Act) (w : World), Code.wpIn Fence.wide 8 Try.prog _ _ a w → _› _ _ ?_
    refine wpIn_wide.2 ?_
    dsimp only [marked]
    change Calls _ _ _ _ (fun e w' => e = .returned (.bool (ownF N S l x || canP S x)) ∧ _) at hcan
    generalize hres : (ownF N S l x || canP S x) = res at *
    go_wp2_with (go_at_call 36; refine hcan.mono ?_; rintro e w3 ⟨rfl, hb3⟩; have HB3 := Lib.hid hb3; clear hb3)
    have hd3 := (HB3.out.block (w.heap.size + 6) (blk_lt HD.out)).trans HD.out
    refine can_out hd3 ⟨l, HBEL.out, by rw [hres]; rfl, ?_⟩
    have h3 := HB.out.trans (HB3.out.mono HB.out.size)
    exact ⟨h3.os, h3.tape, h3.output, by have := h3.size; simpa using this, fun k hk => by rw [World.putObj_heap_other (by omega)]; exact h3.block k hk⟩
set_option maxRecDepth 20000 in
theorem canm_nil {w : World} {x : Int} : Calls Try.prog 21 #[.pointer none, .int .i64 x] w fun e w' => e = .returned (.bool false) ∧ Below w.heap.size w w' := by
  have bb := below_alloc w (.cells #[.pointer none] 44)
  go_enter Try.func21, Try.ntmps21
  go_wp2_with fail
  go_ret
  exact ⟨rfl, bb⟩
#print axioms canm_any
end Go.Proofs.Ytinncmljffcobaa
