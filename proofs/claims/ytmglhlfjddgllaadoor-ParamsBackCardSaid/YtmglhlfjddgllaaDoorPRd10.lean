/- params.Read tells what bytes are as params. -/
import Derived.Test.YtmglhlfjddgllaaDoorPRd8
import Derived.Test.YtmglhlfjddgllaaDoorPRdP
namespace Go.Proofs.YtmglhlfjddgllaaDoor
open Go Go.RowKit

/-- The two boxes, as they are made. -/
def bxW (w : World) : World := (w.alloc (.cells #[.int .i64 0, .int .i64 0, .bool false, .bool false, .bool false, .slice none 0 0, .slice none 0 0, .slice none 0 0, .int .i64 0, .slice none 0 0] 27)).alloc (.cells #[.int .i64 0] 34)
theorem bxW_below (w : World) : Below w.heap.size w (bxW w) := ((below_alloc w _).alloc (by simp) _)
theorem bxW_size (w : World) : (bxW w).heap.size = w.heap.size + 2 := by simp [bxW]
/-- The two boxes, as they were made. -/
structure Bz (H : Nat) (w : World) : Prop where
  h : w.heap[H]? = some (.cells #[.int .i64 0, .int .i64 0, .bool false, .bool false, .bool false, .slice none 0 0, .slice none 0 0, .slice none 0 0, .int .i64 0, .slice none 0 0] 27 (0, 0))
  x : w.heap[H + 1]? = some (.cells #[.int .i64 0] 34 (0, 0))
theorem Bz.bx {H : Nat} {w : World} (h : Bz H w) : Bx H w := ⟨⟨_, _, _, _, _, _, _, _, _, _, h.h⟩, ⟨_, h.x⟩⟩
theorem Bz.keep {H : Nat} {w w' : World} (h : Bz H w) (h0 : w'.heap[H]? = w.heap[H]?) (h1 : w'.heap[H + 1]? = w.heap[H + 1]?) : Bz H w' := ⟨by rw [h0]; exact h.h, by rw [h1]; exact h.x⟩
theorem bxW_bx (w : World) : Bz w.heap.size (bxW w) := by
  have h0 := heap_alloc_new w (.cells #[.int .i64 0, .int .i64 0, .bool false, .bool false, .bool false, .slice none 0 0, .slice none 0 0, .slice none 0 0, .int .i64 0, .slice none 0 0] 27)
  unfold bxW
  exact ⟨(Below.heap_alloc _ _ w.heap.size (by simp)).trans h0, heap_alloc2_new w _ _⟩
theorem cell_mem {w : World} {K : Nat} {cs : Array Value} {T : TypeId} {m : Nat × Nat} (h : w.heap[K]? = some (.cells cs T m)) {a : Addr} {x : Value} (ha : a.block = K) (he : w.cell? a = some x) : x ∈ cs.toList := by
  unfold World.cell? at he
  rw [ha, h] at he
  simp only at he
  split at he
  · cases he
  · have := Array.mem_of_getElem? he
    simpa using this
theorem Bz.no {H : Nat} {w : World} (h : Bz H w) {a : Addr} (ha : a.block = H ∨ a.block = H + 1) : (∀ x, w.cell? a ≠ some (.int .u8 x)) ∧ (∀ x, 1 ≤ x → w.cell? a ≠ some (.int .i64 x)) := by
  rcases ha with ha | ha
  · refine ⟨fun x he => ?_, fun x hx he => ?_⟩
    · have hm := cell_mem h.h ha he
      simp at hm
    · have hm := cell_mem h.h ha he
      simp at hm; omega
  · refine ⟨fun x he => ?_, fun x hx he => ?_⟩
    · have hm := cell_mem h.x ha he
      simp at hm
    · have hm := cell_mem h.x ha he
      simp at hm; omega
/-- What is read stands behind the stores into the two boxes. -/
theorem Bz.pr {H : Nat} {w w' : World} {p : Pv} {v5 v6 v7 v9 : Value} (h : Bz H w) (hp : Pr w p v5 v6 v7 v9) (hl : ∀ x ∈ p.l, 1 ≤ x) (hk : ∀ k, k < w.heap.size → k ≠ H → k ≠ H + 1 → w'.heap[k]? = w.heap[k]?) : Pr w' p v5 v6 v7 v9 := by
  have hr : ∀ {v : Value} {zs : List Int}, Rd w v zs → Rd w' v zs := fun hv => hv.apart fun k hk1 => by
    by_cases e : k = H ∨ k = H + 1
    · exact .inl fun a x ha => (h.no (by rw [ha]; exact e)).1 x
    · exact .inr (hk k hk1 (fun e' => e (.inl e')) (fun e' => e (.inr e')))
  refine ⟨hr hp.g, hr hp.o, hr hp.r, ?_⟩
  obtain ⟨ao, cap, hv, h1, h2, h3, hc⟩ := hp.l
  refine ⟨ao, cap, hv, h1, h2, h3, fun a ha j hj => ?_⟩
  have hcell := hc a ha j hj
  have hx : 1 ≤ p.l.getD j 0 := by
    have e : p.l.getD j 0 = p.l[j] := by simp [hj]
    rw [e]; exact hl _ (List.getElem_mem hj)
  by_cases e : (a.add j).block = H ∨ (a.add j).block = H + 1
  · exact absurd hcell ((h.no e).2 _ hx)
  · rw [← hcell]
    exact World.cell?_of_block (w := w) (hk _ (cell_lt hcell) (fun e' => e (.inl e')) (fun e' => e (.inr e')))
theorem right_l {p : Pv} (h : rightP p = true) : ∀ x ∈ p.l, 1 ≤ x := by
  unfold rightP at h
  simp only [Bool.and_eq_true] at h
  obtain ⟨_, _, _, _, _, _, hl⟩ := h
  unfold versB at hl
  simp only [decide_eq_true_eq] at hl
  intro x hx
  have := hl.2.1 x hx
  unfold verB at this
  simp at this
  omega
theorem readP_right {zs : List Int} {p : Pv} (h : readP zs = some p) : rightP p = true := by
  unfold readP at h
  split at h
  · split at h
    · rename_i h2
      cases h
      exact h2.2
    · cases h
  · cases h
set_option maxRecDepth 20000 in
set_option maxHeartbeats 4000000 in
theorem pread_any {w : World} {v : Value} {zs : List Int} (hr : Rd w v zs) (hp : Plain v) (hl : zs.length ≤ 1000000) :
    Calls Tryd.prog 16 #[v] w (RPost zs w) := by
  obtain ⟨ao, n, cap, rfl⟩ := hr.shape3
  have hnl : n = zs.length := by obtain ⟨_, _, e, _⟩ := hr; simp only [Value.slice.injEq] at e; exact e.2.1
  subst hnl
  have hB2 := bxW_below w
  have hof := of_q (short := 3) (hr.below hB2) hp hl
  have hsz := bxW_size w
  have hbx := bxW_bx w
  have HB2 := Lib.hid hB2
  have HBX := Lib.hid hbx
  have HSZ := Lib.hid hsz
  clear hB2 hr hp hsz
  by_cases h5 : 500 < zs.length
  · have HRES : Hid (resP zs = (p0, 4)) := Lib.hid (by unfold resP; rw [if_pos h5])
    have HLD := Lib.hid (ld_of hbx.bx (.int .i64 0) (.int .i64 0) (.bool false) (.bool false) (.bool false) (.slice none 0 0) (.slice none 0 0) (.slice none 0 0) (.int .i64 0) (.slice none 0 0) (.int .i64 4))
    clear hof hbx
    unfold bxW at *
    go_enter_defers Tryd.func16, Tryd.ntmps16
    go_wp2_with fail
    have hb : Below w.heap.size w ((w.alloc (.cells #[.int .i64 0, .int .i64 0, .bool false, .bool false, .bool false, .slice none 0 0, .slice none 0 0, .slice none 0 0, .int .i64 0, .slice none 0 0] 27)).alloc (.cells #[.int .i64 4] 34)) := (below_alloc w _).alloc (by simp) _
    have h0 := heap_alloc_new w (.cells #[.int .i64 0, .int .i64 0, .bool false, .bool false, .bool false, .slice none 0 0, .slice none 0 0, .slice none 0 0, .int .i64 0, .slice none 0 0] 27)
    exact ⟨_, pread_results _ _ w.heap.size _ _ _ _ _ _ _ _ _ _ 4 rfl rfl ⟨(Below.heap_alloc _ _ w.heap.size (by simp)).trans h0, heap_alloc2_new w _ _⟩, rpost_no HRES.out hb⟩
  · unfold bxW at *
    clear hbx
    go_enter_defers Tryd.func16, Tryd.ntmps16
    go_wp2_with fail
    generalize (w.alloc (.cells #[.int .i64 0, .int .i64 0, .bool false, .bool false, .bool false, .slice none 0 0, .slice none 0 0, .slice none 0 0, .int .i64 0, .slice none 0 0] 27)).alloc (.cells #[.int .i64 0] 34) = W0 at *
    refine hof.mono ?_
    rintro e w1 ⟨rfl, hF, rfl⟩
    clear hof
    go_wp2_with fail
    have h2 := heap_alloc2_new W0 (.cells #[.slice ao zs.length cap, .int .i64 0, .int .i64 3] 71) (.cells #[.pointer (some ⟨W0.heap.size, 0, none⟩), .pointer none, .int .i64 0, .int .i64 0, .bool false, .bool false, .bool false, .slice none 0 0, .slice none 0 0, .slice none 0 0, .int .i64 0, .slice none 0 0] 56)
    have hF2 := hF.keep (below_alloc (W0.alloc (.cells #[.slice ao zs.length cap, .int .i64 0, .int .i64 3] 71)) (.cells #[.pointer (some ⟨W0.heap.size, 0, none⟩), .pointer none, .int .i64 0, .int .i64 0, .bool false, .bool false, .bool false, .slice none 0 0, .slice none 0 0, .slice none 0 0, .int .i64 0, .slice none 0 0] 56))
    clear hF
    generalize (W0.alloc (.cells #[.slice ao zs.length cap, .int .i64 0, .int .i64 3] 71)).alloc (.cells #[.pointer (some ⟨W0.heap.size, 0, none⟩), .pointer none, .int .i64 0, .int .i64 0, .bool false, .bool false, .bool false, .slice none 0 0, .slice none 0 0, .slice none 0 0, .int .i64 0, .slice none 0 0] 56) = w2 at *
    have hq : Rq w2 (W0.heap.size + 1) W0.heap.size (.pointer none) p0 nilS nilS nilS nilS := ⟨h2, Rd.nil _, Rd.nil _, Rd.nil _, ⟨_, _, _, rfl⟩, ⟨_, rfl⟩⟩
    have hc := params_any hF2 hq (Nat.le_refl _) (Nat.lt_succ_self _)
    have HBL := Lib.hid hF2.bel
    clear h2 hF2 hq
    have HK : Hid (∀ w3, Kq (W0.heap.size + 1) W0.heap.size w2 w3 → Bz w.heap.size w3 ∧ Below w.heap.size w w3) := Lib.hid fun w3 hk => by
      have hsz := HSZ.out
      have hb := HBL.out
      have hs2 := hb.size
      refine ⟨(HBX.out.keep (w' := w2) (hb.block _ (by omega)) (hb.block _ (by omega))).keep (hk.block _ (by omega) (by omega) (by omega)) (hk.block _ (by omega) (by omega) (by omega)), ?_⟩
      exact (HB2.out.trans (hb.mono (by omega))).trans ⟨hk.os, hk.tape, hk.output, hk.size, fun k hk1 => hk.block k (by omega) (by omega) (by omega)⟩
    refine hc.mono ?_
    rintro e w3 (⟨hno, he, hk⟩ | ⟨p, v5, v6, v7, v9, hyes, rfl, hpr, hk⟩)
    · have HRES : Hid (resP zs = (p0, 3)) := Lib.hid (by unfold resP; rw [if_neg h5, hno])
      have hk2 := HK.out w3 hk
      have HK2 := Lib.hid hk2
      rw [errPanic] at he
      subst he
      clear hno hk hk2 hc
      go_wp2_with fail
      exact pdoor_panic _ _ w.heap.size 3 HK2.out.1.bx rfl rfl fun w' hb => rpost_no HRES.out (HK2.out.2.trans hb)
    · have HRES : Hid (resP zs = (p, 0)) := Lib.hid (by unfold resP; rw [if_neg h5, hyes])
      have hk2 := HK.out w3 hk
      obtain ⟨a5, k5, rfl⟩ := hpr.g.shape
      obtain ⟨a6, k6, rfl⟩ := hpr.o.shape
      obtain ⟨a7, k7, rfl⟩ := hpr.r.shape
      obtain ⟨a9, k9, rfl⟩ := hpr.l.shape
      have hld := ld_of hk2.1.bx (.int .i64 p.i) (.int .i64 p.d) (.bool p.hg) (.bool p.ho) (.bool p.hr) (.slice a5 p.g.length k5) (.slice a6 p.o.length k6) (.slice a7 p.r.length k7) (.int .i64 p.c) (.slice a9 p.l.length k9) (.int .i64 0)
      have HLD := Lib.hid hld
      have HK2 := Lib.hid hk2
      have HPR := Lib.hid hpr
      have HRL := Lib.hid (right_l (readP_right hyes))
      obtain ⟨hh, hx⟩ := hk2.1
      have hcc := fun i => cell_of_row w3 w.heap.size i _ 27 (0, 0) hh
      have q0 := hcc 0
      have q1 := hcc 1
      have q2 := hcc 2
      have q3 := hcc 3
      have q4 := hcc 4
      have q5 := hcc 5
      have q6 := hcc 6
      have q7 := hcc 7
      have q8 := hcc 8
      have q9 := hcc 9
      have qf : ∀ j, w3.frozen? ⟨w.heap.size, j, none⟩ = false := fun j => by simp [World.frozen?, hh]
      have qx := cell_of_row w3 (w.heap.size + 1) 0 _ 34 (0, 0) hx
      have qg : w3.frozen? ⟨w.heap.size + 1, 0, none⟩ = false := by simp [World.frozen?, hx]
      clear hcc hh hx hld hk2 hpr hyes hk hc
      unfold pAgg
      go_wp2_with fail
      refine pdoor_idle _ _ w.heap.size _ _ _ _ _ _ _ _ _ _ 0 rfl rfl HLD.out.1 ⟨_, _, _, _, by rw [HRES.out], by rw [HRES.out]; exact HK2.out.1.pr HPR.out HRL.out HLD.out.2.2, ?_⟩
      exact HK2.out.2.trans (HLD.out.2.1)
end Go.Proofs.YtmglhlfjddgllaaDoor
