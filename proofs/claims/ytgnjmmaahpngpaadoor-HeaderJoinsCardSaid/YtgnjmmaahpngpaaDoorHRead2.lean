/- header.Read tells what readP says: the walk. -/
import Derived.Test.YtgnjmmaahpngpaaDoorHRes
namespace Go.Proofs.YtgnjmmaahpngpaaDoor
open Go Go.RowKit

/-- The four boxes as they are made. -/
def boxed (w : World) : World := (((w.alloc (.cells #[.int .i64 0, .int .i64 0, .slice none 0 0, .slice none 0 0, .slice none 0 0, .int .i64 0, .int .i64 0, .int .i64 0] 29)).alloc (.cells #[.int .i64 0] 3)).alloc (.cells #[.int .i64 0] 3)).alloc (.cells #[.int .i64 0] 33)
theorem boxed_below (w : World) : Below w.heap.size w (boxed w) := by
  unfold boxed
  exact (((below_alloc w _).alloc (by simp) _).alloc (by simp; omega) _).alloc (by simp; omega) _
theorem boxed_size (w : World) : (boxed w).heap.size = w.heap.size + 4 := by simp [boxed]
theorem alloc_at {w : World} {g : Nat} {o : Option Obj} (hg : g < w.heap.size) (h : w.heap[g]? = o) (x : Obj) : (w.alloc x).heap[g]? = o := (Below.heap_alloc w x g hg).trans h
theorem boxed_boxes (w : World) : Boxes w.heap.size (boxed w) := by
  have h0 := heap_alloc_new w (.cells #[.int .i64 0, .int .i64 0, .slice none 0 0, .slice none 0 0, .slice none 0 0, .int .i64 0, .int .i64 0, .int .i64 0] 29)
  have s0 : (w.alloc (.cells #[.int .i64 0, .int .i64 0, .slice none 0 0, .slice none 0 0, .slice none 0 0, .int .i64 0, .int .i64 0, .int .i64 0] 29)).heap.size = w.heap.size + 1 := by simp
  have hs := boxed_size w
  unfold boxed at hs ⊢
  generalize (w.alloc (.cells #[.int .i64 0, .int .i64 0, .slice none 0 0, .slice none 0 0, .slice none 0 0, .int .i64 0, .int .i64 0, .int .i64 0] 29)) = w1 at *
  have h1 := heap_alloc_new w1 (.cells #[.int .i64 0] 3)
  have s1 : (w1.alloc (.cells #[.int .i64 0] 3)).heap.size = w1.heap.size + 1 := by simp
  have k0 := alloc_at (by omega) h0 (.cells #[.int .i64 0] 3)
  generalize w1.alloc (.cells #[.int .i64 0] 3) = w2 at *
  have h2 := heap_alloc_new w2 (.cells #[.int .i64 0] 3)
  have s2 : (w2.alloc (.cells #[.int .i64 0] 3)).heap.size = w2.heap.size + 1 := by simp
  have k1 := alloc_at (by omega) h1 (.cells #[.int .i64 0] 3)
  have k0 := alloc_at (by omega) k0 (.cells #[.int .i64 0] 3)
  generalize w2.alloc (.cells #[.int .i64 0] 3) = w3 at *
  have h3 := heap_alloc_new w3 (.cells #[.int .i64 0] 33)
  have k2 := alloc_at (by omega) h2 (.cells #[.int .i64 0] 33)
  have k1 := alloc_at (by omega) k1 (.cells #[.int .i64 0] 33)
  have k0 := alloc_at (by omega) k0 (.cells #[.int .i64 0] 33)
  rw [s0] at k1
  rw [s1, s0] at k2
  rw [s2, s1, s0] at h3
  exact ⟨⟨by omega, _, rfl, k0⟩, ⟨_, k1⟩, ⟨_, k2⟩, ⟨_, h3⟩⟩
theorem Boxes.keep {H : Nat} {w w' : World} (h : Boxes H w) (hb : Below w.heap.size w w') : Boxes H w' := by
  obtain ⟨hh, ⟨vs, hs⟩, ⟨ve, he⟩, ⟨vx, hx⟩⟩ := h
  have lt : ∀ {g : Nat} {o : Obj}, w.heap[g]? = some o → w'.heap[g]? = some o := fun h => by rw [hb.block _ (Array.getElem?_eq_some_iff.1 h).1]; exact h
  exact ⟨hh.below hb, ⟨vs, lt hs⟩, ⟨ve, lt he⟩, ⟨vx, lt hx⟩⟩
theorem hs_start {w0 : World} {ao : Option Addr} {n cap : Nat} {zs : List Int} {H : Nat} {cs : Array Value} (hF : Fq w0 (w0.alloc (.cells #[.slice ao n cap, .int .i64 0, .int .i64 2] 70)) w0.heap.size zs 0 2)
    (hb : H < w0.heap.size ∧ w0.heap[H]? = some (.cells cs 29 (0, 0))) :
    Hs w0 zs (H, .cells cs 29 (0, 0)) (w0.heap.size + 1) w0.heap.size ⟨Hv.empty, 0, 0⟩ ((w0.alloc (.cells #[.slice ao n cap, .int .i64 0, .int .i64 2] 70)).alloc (.cells #[.pointer (some ⟨w0.heap.size, 0, none⟩), .int .i64 0, .int .i64 0, .slice none 0 0, .slice none 0 0, .slice none 0 0, .int .i64 0, .int .i64 0, .int .i64 0, .int .i64 0] 60)) := by
  have hnil : ∀ (w : World), Ra (w0.heap.size + 1 + 1) w (.slice none 0 0) [] := fun w => ⟨Rd.nil w, fun _ _ _ h => by cases h⟩
  refine ⟨hF.keep (below_alloc _ _), Nat.lt_succ_self _, Nat.zero_le _, ⟨by simp; omega, by simp only; omega, by simp only; omega, ?_⟩, .slice none 0 0, .slice none 0 0, .slice none 0 0, ?_, hnil _, hnil _, hnil _⟩
  · exact alloc_at (by simp; omega) (alloc_at hb.1 hb.2 _) _
  · exact heap_alloc2_new w0 _ _
theorem Hs.fresh {w0 w : World} {zs : List Int} {X : Nat × Obj} {R B : Nat} {s : Ps} (h : Hs w0 zs X R B s w) (o : Obj) : Hs w0 zs (w.heap.size, o) R B s (w.alloc o) := by
  obtain ⟨vt, vf, vk, hbx, r1, r2, r3⟩ := h.box
  have hl := h.lt
  have hl2 := h.fq.lt
  exact ⟨h.fq.keep (below_alloc _ _), h.ord, h.tl, ⟨by simp, by simp only; omega, by simp only; omega, heap_alloc_new w o⟩, vt, vf, vk, alloc_at hl hbx o, r1.alloc o, r2.alloc o, r3.alloc o⟩
theorem plan_get (k : Int) (R j : Nat) (hj : j < (plan k).length) : (((plan k).map fun p => mth R p.1).toArray)[j]? = some (mth R ((plan k)[j]).1) := by simp [hj]
theorem drop_at {α : Type} (l : List α) (j : Nat) (hj : j < l.length) : l.drop j = l[j] :: l.drop (j + 1) := by simp

/-- The three rows read, and lie at or behind lo. -/
structure HrA (lo : Nat) (w : World) (h : Hv) (vt vf vk : Value) : Prop where
  to : Ra lo w vt h.to
  fr : Ra lo w vf h.fr
  tk : Ra lo w vk h.tk
theorem HrA.hr {lo : Nat} {w : World} {h : Hv} {vt vf vk : Value} (x : HrA lo w h vt vf vk) : Hr w h vt vf vk := ⟨x.to.rd, x.fr.rd, x.tk.rd⟩
theorem HrA.below {lo : Nat} {w w' : World} {h : Hv} {vt vf vk : Value} (x : HrA lo w h vt vf vk) (hb : Below w.heap.size w w') : HrA lo w' h vt vf vk := ⟨x.to.below hb, x.fr.below hb, x.tk.below hb⟩
theorem HrA.mono {lo lo' : Nat} {w : World} {h : Hv} {vt vf vk : Value} (x : HrA lo w h vt vf vk) (hl : lo' ≤ lo) : HrA lo' w h vt vf vk := ⟨x.to.mono hl, x.fr.mono hl, x.tk.mono hl⟩

set_option maxRecDepth 20000 in
set_option maxHeartbeats 4000000 in
theorem read_okA {w : World} {v : Value} {zs : List Int} (hr : Rd w v zs) (hp : Plain v) (hl : zs.length ≤ 1000000) (s : Ps) (e : readP zs = .ok s) :
    Calls Tryd.prog 21 #[v] w fun e w' => ∃ vt vf vk, e = .returned (.tuple #[.agg (hcells s.h vt vf vk), .int .i64 s.t, .int .i64 s.e, .int .i64 0]) ∧ HrA w.heap.size w' s.h vt vf vk ∧ Below w.heap.size w w' := by
  have hz := hr.byt
  have hmf := make_fn
  obtain ⟨ao, n, cap, rfl⟩ := hr.shape3
  have hB4 := boxed_below w
  have hof := of_q (short := 2) (hr.below hB4) hp hl
  have hsz := boxed_size w
  have hbx := boxed_boxes w
  have HB4 := Lib.hid hB4
  have HBX := Lib.hid hbx
  have HSZ := Lib.hid hsz
  have HE := Lib.hid e
  clear hB4 hr hp hsz hbx e
  unfold boxed at *
  go_enter_defers Tryd.func21, Tryd.ntmps21
  go_wp2_with fail
  generalize (((w.alloc (.cells #[.int .i64 0, .int .i64 0, .slice none 0 0, .slice none 0 0, .slice none 0 0, .int .i64 0, .int .i64 0, .int .i64 0] 29)).alloc (.cells #[.int .i64 0] 3)).alloc (.cells #[.int .i64 0] 3)).alloc (.cells #[.int .i64 0] 33) = W0 at *
  refine hof.mono ?_
  rintro e w1 ⟨rfl, hF, rfl⟩
  clear hof
  have hbh : w.heap.size < W0.heap.size ∧ ∃ cs, W0.heap[w.heap.size]? = some (.cells cs 29 (0, 0)) := by
    have := HSZ.out
    obtain ⟨_, cs, _, h3⟩ := HBX.out.h
    exact ⟨by omega, cs, h3⟩
  obtain ⟨hlt0, cs0, hcs0⟩ := hbh
  have h0 := hs_start hF ⟨hlt0, hcs0⟩
  have HCS := Lib.hid hcs0
  clear hF hcs0 hlt0
  go_wp2_with fail
  generalize (W0.alloc (.cells #[.slice ao n cap, .int .i64 0, .int .i64 2] 70)).alloc (.cells #[.pointer (some ⟨W0.heap.size, 0, none⟩), .int .i64 0, .int .i64 0, .slice none 0 0, .slice none 0 0, .slice none 0 0, .int .i64 0, .int .i64 0, .int .i64 0, .int .i64 0] 60) = w2 at *
  have HR := HE.out
  unfold readP at HR
  cases hf : pFirst zs ⟨Hv.empty, 0, 0⟩ with
  | error k => rw [hf] at HR; cases HR
  | ok s1 =>
    rw [hf] at HR
    simp only at HR
    have hw14 : 1 ≤ s1.h.w ∧ s1.h.w ≤ 4 := by
      rcases first_cases hz with ⟨h1, _⟩ | ⟨b, hb0, hb1, hn, hp⟩
      · rw [h1] at hf; cases hf
      · rw [hp] at hf
        split at hf
        · cases hf; simp only; omega
        · split at hf
          · cases hf; simp only; omega
          · cases hf
    refine (first_okW zs hz _ _ _ _ _ h0 s1 hf).mono ?_
    rintro e w3 ⟨rfl, h3⟩
    have hbe := behind_any _ _ _ _ _ _ _ h3
    have h4 := h3.fresh (.cells ((plan s1.h.k).map fun p => mth (W0.heap.size + 1) p.1).toArray 1)
    have hstp := plan_stp zs hz s1.h.k
    have hrun : runAll zs ((plan s1.h.k).map (·.2)) s1 = .ok s := by rw [plan_steps]; exact HR
    have hN := plan_len s1.h.k
    have HST := Lib.hid hstp
    have H4 := Lib.hid h4
    have HRUN := Lib.hid hrun
    have HW := Lib.hid hw14
    clear hstp h3 h4 hrun hw14 h0 hf HR HE
    go_wp2_with fail
    refine hbe.mono ?_
    rintro e w4 ⟨rfl, rfl⟩
    generalize w3.heap.size = G at *
    generalize hP : plan s1.h.k = P at *
    have hPL : P.length = P.length := rfl
    generalize w3.alloc (.cells (P.map fun p => mth (W0.heap.size + 1) p.1).toArray 1) = w4 at *
    clear hP hbe hPL
    go_wp2_with fail
    go_loopw [16] (fun i wr => ∃ (j : Nat) (s2 : Ps), j ≤ P.length ∧ i = .int .i64 j ∧ Hid (Hs W0 zs (G, .cells (P.map fun p => mth (W0.heap.size + 1) p.1).toArray 1) (W0.heap.size + 1) W0.heap.size s2 wr) ∧ Hid (runAll zs ((P.drop j).map (·.2)) s2 = .ok s) ∧ Hid (1 ≤ s2.h.w ∧ s2.h.w ≤ 4)) (fun i _ => P.length - (intOf i).toNat)
    case atStart => exact ⟨0, s1, Nat.zero_le _, rfl, H4, Lib.hid (by simpa using HRUN.out), HW⟩
    case round =>
      obtain ⟨j, s2, hj, rfl, hH, hRun, hW2⟩ := hrel
      by_cases hlt : j < P.length
      · have hst := HST.out P[j] (List.getElem_mem hlt)
        have hrun := hRun.out
        rw [drop_at P j hlt, List.map_cons] at hrun
        have hcell := cell_of_row wr G j _ 1 (0, 0) hH.out.row.2.2.2
        rw [show (((P.map fun p => mth (W0.heap.size + 1) p.1).toArray)[j]?) = some (mth (W0.heap.size + 1) P[j].1) by simp [hlt]] at hcell
        generalize P[j] = pj at *
        obtain ⟨F, f⟩ := pj
        simp only [runAll] at hrun
        unfold mth at hcell
        cases hfs : f zs s2 with
        | error k => simp only [hfs] at hrun; cases hrun
        | ok s3 =>
          simp only [hfs] at hrun
          have hcall := (hst.does _ _ _ _ _ _ hH.out hW2.out).1 s3 hfs
          have hkw := hst.keepw _ _ hfs
          have HRn := Lib.hid hrun
          have HKW : Hid (1 ≤ s3.h.w ∧ s3.h.w ≤ 4) := Lib.hid (by rw [hkw]; exact hW2.out)
          have hent := hst.ent
          clear hfs hrun hst hkw hH hRun hW2
          go_wp2_with fail
          refine hcall.mono ?_
          rintro e w5 ⟨rfl, h5⟩
          have H5 := Lib.hid h5
          clear h5 hcall hent hcell
          go_wp2_with fail
          go_roundw
          case rel => exact ⟨j + 1, s3, by omega, by go_num, H5, HRn, HKW⟩
          case measure => simp [intOf]; omega
      · obtain rfl : P.length = j := by omega
        have hrun := hRun.out
        rw [List.drop_length] at hrun
        simp only [List.map_nil, runAll, Except.ok.injEq] at hrun
        subst hrun
        have hH2 := hH.out.drew
        obtain ⟨vt, vf, vk, hbx, r1, r2, r3⟩ := hH.out.box
        obtain ⟨at1, n1, k1, rfl⟩ := r1.rd.shape3
        obtain ⟨at2, n2, k2, rfl⟩ := r2.rd.shape3
        obtain ⟨at3, n3, k3, rfl⟩ := r3.rd.shape3
        have hcc := fun i => cell_of_row wr (W0.heap.size + 1) i _ 60 (0, 0) hbx
        have c0 := hcc 0
        have c1 := hcc 1
        have c2 := hcc 2
        have c3 := hcc 3
        have c4 := hcc 4
        have c5 := hcc 5
        have c6 := hcc 6
        have c7 := hcc 7
        have c8 := hcc 8
        have c9 := hcc 9
        clear hcc hbx
        have R1 := Lib.hid r1
        have R2 := Lib.hid r2
        have R3 := Lib.hid r3
        clear r1 r2 r3
        have hbo : Boxes w.heap.size wr := HBX.out.keep hH.out.fq.bel
        have ht := taken_q hH2.fq
        have HL := Lib.hid (laid_of hbo (.int .i64 s2.h.k) (.int .i64 s2.h.v) (.slice at1 n1 k1) (.slice at2 n2 k2) (.slice at3 n3 k3) (.int .i64 s2.h.p) (.int .i64 s2.h.n) (.int .i64 s2.h.w) (.int .i64 s2.t) (.int .i64 s2.e) (.int .i64 0))
        have hlo : w.heap.size + 4 ≤ W0.heap.size + 1 + 1 := by have := HSZ.out; omega
        have HMO := Lib.hid (show w.heap.size ≤ W0.heap.size + 1 + 1 by omega)
        have HR1 := Lib.hid (laid_ra hlo R1.out (.int .i64 s2.h.k) (.int .i64 s2.h.v) (.slice at1 n1 k1) (.slice at2 n2 k2) (.slice at3 n3 k3) (.int .i64 s2.h.p) (.int .i64 s2.h.n) (.int .i64 s2.h.w) (.int .i64 s2.t) (.int .i64 s2.e) (.int .i64 0))
        have HR2 := Lib.hid (laid_ra hlo R2.out (.int .i64 s2.h.k) (.int .i64 s2.h.v) (.slice at1 n1 k1) (.slice at2 n2 k2) (.slice at3 n3 k3) (.int .i64 s2.h.p) (.int .i64 s2.h.n) (.int .i64 s2.h.w) (.int .i64 s2.t) (.int .i64 s2.e) (.int .i64 0))
        have HR3 := Lib.hid (laid_ra hlo R3.out (.int .i64 s2.h.k) (.int .i64 s2.h.v) (.slice at1 n1 k1) (.slice at2 n2 k2) (.slice at3 n3 k3) (.int .i64 s2.h.p) (.int .i64 s2.h.n) (.int .i64 s2.h.w) (.int .i64 s2.t) (.int .i64 s2.e) (.int .i64 0))
        have HBW := Lib.hid ((HB4.out.trans (hH.out.fq.bel.mono HB4.out.size)).trans (HL.out.2))
        clear hlo
        obtain ⟨hh, ⟨vs, hs⟩, ⟨ve, he⟩, ⟨vx, hx⟩⟩ := hbo
        obtain ⟨z0, z1, z2, z3, z4, z5, z6, z7, a0, a1, a2, a3, a4, a5, a6, a7, af⟩ := hh.cells
        have b0 := cell_of_row wr (w.heap.size + 1) 0 _ 3 (0, 0) hs
        have b1 := cell_of_row wr (w.heap.size + 2) 0 _ 3 (0, 0) he
        have b2 := cell_of_row wr (w.heap.size + 3) 0 _ 33 (0, 0) hx
        have g0 : wr.frozen? ⟨w.heap.size + 1, 0, none⟩ = false := by simp [World.frozen?, hs]
        have g1 : wr.frozen? ⟨w.heap.size + 2, 0, none⟩ = false := by simp [World.frozen?, he]
        have g2 : wr.frozen? ⟨w.heap.size + 3, 0, none⟩ = false := by simp [World.frozen?, hx]
        clear hs he hx hh hH2
        go_wp2_with fail
        refine wp_region_noPanic ?_
        go_region_with (go_at_call 30; refine ht.mono ?_; rintro e w5 ⟨rfl, rfl⟩)
        all_goals
          refine NoPanic.normal ?_
          go_wp2_with fail
          exact door_idle _ _ w.heap.size _ _ _ _ _ _ _ _ _ _ _ rfl rfl rfl rfl HL.out.1 ⟨_, _, _, rfl, ⟨HR1.out.mono HMO.out, HR2.out.mono HMO.out, HR3.out.mono HMO.out⟩, HBW.out⟩
theorem read_okW {w : World} {v : Value} {zs : List Int} (hr : Rd w v zs) (hp : Plain v) (hl : zs.length ≤ 1000000) (s : Ps) (e : readP zs = .ok s) :
    Calls Tryd.prog 21 #[v] w fun e w' => ∃ vt vf vk, e = .returned (.tuple #[.agg (hcells s.h vt vf vk), .int .i64 s.t, .int .i64 s.e, .int .i64 0]) ∧ Hr w' s.h vt vf vk ∧ Below w.heap.size w w' :=
  (read_okA hr hp hl s e).mono fun _ _ ⟨vt, vf, vk, he, hh, hb⟩ => ⟨vt, vf, vk, he, hh.hr, hb⟩

set_option maxRecDepth 20000 in
set_option maxHeartbeats 4000000 in
theorem read_errW {w : World} {v : Value} {zs : List Int} (hr : Rd w v zs) (hp : Plain v) (hl : zs.length ≤ 1000000) (k : Int) (e : readP zs = .error k) :
    Calls Tryd.prog 21 #[v] w fun e w' => e = .returned (.tuple #[.agg zcells, .int .i64 0, .int .i64 0, .int .i64 k]) ∧ Below w.heap.size w w' := by
  have hz := hr.byt
  have hmf := make_fn
  obtain ⟨ao, n, cap, rfl⟩ := hr.shape3
  have hB4 := boxed_below w
  have hof := of_q (short := 2) (hr.below hB4) hp hl
  have hsz := boxed_size w
  have hbx := boxed_boxes w
  have HB4 := Lib.hid hB4
  have HBX := Lib.hid hbx
  have HSZ := Lib.hid hsz
  have HE := Lib.hid e
  clear hB4 hr hp hsz hbx e
  unfold boxed at *
  go_enter_defers Tryd.func21, Tryd.ntmps21
  go_wp2_with fail
  generalize (((w.alloc (.cells #[.int .i64 0, .int .i64 0, .slice none 0 0, .slice none 0 0, .slice none 0 0, .int .i64 0, .int .i64 0, .int .i64 0] 29)).alloc (.cells #[.int .i64 0] 3)).alloc (.cells #[.int .i64 0] 3)).alloc (.cells #[.int .i64 0] 33) = W0 at *
  refine hof.mono ?_
  rintro e w1 ⟨rfl, hF, rfl⟩
  clear hof
  have hbh : w.heap.size < W0.heap.size ∧ ∃ cs, W0.heap[w.heap.size]? = some (.cells cs 29 (0, 0)) := by
    have := HSZ.out
    obtain ⟨_, cs, _, h3⟩ := HBX.out.h
    exact ⟨by omega, cs, h3⟩
  obtain ⟨hlt0, cs0, hcs0⟩ := hbh
  have h0 := hs_start hF ⟨hlt0, hcs0⟩
  clear hF hcs0 hlt0
  go_wp2_with fail
  generalize (W0.alloc (.cells #[.slice ao n cap, .int .i64 0, .int .i64 2] 70)).alloc (.cells #[.pointer (some ⟨W0.heap.size, 0, none⟩), .int .i64 0, .int .i64 0, .slice none 0 0, .slice none 0 0, .slice none 0 0, .int .i64 0, .int .i64 0, .int .i64 0, .int .i64 0] 60) = w2 at *
  have HR := HE.out
  unfold readP at HR
  have fin : ∀ (wx wy : World), Below W0.heap.size W0 wx → Below w.heap.size wx wy → Below w.heap.size w wy := fun wx wy h1 h2 => (HB4.out.trans (h1.mono HB4.out.size)).trans h2
  have FIN := Lib.hid fin
  clear fin
  cases hf : pFirst zs ⟨Hv.empty, 0, 0⟩ with
  | error k' =>
    rw [hf] at HR
    cases HR
    have hc := first_errW zs hz _ _ _ _ _ h0 k hf
    clear h0 hf HE
    refine hc.mono ?_
    rintro e w3 ⟨he, hb⟩
    rw [errPanic] at he
    subst he
    have HB := Lib.hid hb
    clear hb hc
    go_wp2_with fail
    exact door_panic _ _ w.heap.size k (HBX.out.keep HB.out) rfl rfl rfl rfl fun w' h => ⟨rfl, FIN.out _ _ HB.out h⟩
  | ok s1 =>
    rw [hf] at HR
    simp only at HR
    have hw14 : 1 ≤ s1.h.w ∧ s1.h.w ≤ 4 := by
      rcases first_cases hz with ⟨h1, _⟩ | ⟨b, hb0, hb1, hn, hp⟩
      · rw [h1] at hf; cases hf
      · rw [hp] at hf
        split at hf
        · cases hf; simp only; omega
        · split at hf
          · cases hf; simp only; omega
          · cases hf
    refine (first_okW zs hz _ _ _ _ _ h0 s1 hf).mono ?_
    rintro e w3 ⟨rfl, h3⟩
    have hbe := behind_any _ _ _ _ _ _ _ h3
    have h4 := h3.fresh (.cells ((plan s1.h.k).map fun p => mth (W0.heap.size + 1) p.1).toArray 1)
    have hstp := plan_stp zs hz s1.h.k
    have hrun : runAll zs ((plan s1.h.k).map (·.2)) s1 = .error k := by rw [plan_steps]; exact HR
    have hN := plan_len s1.h.k
    have HST := Lib.hid hstp
    have H4 := Lib.hid h4
    have HRUN := Lib.hid hrun
    have HW := Lib.hid hw14
    clear hstp h3 h4 hrun hw14 h0 hf HR HE
    go_wp2_with fail
    refine hbe.mono ?_
    rintro e w4 ⟨rfl, rfl⟩
    generalize w3.heap.size = G at *
    generalize hP : plan s1.h.k = P at *
    generalize w3.alloc (.cells (P.map fun p => mth (W0.heap.size + 1) p.1).toArray 1) = w4 at *
    clear hP hbe
    go_wp2_with fail
    go_loopw [16] (fun i wr => ∃ (j : Nat) (s2 : Ps), j ≤ P.length ∧ i = .int .i64 j ∧ Hid (Hs W0 zs (G, .cells (P.map fun p => mth (W0.heap.size + 1) p.1).toArray 1) (W0.heap.size + 1) W0.heap.size s2 wr) ∧ Hid (runAll zs ((P.drop j).map (·.2)) s2 = .error k) ∧ Hid (1 ≤ s2.h.w ∧ s2.h.w ≤ 4)) (fun i _ => P.length - (intOf i).toNat)
    case atStart => exact ⟨0, s1, Nat.zero_le _, rfl, H4, Lib.hid (by simpa using HRUN.out), HW⟩
    case round =>
      obtain ⟨j, s2, hj, rfl, hH, hRun, hW2⟩ := hrel
      by_cases hlt : j < P.length
      · have hst := HST.out P[j] (List.getElem_mem hlt)
        have hrun := hRun.out
        rw [drop_at P j hlt, List.map_cons] at hrun
        have hcell := cell_of_row wr G j _ 1 (0, 0) hH.out.row.2.2.2
        rw [show (((P.map fun p => mth (W0.heap.size + 1) p.1).toArray)[j]?) = some (mth (W0.heap.size + 1) P[j].1) by simp [hlt]] at hcell
        generalize P[j] = pj at *
        obtain ⟨F, f⟩ := pj
        simp only [runAll] at hrun
        unfold mth at hcell
        cases hfs : f zs s2 with
        | error k' =>
          simp only [hfs] at hrun
          cases hrun
          have hcall := (hst.does _ _ _ _ _ _ hH.out hW2.out).2 k hfs
          have hent := hst.ent
          clear hfs hst hH hRun hW2
          go_wp2_with fail
          refine hcall.mono ?_
          rintro e w5 ⟨he, hb⟩
          rw [errPanic] at he
          subst he
          have HB := Lib.hid hb
          clear hb hcall hent hcell
          go_wp2_with fail
          exact door_panic _ _ w.heap.size k (HBX.out.keep HB.out) rfl rfl rfl rfl fun w' h => ⟨rfl, FIN.out _ _ HB.out h⟩
        | ok s3 =>
          simp only [hfs] at hrun
          have hcall := (hst.does _ _ _ _ _ _ hH.out hW2.out).1 s3 hfs
          have hkw := hst.keepw _ _ hfs
          have HRn := Lib.hid hrun
          have HKW : Hid (1 ≤ s3.h.w ∧ s3.h.w ≤ 4) := Lib.hid (by rw [hkw]; exact hW2.out)
          have hent := hst.ent
          clear hfs hrun hst hkw hH hRun hW2
          go_wp2_with fail
          refine hcall.mono ?_
          rintro e w5 ⟨rfl, h5⟩
          have H5 := Lib.hid h5
          clear h5 hcall hent hcell
          go_wp2_with fail
          go_roundw
          case rel => exact ⟨j + 1, s3, by omega, by go_num, H5, HRn, HKW⟩
          case measure => simp [intOf]; omega
      · exfalso
        obtain rfl : P.length = j := by omega
        have hrun := hRun.out
        rw [List.drop_length] at hrun
        simp [runAll] at hrun
#print axioms read_okW
#print axioms read_errW
end Go.Proofs.YtgnjmmaahpngpaaDoor
