/- header.Split, whatever the bytes: its walk. -/
import Derived.Test.YtcnepdjcdjdlhaaDoorHSplit
namespace Go.Proofs.YtcnepdjcdjdlhaaDoor
open Go Go.RowKit Go.Shelf
attribute [local go_sem] Oper.semAt_some

theorem wpIn_world {F : Fence} {n : Nat} {P : Program} {c : Code} {Q : Exit → Act → World → Prop} {a : Act} {W : World} (C : World → Prop) (hC : C W) (h : ∀ W', C W' → Code.wpIn F n P c Q a W') : Code.wpIn F n P c Q a W := h W hC
theorem unfrozen {w : World} {b : Nat} {cs : Array Value} {t : TypeId} (h : w.heap[b]? = some (.cells cs t (0, 0))) : ∀ j, w.frozen? ⟨b, j, none⟩ = false := fun j => by simp [World.frozen?, h]
theorem cells_at {w : World} {b : Nat} {l : List Value} (h : ∀ i, w.cell? ⟨b, i, none⟩ = l.toArray[i]?) : ∀ j u, l[j]? = some u → w.cell? (({ block := b, off := 0, spot := none } : Addr).add j) = some u := fun j u hu => by
  rw [Addr.add_lit, show 0 + j = j by omega, h j]
  simpa using hu
theorem split_loop {w W0 : World} {v : Value} {zs : List Int} {fn : FuncId} {A : Act} {ps : Array Tmp} {asg body : Code} (hr : Rd w v zs) (hp : Plain v) (hl : zs.length ≤ 1000000)
    (h0 : Sp w v (.loop (recd fn A ps asg body (w.heap.size + 3) .ready none)) 0 [] W0)
    (hY : ∀ qs p W0 W1, Sp w v (.loop (recd fn A ps asg body (w.heap.size + 3) .ready none)) 0 qs W0 → Below W0.heap.size W0 W1 → Pr W0.heap.size W1 p → qs.length < 1000000 →
      YieldAt Fence.wide 0 Tryd.prog (w.heap.size + 4) #[.agg p.cells.toArray, .int .i64 0] W1 fun e W' => e = .returned (.bool true) ∧ Sp w v (.loop (recd fn A ps asg body (w.heap.size + 3) .ready none)) 0 (qs ++ [p]) W')
    (hE : ∀ qs k W1, Sp w v (.loop (recd fn A ps asg body (w.heap.size + 3) .ready none)) 0 qs W1 → k ≠ 0 →
      YieldAt Fence.wide 0 Tryd.prog (w.heap.size + 4) #[.agg zpk, .int .i64 k] W1 fun e W' => e = .returned (.bool false) ∧ Sp w v (.loop (recd fn A ps asg body (w.heap.size + 3) .done (some .ret))) k qs W') :
    Calls Tryd.prog 56 (#[.func (.yield (w.heap.size + 4)) #[] #[]] ++ #[.pointer (some ⟨w.heap.size + 2, 0, none⟩)]) W0 fun e W =>
      (∃ v, e = .returned v) ∧ ∃ qs, qs.map Pk.plain = (splitP zs).1 ∧
        ((splitP zs).2 = 0 ∧ Sp w v (.loop (recd fn A ps asg body (w.heap.size + 3) .ready none)) 0 qs W ∨
         Sp w v (.loop (recd fn A ps asg body (w.heap.size + 3) .done (some .ret))) (splitP zs).2 qs W) := by
  refine (callsIn_wide.1 (packets_in (n := 1) (Nat.le_refl 1) hr hp hl (fun qs W => Sp w v (.loop (recd fn A ps asg body (w.heap.size + 3) .ready none)) 0 qs W)
    (fun qs k W => Sp w v (.loop (recd fn A ps asg body (w.heap.size + 3) .done (some .ret))) k qs W) (fun qs p W0 W1 h hb hpr hlen => hY qs p W0 W1 h hb hpr (by omega)) hE (fun qs W W' h hb => h.keep hb) (fun qs W h => h.bel)
    ((cell_of_row W0 (w.heap.size + 2) 0 _ 22 (0, 0) h0.bb).trans rfl) h0)).mono ?_
  rintro e W ⟨he, qs, hq, (⟨h1, h2⟩ | ⟨_, h2⟩)⟩
  · exact ⟨he, qs, hq, .inl ⟨h1, h2⟩⟩
  · exact ⟨he, qs, hq, .inr h2⟩

/-- Where the boxes alone have changed. -/
theorem Sp.turn {w W Wf : World} {v lv : Value} {X X' : Obj} {k k' : Int} {qs : List Pk} (h : Sp w v X k qs W) (hlv : W.heap[w.heap.size]? = some (.cells #[lv] 41 (0, 0)))
    (hc : Chg [w.heap.size, w.heap.size + 1, w.heap.size + 4] W Wf) (hl : Wf.heap[w.heap.size]? = some (.cells #[lv] 41 (0, 0))) (he : Wf.heap[w.heap.size + 1]? = some (.cells #[.int .i64 k'] 34 (0, 0)))
    (hx : Wf.heap[w.heap.size + 4]? = some X') : Sp w v X' k' qs Wf := by
  obtain ⟨lv', h1, h2, h3⟩ := h.lb
  rw [hlv] at h1
  obtain rfl : lv = lv' := by simpa using h1
  have hs : w.heap.size + 4 < W.heap.size := (Array.getElem?_eq_some_iff.1 h.lp).1
  refine ⟨⟨lv, hl, own_same h2 fun g hg => hc.block g (h2.lt g hg).2 (by have := (h2.lt g hg).1; simp; omega), h3⟩, he, (hc.block _ (by omega) (by simp)).trans h.bb, (hc.block _ (by omega) (by simp)).trans h.df, hx, fun p hp => ?_, hc.below h.bel (by simp)⟩
  exact (h.rd p hp).chg hc fun g hg => (h.rd p hp).pf (by simp at hg; omega)
theorem split_results (tmps : Array Value) (w : World) (H : Nat) (lv : Value) (k : Int) (h2 : tmps[2]?.getD undef = .pointer (some ⟨H, 0, none⟩)) (h3 : tmps[3]?.getD undef = .pointer (some ⟨H + 1, 0, none⟩))
    (hl : w.heap[H]? = some (.cells #[lv] 41 (0, 0))) (he : w.heap[H + 1]? = some (.cells #[.int .i64 k] 34 (0, 0))) :
    (results Tryd.f20 tmps).run Tryd.prog w = .ok (.tuple #[lv, .int .i64 k]) w := by
  have a0 := (cell_of_row w H 0 _ 41 (0, 0) hl).trans rfl
  have b0 := (cell_of_row w (H + 1) 0 _ 34 (0, 0) he).trans rfl
  simp [results, Tryd.results20, h2, h3, asAddr, a0, b0, go_sem]
theorem split_out {w W : World} {v : Value} {zs : List Int} {X : Obj} {k : Int} {qs : List Pk} (h : Sp w v X k qs W) (hq : qs.map Pk.plain = (splitP zs).1) (hk : (splitP zs).2 = k) (tmps : Array Value)
    (h2 : tmps[2]?.getD undef = .pointer (some ⟨w.heap.size, 0, none⟩)) (h3 : tmps[3]?.getD undef = .pointer (some ⟨w.heap.size + 1, 0, none⟩)) :
    LeavesInM Fence.wide 1 Tryd.prog Tryd.f20 tmps (fun e W' => ∃ lv qs, e = .returned (.tuple #[lv, .int .i64 (splitP zs).2]) ∧ W'.ownsRow w.heap.size 45 10 lv qs.length (pkcells qs) ∧
      (∀ p ∈ qs, Pr w.heap.size W' p) ∧ qs.map Pk.plain = (splitP zs).1 ∧ Below w.heap.size w W') [{ target := .collected (w.heap.size + 3), args := #[] }] .returning W := by
  refine ⟨by simp, .inl ⟨_, _, rfl, run_takeDeferred h.df, ?_⟩⟩
  obtain ⟨lv, h1, ho, hf⟩ := h.lb
  have hc : Chg [w.heap.size + 3] W (W.putObj (w.heap.size + 3) (.deferred none)) := Chg.put W _ (by simp)
  have hs : w.heap.size + 4 < W.heap.size := (Array.getElem?_eq_some_iff.1 h.lp).1
  refine ⟨_, split_results tmps _ w.heap.size lv k h2 h3 ((hc.block _ (by omega) (by simp)).trans h1) ((hc.block _ (by omega) (by simp)).trans h.eb), lv, qs, by rw [hk], own_mono (own_same ho fun g hg => hc.block g (ho.lt g hg).2 (by have := (ho.lt g hg).1; simp; omega)) (by omega), fun p hp => ?_, hq, hc.below h.bel (by simp)⟩
  exact ((h.rd p hp).mono (by omega)).chg hc fun g hg => (h.rd p hp).pf (by simp at hg; omega)

set_option maxRecDepth 20000 in
set_option maxHeartbeats 4000000 in
theorem split_any {w : World} {v : Value} {zs : List Int} (hr : Rd w v zs) (hp : Plain v) (hl : zs.length ≤ 1000000) :
    Calls Tryd.prog 20 #[v] w fun e W' => ∃ lv qs, e = .returned (.tuple #[lv, .int .i64 (splitP zs).2]) ∧ W'.ownsRow w.heap.size 45 10 lv qs.length (pkcells qs) ∧
      (∀ p ∈ qs, Pr w.heap.size W' p) ∧ qs.map Pk.plain = (splitP zs).1 ∧ Below w.heap.size w W' := by
  obtain ⟨ao, n, cap, rfl⟩ := hr.shape3
  refine callsIn_wide.1 (callsIn_of_wp_marks (n := 1) (F := Fence.wide) Tryd.func20 rfl trivial ?_ rfl)
  have hF40 : Fence.wide.fn 40 := trivial
  simp only [Tryd.ntmps20, List.size_toArray, List.length_cons, List.length_nil, Nat.reduceAdd, Nat.reduceSub, Array.replicate_succ, Array.replicate_zero, List.push_toArray, List.append_toArray, List.nil_append, List.cons_append]
  gi_wp2
  refine (callsIn_wide.2 packets_any).mono ?_
  rintro e w' ⟨rfl, rfl⟩
  gi_wp2
  refine wpIn_wide.2 (range_open rfl (enters_of Tryd.func56 (by kernel_rfl) rfl) fun fn => ?_)
  have hsz : (((w.alloc (.cells #[.slice none 0 0] 41)).alloc (.cells #[.int .i64 0] 34)).alloc (.cells #[.slice ao n cap] 22)).heap.size = w.heap.size + 3 := by simp
  have e0 : (((w.alloc (.cells #[.slice none 0 0] 41)).alloc (.cells #[.int .i64 0] 34)).alloc (.cells #[.slice ao n cap] 22)).heap[w.heap.size]? = some (.cells #[.slice none 0 0] 41 (0, 0)) :=
    row_keep (((below_alloc _ _).trans ((below_alloc _ _).mono (by simp)))) (heap_alloc_new w _)
  have e1 : (((w.alloc (.cells #[.slice none 0 0] 41)).alloc (.cells #[.int .i64 0] 34)).alloc (.cells #[.slice ao n cap] 22)).heap[w.heap.size + 1]? = some (.cells #[.int .i64 0] 34 (0, 0)) :=
    row_keep (below_alloc _ _) (heap_alloc2_new w _ _)
  have e2 : (((w.alloc (.cells #[.slice none 0 0] 41)).alloc (.cells #[.int .i64 0] 34)).alloc (.cells #[.slice ao n cap] 22)).heap[w.heap.size + 2]? = some (.cells #[.slice ao n cap] 22 (0, 0)) := by
    have := heap_alloc2_new (w.alloc (.cells #[.slice none 0 0] 41)) (.cells #[.int .i64 0] 34) (.cells #[.slice ao n cap] 22)
    simpa using this
  have eb : Below w.heap.size w (((w.alloc (.cells #[.slice none 0 0] 41)).alloc (.cells #[.int .i64 0] 34)).alloc (.cells #[.slice ao n cap] 22)) :=
    ((below_alloc _ _).trans ((below_alloc _ _).mono (by simp))).trans ((below_alloc _ _).mono (by simp; omega))
  generalize ((w.alloc (.cells #[.slice none 0 0] 41)).alloc (.cells #[.int .i64 0] 34)).alloc (.cells #[.slice ao n cap] 22) = W0 at *
  rw [hsz]
  have hst : ∀ (X : Obj), Sp w (.slice ao n cap) X 0 [] ((W0.alloc (.deferred (some []))).alloc X) := fun X => by
    have hb := (below_alloc W0 (.deferred (some []))).trans ((below_alloc (W0.alloc (.deferred (some []))) X).mono (by simp))
    refine ⟨⟨.slice none 0 0, row_keep hb e0, World.ownsRow_nil _ _ _ _, (fun g h => by cases h)⟩, row_keep hb e1, row_keep hb e2, ?_, ?_, (fun p h => by cases h), eb.trans (hb.mono eb.size)⟩
    · have := row_keep (below_alloc _ X) (heap_alloc_new W0 (.deferred (some [])))
      rwa [hsz] at this
    · have := heap_alloc2_new W0 (.deferred (some [])) X
      rwa [hsz] at this
  refine (split_loop hr hp hl (hst _) ?hY ?hE).mono ?post
  case hY =>
    intro qs p Wa Wb hS hb hpr hlen
    obtain ⟨h, hd, bd, vt, vf, vk, vh, vb⟩ := p
    obtain ⟨b1, m1, k1, rfl⟩ := hpr.hr.to.rd.shape3
    obtain ⟨b2, m2, k2, rfl⟩ := hpr.hr.fr.rd.shape3
    obtain ⟨b3, m3, k3, rfl⟩ := hpr.hr.tk.rd.shape3
    obtain ⟨b4, m4, k4, rfl⟩ := hpr.hd.rd.shape3
    obtain ⟨b5, m5, k5, rfl⟩ := hpr.bd.rd.shape3
    have S1 := hS.keep hb
    obtain ⟨lv, l1, l2, l3⟩ := hS.lb
    have HS := Lib.hid hS
    have HPR := Lib.hid hpr
    have HB := Lib.hid hb
    have HLV := Lib.hid (And.intro l1 (And.intro l2 l3))
    refine yield_open S1.lp rfl ?_
    have HS1 := Lib.hid S1
    clear hS hpr hb l1 l2 l3 S1 hst e0 e1 e2 eb hr hp
    dsimp only [Pk.cells]
    gi_wp2
    refine ⟨row_keep (below_alloc Wb _) HS1.out.lp, ?_⟩
    have hs4 : w.heap.size + 4 < Wb.heap.size := (Array.getElem?_eq_some_iff.1 HS1.out.lp).1
    refine wpIn_world (fun Wd => Chg [w.heap.size + 4] Wb Wd ∧ Wd.heap[Wb.heap.size]? = some (.cells #[.int .i64 h.k, .int .i64 h.v, .slice b1 m1 k1, .slice b2 m2 k2, .slice b3 m3 k3, .int .i64 h.p, .int .i64 h.n, .int .i64 h.w, .slice b4 m4 k4, .slice b5 m5 k5] 45 (0, 0)) ∧
      Wd.heap[w.heap.size + 4]? = some (.loop (recd fn _ _ _ _ _ .busy none))) ⟨(Chg.alloc Wb _).trans (Chg.put _ _ (by simp)), (World.putObj_heap_other (by omega)).trans (heap_alloc_new Wb _), World.putObj_heap_same (by simp; omega)⟩ ?_
    rintro Wd ⟨hch, hpb, hlb⟩
    have hsd : w.heap.size + 4 < Wd.heap.size := Nat.lt_of_lt_of_le hs4 hch.size
    have hrow : Wd.heap[w.heap.size]? = some (.cells #[lv] 41 (0, 0)) := (hch.block _ (by omega) (by simp)).trans (row_keep HB.out HLV.out.1)
    have hown : Wd.ownsRow (w.heap.size + 5) 45 10 lv qs.length (pkcells qs) := own_same (own_below HLV.out.2.1 HB.out) fun g hg => by
      have hlt := HLV.out.2.1.lt g hg
      exact hch.block g (Nat.lt_of_lt_of_le hlt.2 HB.out.size) (by simp; omega)
    have c0 := (cell_of_row Wd w.heap.size 0 _ 41 (0, 0) hrow).trans rfl
    have f0 := unfrozen hrow 0
    have hy := fun i => cell_of_row Wd Wb.heap.size i _ 45 (0, 0) hpb
    have y0 := hy 0
    have y1 := hy 1
    have y2 := hy 2
    have y3 := hy 3
    have y4 := hy 4
    have y5 := hy 5
    have y6 := hy 6
    have y7 := hy 7
    have y8 := hy 8
    have y9 := hy 9
    have HCH := Lib.hid hch
    have HLB := Lib.hid hlb
    have HROW := Lib.hid hrow
    have HSD := Lib.hid hsd
    have HOWN := Lib.hid hown
    have HLEN := Lib.hid hlen
    obtain ⟨ip, hip, hz0, hz1, hz2⟩ := info_parts info_pk
    have hcn := fun i => cell_of_row _ Wd.heap.size i _ 45 (0, 0) (heap_alloc_new Wd (.cells #[.int .i64 h.k, .int .i64 h.v, .slice b1 m1 k1, .slice b2 m2 k2, .slice b3 m3 k3, .int .i64 h.p, .int .i64 h.n, .int .i64 h.w, .slice b4 m4 k4, .slice b5 m5 k5] 45))
    have HCN := Lib.hid hcn
    clear hy hpb hch hlb hrow hs4 hsd hown hlen hcn
    gi_wp2_with (
      gi_at_builtin
      refine wpListIn_append_own_at _ rfl (.tmp 14) (.tmp 16) 41 rfl (w.heap.size + 5) 45 ip (.agg zpk) 10 160 Tryd.underlying41 hip hz0 hz1 hz2 rfl (by decide) lv qs.length (pkcells qs) rfl
        (own_below HOWN.out (below_alloc Wd _)) ⟨Wd.heap.size, 0, none⟩ 1 1 [.int .i64 h.k, .int .i64 h.v, .slice b1 m1 k1, .slice b2 m2 k2, .slice b3 m3 k3, .int .i64 h.p, .int .i64 h.n, .int .i64 h.w, .slice b4 m4 k4, .slice b5 m5 k5] rfl rfl
        (cells_at HCN.out) (by intro u hu; simp at hu; rcases hu with rfl | rfl | rfl | rfl | rfl | rfl | rfl | rfl | rfl | rfl <;> rfl) (by have := HLEN.out; unfold maxLen; omega) (by have := HLEN.out; omega) (by have := HSD.out; simp; omega) ?_
      intro v' w2 hown' hgrow _ hplace
      obtain ⟨g', cap', rfl⟩ := ownsRow_succ hown'
      have hr2 := (hgrow.block w.heap.size (by have := HSD.out; simp; omega) (fun e => by have := (HOWN.out.lt _ e.symm).1; omega)).trans (row_keep (below_alloc Wd _) HROW.out)
      have hl2 := (hgrow.block (w.heap.size + 4) (by have := HSD.out; simp; omega) (fun e => by have := (HOWN.out.lt _ e.symm).1; omega)).trans (row_keep (below_alloc Wd _) HLB.out)
      have c2 := (cell_of_row w2 w.heap.size 0 _ 41 (0, 0) hr2).trans rfl
      have f2 := unfrozen hr2 0
      have HST := Lib.hid (And.intro hown' (And.intro hgrow (And.intro hplace (And.intro hr2 hl2))))
      clear hown' hgrow hplace hr2 hl2)
    obtain ⟨hown', hgrow, hplace, hr2, hl2⟩ := HST.out
    have hch := HCH.out
    have e0 := heap_setCell_same w2 w.heap.size 0 _ 41 (.slice (some ⟨g', 0, none⟩) (qs.length + 1) cap') hr2
    simp only [List.setIfInBounds_toArray, List.set_cons_zero] at e0
    have e4 := (Below.heap_setCell w2 ⟨w.heap.size, 0, none⟩ (.slice (some ⟨g', 0, none⟩) (qs.length + 1) cap') (w.heap.size + 4) (by simp)).trans hl2
    have hs2 : w.heap.size + 4 < (w2.setCell ⟨w.heap.size, 0, none⟩ (.slice (some ⟨g', 0, none⟩) (qs.length + 1) cap')).heap.size := (Array.getElem?_eq_some_iff.1 e4).1
    exact ⟨e4, rfl, HS.out.step HLV.out.1 HB.out HPR.out (hch.trans (Chg.alloc Wd _)) hgrow hown' hplace ((Chg.set w2 0 _ (by simp)).trans (Chg.put _ _ (by simp))) ((World.putObj_heap_other (by omega)).trans e0) (World.putObj_heap_same hs2)⟩
  case hE =>
    intro qs k Wb hS hk
    obtain ⟨lv, l1, l2, l3⟩ := hS.lb
    have HS := Lib.hid hS
    have HK := Lib.hid hk
    have L1 := Lib.hid l1
    have hlv : ∃ a b c, lv = .slice a b c := by
      rcases l2.2 with ⟨rfl, _⟩ | ⟨g, cap, cur, rfl, _⟩
      · exact ⟨_, _, _, rfl⟩
      · exact ⟨_, _, _, rfl⟩
    obtain ⟨la, lb, lc, rfl⟩ := hlv
    refine yield_open hS.lp rfl ?_
    clear hS l2 l3 l1 hst e0 e1 e2 eb hr hp hk
    dsimp only [zpk]
    gi_wp2
    refine ⟨row_keep (below_alloc Wb _) HS.out.lp, ?_⟩
    have hs4 : w.heap.size + 4 < Wb.heap.size := (Array.getElem?_eq_some_iff.1 HS.out.lp).1
    refine wpIn_world (fun Wd => Chg [w.heap.size + 4] Wb Wd ∧
      Wd.heap[w.heap.size + 4]? = some (.loop (recd fn _ _ _ _ _ .busy none))) ⟨(Chg.alloc Wb _).trans (Chg.put _ _ (by simp)), World.putObj_heap_same (by simp; omega)⟩ ?_
    rintro Wd ⟨hch, hlb⟩
    have hsd : w.heap.size + 4 < Wd.heap.size := Nat.lt_of_lt_of_le hs4 hch.size
    have hrow : Wd.heap[w.heap.size]? = some (.cells #[.slice la lb lc] 41 (0, 0)) := (hch.block _ (by omega) (by simp)).trans L1.out
    have hrow1 : Wd.heap[w.heap.size + 1]? = some (.cells #[.int .i64 0] 34 (0, 0)) := (hch.block _ (by omega) (by simp)).trans HS.out.eb
    have c0 := (cell_of_row Wd w.heap.size 0 _ 41 (0, 0) hrow).trans rfl
    have f0 := unfrozen hrow 0
    have c1 := (cell_of_row Wd (w.heap.size + 1) 0 _ 34 (0, 0) hrow1).trans rfl
    have f1 := unfrozen hrow1 0
    have hnn : (k != 0) = true := by simp [HK.out]
    have HCH := Lib.hid hch
    have HLB := Lib.hid hlb
    have HROW := Lib.hid hrow
    have HROW1 := Lib.hid hrow1
    have HSD := Lib.hid hsd
    clear hch hlb hrow hrow1 hs4 hsd
    gi_wp2
    have e0 := heap_setCell_same Wd w.heap.size 0 _ 41 (.slice la lb lc) HROW.out
    simp only [List.setIfInBounds_toArray, List.set_cons_zero] at e0
    have e1 := heap_setCell_same (Wd.setCell ⟨w.heap.size, 0, none⟩ (.slice la lb lc)) (w.heap.size + 1) 0 _ 34 (.int .i64 k) ((Below.heap_setCell Wd ⟨w.heap.size, 0, none⟩ (.slice la lb lc) (w.heap.size + 1) (by simp)).trans HROW1.out)
    simp only [List.setIfInBounds_toArray, List.set_cons_zero] at e1
    have e2 := (Below.heap_setCell (Wd.setCell ⟨w.heap.size, 0, none⟩ (.slice la lb lc)) ⟨w.heap.size + 1, 0, none⟩ (.int .i64 k) w.heap.size (by simp)).trans e0
    have e4 := (Below.heap_setCell (Wd.setCell ⟨w.heap.size, 0, none⟩ (.slice la lb lc)) ⟨w.heap.size + 1, 0, none⟩ (.int .i64 k) (w.heap.size + 4) (by simp)).trans ((Below.heap_setCell Wd ⟨w.heap.size, 0, none⟩ (.slice la lb lc) (w.heap.size + 4) (by simp)).trans HLB.out)
    have hs2 := (Array.getElem?_eq_some_iff.1 e4).1
    have hch := HCH.out
    exact ⟨e4, rfl, HS.out.turn L1.out (((Chg.trans ⟨hch.os, hch.tape, hch.output, hch.size, fun j hj hn => hch.block j hj (fun h => hn (by simp at h; simp [h]))⟩ (Chg.set Wd 0 _ (by simp))).trans (Chg.set _ 0 _ (by simp))).trans (Chg.put _ _ (by simp)))
      ((World.putObj_heap_other (by omega)).trans e2) ((World.putObj_heap_other (by omega)).trans e1) (World.putObj_heap_same hs2)⟩
  case post =>
    rintro e W ⟨he, qs, hq, (⟨h0, hS⟩ | hS)⟩
    · refine ⟨he, .inl ⟨hS.lp, fun o => ?_⟩⟩
      obtain ⟨lv, l1, l2, l3⟩ := hS.lb
      have hs4 : w.heap.size + 4 < W.heap.size := (Array.getElem?_eq_some_iff.1 hS.lp).1
      have S1 : Sp w (.slice ao n cap) o 0 qs (W.putObj (w.heap.size + 4) o) := hS.turn l1 (Chg.put W o (by simp)) ((World.putObj_heap_other (by omega)).trans l1) ((World.putObj_heap_other (by omega)).trans hS.eb) (World.putObj_heap_same hs4)
      have hlv : ∃ a b c, lv = .slice a b c := by
        rcases l2.2 with ⟨rfl, _⟩ | ⟨g, cap, cur, rfl, _⟩
        · exact ⟨_, _, _, rfl⟩
        · exact ⟨_, _, _, rfl⟩
      obtain ⟨la, lb, lc, rfl⟩ := hlv
      have l1' : (W.putObj (w.heap.size + 4) o).heap[w.heap.size]? = some (.cells #[.slice la lb lc] 41 (0, 0)) := (World.putObj_heap_other (by omega)).trans l1
      have hrow1 := S1.eb
      have c0 := (cell_of_row _ w.heap.size 0 _ 41 (0, 0) l1').trans rfl
      have f0 := unfrozen l1' 0
      have c1 := (cell_of_row _ (w.heap.size + 1) 0 _ 34 (0, 0) hrow1).trans rfl
      have f1 := unfrozen hrow1 0
      have HS := Lib.hid S1
      have L1 := Lib.hid l1'
      have HQ := Lib.hid hq
      have H0 := Lib.hid h0
      have HEB := Lib.hid hrow1
      show Exit.inBlock 0 _ Exit.normal _ (W.putObj (w.heap.size + 4) o)
      generalize W.putObj (w.heap.size + 4) o = W1 at *
      clear S1 l1' hq h0 hrow1 hS l1 l2 l3 hst e0 e1 e2 eb hr hp
      dsimp only [marked]
      gi_wp2
      have e0 := heap_setCell_same W1 w.heap.size 0 _ 41 (.slice la lb lc) L1.out
      simp only [List.setIfInBounds_toArray, List.set_cons_zero] at e0
      have e1 := heap_setCell_same (W1.setCell ⟨w.heap.size, 0, none⟩ (.slice la lb lc)) (w.heap.size + 1) 0 _ 34 (.int .i64 0) ((Below.heap_setCell W1 ⟨w.heap.size, 0, none⟩ (.slice la lb lc) (w.heap.size + 1) (by simp)).trans HEB.out)
      simp only [List.setIfInBounds_toArray, List.set_cons_zero] at e1
      have e2 := (Below.heap_setCell (W1.setCell ⟨w.heap.size, 0, none⟩ (.slice la lb lc)) ⟨w.heap.size + 1, 0, none⟩ (.int .i64 0) w.heap.size (by simp)).trans e0
      have e4 := (Below.heap_setCell (W1.setCell ⟨w.heap.size, 0, none⟩ (.slice la lb lc)) ⟨w.heap.size + 1, 0, none⟩ (.int .i64 0) (w.heap.size + 4) (by simp)).trans ((Below.heap_setCell W1 ⟨w.heap.size, 0, none⟩ (.slice la lb lc) (w.heap.size + 4) (by simp)).trans HS.out.lp)
      exact split_out (HS.out.turn L1.out ((Chg.set W1 0 _ (by simp)).trans (Chg.set _ 0 _ (by simp))) e2 e1 e4) HQ.out H0.out _ rfl rfl
    · refine ⟨he, .inr ⟨_, hS.lp, fun o => ?_⟩⟩
      obtain ⟨lv, l1, l2, l3⟩ := hS.lb
      have hs4 : w.heap.size + 4 < W.heap.size := (Array.getElem?_eq_some_iff.1 hS.lp).1
      have S1 : Sp w (.slice ao n cap) o (splitP zs).2 qs (W.putObj (w.heap.size + 4) o) := hS.turn l1 (Chg.put W o (by simp)) ((World.putObj_heap_other (by omega)).trans l1) ((World.putObj_heap_other (by omega)).trans hS.eb) (World.putObj_heap_same hs4)
      refine (wpIn_wide (n := 1)).1 ?_
      gi_wp2
      exact split_out S1 hq rfl _ rfl rfl
#print axioms split_any
end Go.Proofs.YtcnepdjcdjdlhaaDoor
