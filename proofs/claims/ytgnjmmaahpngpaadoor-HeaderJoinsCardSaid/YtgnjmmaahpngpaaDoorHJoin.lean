/- HeaderJoins' walk: its first region (three boxes in any order). -/
import Derived.Test.YtgnjmmaahpngpaaDoorHSplit
import Derived.Test.YtgnjmmaahpngpaaDoorHBack
import Derived.Test.YtgnjmmaahpngpaaDoorHPk
namespace Go.Proofs.YtgnjmmaahpngpaaDoor
open Go Go.RowKit Go.Shelf
attribute [local go_sem] Oper.semAt_some

theorem wpIn_world {F : Fence} {n : Nat} {P : Program} {c : Code} {Q : Exit → Act → World → Prop} {a : Act} {W : World} (C : World → Prop) (hC : C W) (h : ∀ W', C W' → Code.wpIn F n P c Q a W') : Code.wpIn F n P c Q a W := h W hC
theorem unfrozen {w : World} {b : Nat} {cs : Array Value} {t : TypeId} (h : w.heap[b]? = some (.cells cs t (0, 0))) : ∀ j, w.frozen? ⟨b, j, none⟩ = false := fun j => by simp [World.frozen?, h]
theorem cells_at {w : World} {b : Nat} {l : List Value} (h : ∀ i, w.cell? ⟨b, i, none⟩ = l.toArray[i]?) : ∀ j u, l[j]? = some u → w.cell? (({ block := b, off := 0, spot := none } : Addr).add j) = some u := fun j u hu => by
  rw [Addr.add_lit, show 0 + j = j by omega, h j]
  simpa using hu
theorem split_loop {w W0 : World} {v : Value} {zs : List Int} {fn : FuncId} {A : Act} {ps : Array Tmp} {asg body : Code} (hr : Rd w v zs) (hp : Plain v) (hl : zs.length ≤ 1000000)
    (h0 : Sp w v (.loop (recd fn A ps asg body (w.heap.size + 3) .ready none)) 0 [] W0)
    (hY : ∀ qs p W0 W1, Sp w v (.loop (recd fn A ps asg body (w.heap.size + 3) .ready none)) 0 qs W0 → Below W0.heap.size W0 W1 → Pr W0.heap.size W1 p → qs.length < 1000000 →
      YieldAt Fence.wide 0 Tryd.prog (w.heap.size + 4) #[.agg p.cells.toArray, .int .i64 0] W1 fun e W' => e = .returned (.bool true) ∧ Sp w v (.loop (recd fn A ps asg body (w.heap.size + 3) .ready none)) 0 (qs ++ [p]) W')
    (hE : ∀ qs k W1, Sp w v (.loop (recd fn A ps asg body (w.heap.size + 3) .ready none)) 0 qs W1 → k ≠ 0 →
      YieldAt Fence.wide 0 Tryd.prog (w.heap.size + 4) #[.agg zpk, .int .i64 k] W1 fun e W' => e = .returned (.bool false) ∧ Sp w v (.loop (recd fn A ps asg body (w.heap.size + 3) .done (some .ret))) k qs W') :
    Calls Tryd.prog 20 (#[.func (.yield (w.heap.size + 4)) #[] #[]] ++ #[.pointer (some ⟨w.heap.size + 2, 0, none⟩)]) W0 fun e W =>
      (∃ v, e = .returned v) ∧ ∃ qs, qs.map Pk.plain = (splitP zs).1 ∧
        ((splitP zs).2 = 0 ∧ Sp w v (.loop (recd fn A ps asg body (w.heap.size + 3) .ready none)) 0 qs W ∨
         Sp w v (.loop (recd fn A ps asg body (w.heap.size + 3) .done (some .ret))) (splitP zs).2 qs W) := by
  refine (callsIn_wide.1 (packets_in (n := 1) (Nat.le_refl 1) hr hp hl (fun qs W => Sp w v (.loop (recd fn A ps asg body (w.heap.size + 3) .ready none)) 0 qs W)
    (fun qs k W => Sp w v (.loop (recd fn A ps asg body (w.heap.size + 3) .done (some .ret))) k qs W) (fun qs p W0 W1 h hb hpr hlen => hY qs p W0 W1 h hb hpr (by omega)) hE (fun qs W W' h hb => h.keep hb) (fun qs W h => h.bel)
    ((cell_of_row W0 (w.heap.size + 2) 0 _ 22 (0, 0) h0.bb).trans rfl) h0)).mono ?_
  rintro e W ⟨he, qs, hq, (⟨h1, h2⟩ | ⟨_, h2⟩)⟩
  · exact ⟨he, qs, hq, .inl ⟨h1, h2⟩⟩
  · exact ⟨he, qs, hq, .inr h2⟩

/-- Where the boxes alone have changed. -/
theorem Sp.turn {w W Wf : World} {v lv : Value} {X X' : Obj} {k k' : Int} {qs : List Pk} (h : Sp w v X k qs W) (hlv : W.heap[w.heap.size]? = some (.cells #[lv] 32 (0, 0)))
    (hc : Chg [w.heap.size, w.heap.size + 1, w.heap.size + 4] W Wf) (hl : Wf.heap[w.heap.size]? = some (.cells #[lv] 32 (0, 0))) (he : Wf.heap[w.heap.size + 1]? = some (.cells #[.int .i64 k'] 33 (0, 0)))
    (hx : Wf.heap[w.heap.size + 4]? = some X') : Sp w v X' k' qs Wf := by
  obtain ⟨lv', h1, h2, h3⟩ := h.lb
  rw [hlv] at h1
  obtain rfl : lv = lv' := by simpa using h1
  have hs : w.heap.size + 4 < W.heap.size := (Array.getElem?_eq_some_iff.1 h.lp).1
  refine ⟨⟨lv, hl, own_same h2 fun g hg => hc.block g (h2.lt g hg).2 (by have := (h2.lt g hg).1; simp; omega), h3⟩, he, (hc.block _ (by omega) (by simp)).trans h.bb, (hc.block _ (by omega) (by simp)).trans h.df, hx, fun p hp => ?_, hc.below h.bel (by simp)⟩
  exact (h.rd p hp).chg hc fun g hg => (h.rd p hp).pf (by simp at hg; omega)
theorem split_results (tmps : Array Value) (w : World) (H : Nat) (lv : Value) (k : Int) (h2 : tmps[2]?.getD undef = .pointer (some ⟨H, 0, none⟩)) (h3 : tmps[3]?.getD undef = .pointer (some ⟨H + 1, 0, none⟩))
    (hl : w.heap[H]? = some (.cells #[lv] 32 (0, 0))) (he : w.heap[H + 1]? = some (.cells #[.int .i64 k] 33 (0, 0))) :
    (results Tryd.f8 tmps).run Tryd.prog w = .ok (.tuple #[lv, .int .i64 k]) w := by
  have a0 := (cell_of_row w H 0 _ 32 (0, 0) hl).trans rfl
  have b0 := (cell_of_row w (H + 1) 0 _ 33 (0, 0) he).trans rfl
  simp [results, Tryd.results8, h2, h3, asAddr, a0, b0, go_sem]
theorem split_out {w W : World} {v : Value} {zs : List Int} {X : Obj} {k : Int} {qs : List Pk} (h : Sp w v X k qs W) (hq : qs.map Pk.plain = (splitP zs).1) (hk : (splitP zs).2 = k) (tmps : Array Value)
    (h2 : tmps[2]?.getD undef = .pointer (some ⟨w.heap.size, 0, none⟩)) (h3 : tmps[3]?.getD undef = .pointer (some ⟨w.heap.size + 1, 0, none⟩)) :
    LeavesInM Fence.wide 1 Tryd.prog Tryd.f8 tmps (fun e W' => ∃ lv qs, e = .returned (.tuple #[lv, .int .i64 (splitP zs).2]) ∧ W'.ownsRow w.heap.size 38 10 lv qs.length (pkcells qs) ∧
      (∀ p ∈ qs, Pr w.heap.size W' p) ∧ qs.map Pk.plain = (splitP zs).1 ∧ Below w.heap.size w W') [{ target := .collected (w.heap.size + 3), args := #[] }] .returning W := by
  refine ⟨by simp, .inl ⟨_, _, rfl, run_takeDeferred h.df, ?_⟩⟩
  obtain ⟨lv, h1, ho, hf⟩ := h.lb
  have hc : Chg [w.heap.size + 3] W (W.putObj (w.heap.size + 3) (.deferred none)) := Chg.put W _ (by simp)
  have hs : w.heap.size + 4 < W.heap.size := (Array.getElem?_eq_some_iff.1 h.lp).1
  refine ⟨_, split_results tmps _ w.heap.size lv k h2 h3 ((hc.block _ (by omega) (by simp)).trans h1) ((hc.block _ (by omega) (by simp)).trans h.eb), lv, qs, by rw [hk], own_mono (own_same ho fun g hg => hc.block g (ho.lt g hg).2 (by have := (ho.lt g hg).1; simp; omega)) (by omega), fun p hp => ?_, hq, hc.below h.bel (by simp)⟩
  exact ((h.rd p hp).mono (by omega)).chg hc fun g hg => (h.rd p hp).pf (by simp at hg; omega)

set_option maxRecDepth 20000 in
set_option maxHeartbeats 4000000 in
theorem split_any {w : World} {v : Value} {zs : List Int} (hr : Rd w v zs) (hp : Plain v) (hl : zs.length ≤ 1000000) :
    Calls Tryd.prog 8 #[v] w fun e W' => ∃ lv qs, e = .returned (.tuple #[lv, .int .i64 (splitP zs).2]) ∧ W'.ownsRow w.heap.size 38 10 lv qs.length (pkcells qs) ∧
      (∀ p ∈ qs, Pr w.heap.size W' p) ∧ qs.map Pk.plain = (splitP zs).1 ∧ Below w.heap.size w W' := by
  obtain ⟨ao, n, cap, rfl⟩ := hr.shape3
  refine callsIn_wide.1 (callsIn_of_wp_marks (n := 1) (F := Fence.wide) Tryd.func8 rfl trivial ?_ rfl)
  have hF40 : Fence.wide.fn 15 := trivial
  simp only [Tryd.ntmps8, List.size_toArray, List.length_cons, List.length_nil, Nat.reduceAdd, Nat.reduceSub, Array.replicate_succ, Array.replicate_zero, List.push_toArray, List.append_toArray, List.nil_append, List.cons_append]
  gi_wp2
  refine (callsIn_wide.2 packets_any).mono ?_
  rintro e w' ⟨rfl, rfl⟩
  gi_wp2
  refine wpIn_wide.2 (range_open rfl (enters_of Tryd.func20 (by kernel_rfl) rfl) fun fn => ?_)
  have hsz : (((w.alloc (.cells #[.slice none 0 0] 32)).alloc (.cells #[.int .i64 0] 33)).alloc (.cells #[.slice ao n cap] 22)).heap.size = w.heap.size + 3 := by simp
  have e0 : (((w.alloc (.cells #[.slice none 0 0] 32)).alloc (.cells #[.int .i64 0] 33)).alloc (.cells #[.slice ao n cap] 22)).heap[w.heap.size]? = some (.cells #[.slice none 0 0] 32 (0, 0)) :=
    row_keep (((below_alloc _ _).trans ((below_alloc _ _).mono (by simp)))) (heap_alloc_new w _)
  have e1 : (((w.alloc (.cells #[.slice none 0 0] 32)).alloc (.cells #[.int .i64 0] 33)).alloc (.cells #[.slice ao n cap] 22)).heap[w.heap.size + 1]? = some (.cells #[.int .i64 0] 33 (0, 0)) :=
    row_keep (below_alloc _ _) (heap_alloc2_new w _ _)
  have e2 : (((w.alloc (.cells #[.slice none 0 0] 32)).alloc (.cells #[.int .i64 0] 33)).alloc (.cells #[.slice ao n cap] 22)).heap[w.heap.size + 2]? = some (.cells #[.slice ao n cap] 22 (0, 0)) := by
    have := heap_alloc2_new (w.alloc (.cells #[.slice none 0 0] 32)) (.cells #[.int .i64 0] 33) (.cells #[.slice ao n cap] 22)
    simpa using this
  have eb : Below w.heap.size w (((w.alloc (.cells #[.slice none 0 0] 32)).alloc (.cells #[.int .i64 0] 33)).alloc (.cells #[.slice ao n cap] 22)) :=
    ((below_alloc _ _).trans ((below_alloc _ _).mono (by simp))).trans ((below_alloc _ _).mono (by simp; omega))
  generalize ((w.alloc (.cells #[.slice none 0 0] 32)).alloc (.cells #[.int .i64 0] 33)).alloc (.cells #[.slice ao n cap] 22) = W0 at *
  rw [hsz]
  have hst : ∀ (X : Obj), Sp w (.slice ao n cap) X 0 [] ((W0.alloc (.deferred (some []))).alloc X) := fun X => by
    have hb := (below_alloc W0 (.deferred (some []))).trans ((below_alloc (W0.alloc (.deferred (some []))) X).mono (by simp))
    refine ⟨⟨.slice none 0 0, row_keep hb e0, World.ownsRow_nil _ _ _ _, (fun g h => by cases h)⟩, row_keep hb e1, row_keep hb e2, ?_, ?_, (fun p h => by cases h), eb.trans (hb.mono eb.size)⟩
    · have := row_keep (below_alloc _ X) (heap_alloc_new W0 (.deferred (some [])))
      rwa [hsz] at this
    · have := heap_alloc2_new W0 (.deferred (some [])) X
      rwa [hsz] at this
  refine (split_loop hr hp hl (hst _) ?hY ?hE).mono ?post
  case hY =>
    intro qs p Wa Wb hS hb hpr hlen
    obtain ⟨h, hd, bd, vt, vf, vk, vh, vb⟩ := p
    obtain ⟨b1, m1, k1, rfl⟩ := hpr.hr.to.rd.shape3
    obtain ⟨b2, m2, k2, rfl⟩ := hpr.hr.fr.rd.shape3
    obtain ⟨b3, m3, k3, rfl⟩ := hpr.hr.tk.rd.shape3
    obtain ⟨b4, m4, k4, rfl⟩ := hpr.hd.rd.shape3
    obtain ⟨b5, m5, k5, rfl⟩ := hpr.bd.rd.shape3
    have S1 := hS.keep hb
    obtain ⟨lv, l1, l2, l3⟩ := hS.lb
    have HS := Lib.hid hS
    have HPR := Lib.hid hpr
    have HB := Lib.hid hb
    have HLV := Lib.hid (And.intro l1 (And.intro l2 l3))
    refine yield_open S1.lp rfl ?_
    have HS1 := Lib.hid S1
    clear hS hpr hb l1 l2 l3 S1 hst e0 e1 e2 eb hr hp
    dsimp only [Pk.cells]
    gi_wp2
    refine ⟨row_keep (below_alloc Wb _) HS1.out.lp, ?_⟩
    have hs4 : w.heap.size + 4 < Wb.heap.size := (Array.getElem?_eq_some_iff.1 HS1.out.lp).1
    refine wpIn_world (fun Wd => Chg [w.heap.size + 4] Wb Wd ∧ Wd.heap[Wb.heap.size]? = some (.cells #[.int .i64 h.k, .int .i64 h.v, .slice b1 m1 k1, .slice b2 m2 k2, .slice b3 m3 k3, .int .i64 h.p, .int .i64 h.n, .int .i64 h.w, .slice b4 m4 k4, .slice b5 m5 k5] 38 (0, 0)) ∧
      Wd.heap[w.heap.size + 4]? = some (.loop (recd fn _ _ _ _ _ .busy none))) ⟨(Chg.alloc Wb _).trans (Chg.put _ _ (by simp)), (World.putObj_heap_other (by omega)).trans (heap_alloc_new Wb _), World.putObj_heap_same (by simp; omega)⟩ ?_
    rintro Wd ⟨hch, hpb, hlb⟩
    have hsd : w.heap.size + 4 < Wd.heap.size := Nat.lt_of_lt_of_le hs4 hch.size
    have hrow : Wd.heap[w.heap.size]? = some (.cells #[lv] 32 (0, 0)) := (hch.block _ (by omega) (by simp)).trans (row_keep HB.out HLV.out.1)
    have hown : Wd.ownsRow (w.heap.size + 5) 38 10 lv qs.length (pkcells qs) := own_same (own_below HLV.out.2.1 HB.out) fun g hg => by
      have hlt := HLV.out.2.1.lt g hg
      exact hch.block g (Nat.lt_of_lt_of_le hlt.2 HB.out.size) (by simp; omega)
    have c0 := (cell_of_row Wd w.heap.size 0 _ 32 (0, 0) hrow).trans rfl
    have f0 := unfrozen hrow 0
    have hy := fun i => cell_of_row Wd Wb.heap.size i _ 38 (0, 0) hpb
    have y0 := hy 0
    have y1 := hy 1
    have y2 := hy 2
    have y3 := hy 3
    have y4 := hy 4
    have y5 := hy 5
    have y6 := hy 6
    have y7 := hy 7
    have y8 := hy 8
    have y9 := hy 9
    have HCH := Lib.hid hch
    have HLB := Lib.hid hlb
    have HROW := Lib.hid hrow
    have HSD := Lib.hid hsd
    have HOWN := Lib.hid hown
    have HLEN := Lib.hid hlen
    obtain ⟨ip, hip, hz0, hz1, hz2⟩ := info_parts info_pk
    have hcn := fun i => cell_of_row _ Wd.heap.size i _ 38 (0, 0) (heap_alloc_new Wd (.cells #[.int .i64 h.k, .int .i64 h.v, .slice b1 m1 k1, .slice b2 m2 k2, .slice b3 m3 k3, .int .i64 h.p, .int .i64 h.n, .int .i64 h.w, .slice b4 m4 k4, .slice b5 m5 k5] 38))
    have HCN := Lib.hid hcn
    clear hy hpb hch hlb hrow hs4 hsd hown hlen hcn
    gi_wp2_with (
      gi_at_builtin
      refine wpListIn_append_own_at _ rfl (.tmp 14) (.tmp 16) 32 rfl (w.heap.size + 5) 38 ip (.agg zpk) 10 160 Tryd.underlying32 hip hz0 hz1 hz2 rfl (by decide) lv qs.length (pkcells qs) rfl
        (own_below HOWN.out (below_alloc Wd _)) ⟨Wd.heap.size, 0, none⟩ 1 1 [.int .i64 h.k, .int .i64 h.v, .slice b1 m1 k1, .slice b2 m2 k2, .slice b3 m3 k3, .int .i64 h.p, .int .i64 h.n, .int .i64 h.w, .slice b4 m4 k4, .slice b5 m5 k5] rfl rfl
        (cells_at HCN.out) (by intro u hu; simp at hu; rcases hu with rfl | rfl | rfl | rfl | rfl | rfl | rfl | rfl | rfl | rfl <;> rfl) (by have := HLEN.out; unfold maxLen; omega) (by have := HLEN.out; omega) (by have := HSD.out; simp; omega) ?_
      intro v' w2 hown' hgrow _ hplace
      obtain ⟨g', cap', rfl⟩ := ownsRow_succ hown'
      have hr2 := (hgrow.block w.heap.size (by have := HSD.out; simp; omega) (fun e => by have := (HOWN.out.lt _ e.symm).1; omega)).trans (row_keep (below_alloc Wd _) HROW.out)
      have hl2 := (hgrow.block (w.heap.size + 4) (by have := HSD.out; simp; omega) (fun e => by have := (HOWN.out.lt _ e.symm).1; omega)).trans (row_keep (below_alloc Wd _) HLB.out)
      have c2 := (cell_of_row w2 w.heap.size 0 _ 32 (0, 0) hr2).trans rfl
      have f2 := unfrozen hr2 0
      have HST := Lib.hid (And.intro hown' (And.intro hgrow (And.intro hplace (And.intro hr2 hl2))))
      clear hown' hgrow hplace hr2 hl2)
    obtain ⟨hown', hgrow, hplace, hr2, hl2⟩ := HST.out
    have hch := HCH.out
    have e0 := heap_setCell_same w2 w.heap.size 0 _ 32 (.slice (some ⟨g', 0, none⟩) (qs.length + 1) cap') hr2
    simp only [List.setIfInBounds_toArray, List.set_cons_zero] at e0
    have e4 := (Below.heap_setCell w2 ⟨w.heap.size, 0, none⟩ (.slice (some ⟨g', 0, none⟩) (qs.length + 1) cap') (w.heap.size + 4) (by simp)).trans hl2
    have hs2 : w.heap.size + 4 < (w2.setCell ⟨w.heap.size, 0, none⟩ (.slice (some ⟨g', 0, none⟩) (qs.length + 1) cap')).heap.size := (Array.getElem?_eq_some_iff.1 e4).1
    exact ⟨e4, rfl, HS.out.step HLV.out.1 HB.out HPR.out (hch.trans (Chg.alloc Wd _)) hgrow hown' hplace ((Chg.set w2 0 _ (by simp)).trans (Chg.put _ _ (by simp))) ((World.putObj_heap_other (by omega)).trans e0) (World.putObj_heap_same hs2)⟩
  case hE =>
    intro qs k Wb hS hk
    obtain ⟨lv, l1, l2, l3⟩ := hS.lb
    have HS := Lib.hid hS
    have HK := Lib.hid hk
    have L1 := Lib.hid l1
    have hlv : ∃ a b c, lv = .slice a b c := by
      rcases l2.2 with ⟨rfl, _⟩ | ⟨g, cap, cur, rfl, _⟩
      · exact ⟨_, _, _, rfl⟩
      · exact ⟨_, _, _, rfl⟩
    obtain ⟨la, lb, lc, rfl⟩ := hlv
    refine yield_open hS.lp rfl ?_
    clear hS l2 l3 l1 hst e0 e1 e2 eb hr hp hk
    dsimp only [zpk]
    gi_wp2
    refine ⟨row_keep (below_alloc Wb _) HS.out.lp, ?_⟩
    have hs4 : w.heap.size + 4 < Wb.heap.size := (Array.getElem?_eq_some_iff.1 HS.out.lp).1
    refine wpIn_world (fun Wd => Chg [w.heap.size + 4] Wb Wd ∧
      Wd.heap[w.heap.size + 4]? = some (.loop (recd fn _ _ _ _ _ .busy none))) ⟨(Chg.alloc Wb _).trans (Chg.put _ _ (by simp)), World.putObj_heap_same (by simp; omega)⟩ ?_
    rintro Wd ⟨hch, hlb⟩
    have hsd : w.heap.size + 4 < Wd.heap.size := Nat.lt_of_lt_of_le hs4 hch.size
    have hrow : Wd.heap[w.heap.size]? = some (.cells #[.slice la lb lc] 32 (0, 0)) := (hch.block _ (by omega) (by simp)).trans L1.out
    have hrow1 : Wd.heap[w.heap.size + 1]? = some (.cells #[.int .i64 0] 33 (0, 0)) := (hch.block _ (by omega) (by simp)).trans HS.out.eb
    have c0 := (cell_of_row Wd w.heap.size 0 _ 32 (0, 0) hrow).trans rfl
    have f0 := unfrozen hrow 0
    have c1 := (cell_of_row Wd (w.heap.size + 1) 0 _ 33 (0, 0) hrow1).trans rfl
    have f1 := unfrozen hrow1 0
    have hnn : (k != 0) = true := by simp [HK.out]
    have HCH := Lib.hid hch
    have HLB := Lib.hid hlb
    have HROW := Lib.hid hrow
    have HROW1 := Lib.hid hrow1
    have HSD := Lib.hid hsd
    clear hch hlb hrow hrow1 hs4 hsd
    gi_wp2
    have e0 := heap_setCell_same Wd w.heap.size 0 _ 32 (.slice la lb lc) HROW.out
    simp only [List.setIfInBounds_toArray, List.set_cons_zero] at e0
    have e1 := heap_setCell_same (Wd.setCell ⟨w.heap.size, 0, none⟩ (.slice la lb lc)) (w.heap.size + 1) 0 _ 33 (.int .i64 k) ((Below.heap_setCell Wd ⟨w.heap.size, 0, none⟩ (.slice la lb lc) (w.heap.size + 1) (by simp)).trans HROW1.out)
    simp only [List.setIfInBounds_toArray, List.set_cons_zero] at e1
    have e2 := (Below.heap_setCell (Wd.setCell ⟨w.heap.size, 0, none⟩ (.slice la lb lc)) ⟨w.heap.size + 1, 0, none⟩ (.int .i64 k) w.heap.size (by simp)).trans e0
    have e4 := (Below.heap_setCell (Wd.setCell ⟨w.heap.size, 0, none⟩ (.slice la lb lc)) ⟨w.heap.size + 1, 0, none⟩ (.int .i64 k) (w.heap.size + 4) (by simp)).trans ((Below.heap_setCell Wd ⟨w.heap.size, 0, none⟩ (.slice la lb lc) (w.heap.size + 4) (by simp)).trans HLB.out)
    have hs2 := (Array.getElem?_eq_some_iff.1 e4).1
    have hch := HCH.out
    exact ⟨e4, rfl, HS.out.turn L1.out (((Chg.trans ⟨hch.os, hch.tape, hch.output, hch.size, fun j hj hn => hch.block j hj (fun h => hn (by simp at h; simp [h]))⟩ (Chg.set Wd 0 _ (by simp))).trans (Chg.set _ 0 _ (by simp))).trans (Chg.put _ _ (by simp)))
      ((World.putObj_heap_other (by omega)).trans e2) ((World.putObj_heap_other (by omega)).trans e1) (World.putObj_heap_same hs2)⟩
  case post =>
    rintro e W ⟨he, qs, hq, (⟨h0, hS⟩ | hS)⟩
    · refine ⟨he, .inl ⟨hS.lp, fun o => ?_⟩⟩
      obtain ⟨lv, l1, l2, l3⟩ := hS.lb
      have hs4 : w.heap.size + 4 < W.heap.size := (Array.getElem?_eq_some_iff.1 hS.lp).1
      have S1 : Sp w (.slice ao n cap) o 0 qs (W.putObj (w.heap.size + 4) o) := hS.turn l1 (Chg.put W o (by simp)) ((World.putObj_heap_other (by omega)).trans l1) ((World.putObj_heap_other (by omega)).trans hS.eb) (World.putObj_heap_same hs4)
      have hlv : ∃ a b c, lv = .slice a b c := by
        rcases l2.2 with ⟨rfl, _⟩ | ⟨g, cap, cur, rfl, _⟩
        · exact ⟨_, _, _, rfl⟩
        · exact ⟨_, _, _, rfl⟩
      obtain ⟨la, lb, lc, rfl⟩ := hlv
      have l1' : (W.putObj (w.heap.size + 4) o).heap[w.heap.size]? = some (.cells #[.slice la lb lc] 32 (0, 0)) := (World.putObj_heap_other (by omega)).trans l1
      have hrow1 := S1.eb
      have c0 := (cell_of_row _ w.heap.size 0 _ 32 (0, 0) l1').trans rfl
      have f0 := unfrozen l1' 0
      have c1 := (cell_of_row _ (w.heap.size + 1) 0 _ 33 (0, 0) hrow1).trans rfl
      have f1 := unfrozen hrow1 0
      have HS := Lib.hid S1
      have L1 := Lib.hid l1'
      have HQ := Lib.hid hq
      have H0 := Lib.hid h0
      have HEB := Lib.hid hrow1
      show Exit.inBlock 0 _ Exit.normal _ (W.putObj (w.heap.size + 4) o)
      generalize W.putObj (w.heap.size + 4) o = W1 at *
      clear S1 l1' hq h0 hrow1 hS l1 l2 l3 hst e0 e1 e2 eb hr hp
      dsimp only [marked]
      gi_wp2
      have e0 := heap_setCell_same W1 w.heap.size 0 _ 32 (.slice la lb lc) L1.out
      simp only [List.setIfInBounds_toArray, List.set_cons_zero] at e0
      have e1 := heap_setCell_same (W1.setCell ⟨w.heap.size, 0, none⟩ (.slice la lb lc)) (w.heap.size + 1) 0 _ 33 (.int .i64 0) ((Below.heap_setCell W1 ⟨w.heap.size, 0, none⟩ (.slice la lb lc) (w.heap.size + 1) (by simp)).trans HEB.out)
      simp only [List.setIfInBounds_toArray, List.set_cons_zero] at e1
      have e2 := (Below.heap_setCell (W1.setCell ⟨w.heap.size, 0, none⟩ (.slice la lb lc)) ⟨w.heap.size + 1, 0, none⟩ (.int .i64 0) w.heap.size (by simp)).trans e0
      have e4 := (Below.heap_setCell (W1.setCell ⟨w.heap.size, 0, none⟩ (.slice la lb lc)) ⟨w.heap.size + 1, 0, none⟩ (.int .i64 0) (w.heap.size + 4) (by simp)).trans ((Below.heap_setCell W1 ⟨w.heap.size, 0, none⟩ (.slice la lb lc) (w.heap.size + 4) (by simp)).trans HS.out.lp)
      exact split_out (HS.out.turn L1.out ((Chg.set W1 0 _ (by simp)).trans (Chg.set _ 0 _ (by simp))) e2 e1 e4) HQ.out H0.out _ rfl rfl
    · refine ⟨he, .inr ⟨_, hS.lp, fun o => ?_⟩⟩
      obtain ⟨lv, l1, l2, l3⟩ := hS.lb
      have hs4 : w.heap.size + 4 < W.heap.size := (Array.getElem?_eq_some_iff.1 hS.lp).1
      have S1 : Sp w (.slice ao n cap) o (splitP zs).2 qs (W.putObj (w.heap.size + 4) o) := hS.turn l1 (Chg.put W o (by simp)) ((World.putObj_heap_other (by omega)).trans l1) ((World.putObj_heap_other (by omega)).trans hS.eb) (World.putObj_heap_same hs4)
      refine (wpIn_wide (n := 1)).1 ?_
      gi_wp2
      exact split_out S1 hq rfl _ rfl rfl
#print axioms split_any
end Go.Proofs.YtgnjmmaahpngpaaDoor
namespace Go.Proofs.YtgnjmmaahpngpaaDoor
open Go Go.RowKit

/-- A packet, and what stands behind it. -/
theorem splitP_of {h : Hv} {body behind : List Int} (hX : rightB h = true) (hb : body.length ≤ 16384) (hz : Byt (wrB h body.length ++ body ++ behind)) (hk : h.k = 3 → behind = []) :
    splitP (wrB h body.length ++ body ++ behind) = ((h, wrB h body.length, body) :: (splitP behind).1, (splitP behind).2) := by
  have hr := refP_back hX hb hz hk
  have hbd := ref_bounds (zs := wrB h body.length ++ body ++ behind) (by rw [hr])
  rw [hr] at hbd
  have hne : wrB h body.length ++ body ++ behind ≠ [] := fun e => by
    have h0 := (List.append_eq_nil_iff.1 (List.append_eq_nil_iff.1 e).1).1
    rw [h0] at hbd
    simp at hbd
  rw [splitP_ok hne (by rw [hr]), hr]
  have e1 : (wrB h body.length ++ body ++ behind).take (wrB h body.length).length = wrB h body.length := by rw [List.append_assoc, List.take_left']; rfl
  have e2 : ((wrB h body.length ++ body ++ behind).take ((((wrB h body.length ++ body).length : Nat) : Int).toNat)).drop (wrB h body.length).length = body := by
    rw [Int.toNat_natCast, List.take_left' rfl, List.drop_left' rfl]
  have e3 : (wrB h body.length ++ body ++ behind).drop ((((wrB h body.length ++ body).length : Nat) : Int).toNat) = behind := by
    rw [Int.toNat_natCast, List.drop_left' rfl]
  simp only [e1, e2, e3]
/-- Three packets, the middle one's body empty. -/
theorem splitP_three {a b c : Hv} {body : List Int} (ha : rightB a = true) (hb : rightB b = true) (hc : rightB c = true) (ka : a.k ≠ 3) (kb : b.k ≠ 3) (hl : body.length ≤ 16384)
    (hz : Byt (wrB a body.length ++ body ++ (wrB b 0 ++ (wrB c body.length ++ body)))) :
    splitP (wrB a body.length ++ body ++ (wrB b 0 ++ (wrB c body.length ++ body))) = ([(a, wrB a body.length, body), (b, wrB b 0, []), (c, wrB c body.length, body)], 0) := by
  have hz2 : Byt (wrB b 0 ++ (wrB c body.length ++ body)) := fun z h => hz z (List.mem_append_right _ h)
  have hz3 : Byt (wrB c body.length ++ body) := fun z h => hz2 z (List.mem_append_right _ h)
  have c1 := splitP_of (behind := []) hc hl (by simpa using hz3) (fun _ => rfl)
  rw [List.append_nil, splitP_nil] at c1
  have c2 := splitP_of (h := b) (body := []) (behind := wrB c body.length ++ body) hb (by simp) (by simpa using hz2) (fun h => absurd h kb)
  simp only [List.length_nil, List.append_nil] at c2
  rw [c1] at c2
  rw [show ((0 : Nat) : Int) = 0 from rfl] at c2
  rw [splitP_of ha hl hz (fun h => absurd h ka), c2]
#print axioms splitP_three
end Go.Proofs.YtgnjmmaahpngpaaDoor
namespace Go.Proofs.YtgnjmmaahpngpaaDoor
open Go Go.RowKit

/-- Three new blocks behind one. -/
theorem alloc3 (w : World) (o o1 o2 o3 : Obj) : Below w.heap.size w ((((w.alloc o).alloc o1).alloc o2).alloc o3).drew ∧ ((((w.alloc o).alloc o1).alloc o2).alloc o3).drew.heap[w.heap.size + 1]? = some o1 ∧ ((((w.alloc o).alloc o1).alloc o2).alloc o3).drew.heap[w.heap.size + 1 + 1]? = some o2 ∧ ((((w.alloc o).alloc o1).alloc o2).alloc o3).drew.heap[w.heap.size + 1 + 1 + 1]? = some o3 := by
  have b1 := below_alloc w o
  have b2 := below_alloc (w.alloc o) o1
  have b3 := below_alloc ((w.alloc o).alloc o1) o2
  have b4 := below_alloc (((w.alloc o).alloc o1).alloc o2) o3
  have h1 := heap_alloc_new (w.alloc o) o1
  have h2 := heap_alloc_new ((w.alloc o).alloc o1) o2
  have h3 := heap_alloc_new (((w.alloc o).alloc o1).alloc o2) o3
  simp only [World.size_alloc] at *
  refine ⟨(((b1.trans (b2.mono (by omega))).trans (b3.mono (by omega))).trans (b4.mono (by omega))).drew, ?_, ?_, h3⟩
  · exact (b4.block _ (by omega)).trans ((b3.block _ (by omega)).trans h1)
  · exact (b4.block _ (by omega)).trans h2
/-- What is written of a header; none, if it may not be. -/
def wrX (h : Hv) (n : Int) : List Int := if rightB h = true then wrB h n else []
theorem wrx_any (w : World) (h : Hv) (n : Int) (a2 : Option Addr) (c2 : Nat) (a3 : Option Addr) (c3 : Nat) (a4 : Option Addr) (c4 : Nat) (hr : Hr w h (.slice a2 h.to.length c2) (.slice a3 h.fr.length c3) (.slice a4 h.tk.length c4)) (l2 : h.to.length ≤ 1000) (l3 : h.fr.length ≤ 1000) (l4 : h.tk.length ≤ 1000) (hn : 0 ≤ n ∧ n ≤ 16384) (ht : Tab w) (hw : 1 < w.heap.size) :
    Calls Tryd.prog 5 #[.agg #[.int .i64 h.k, .int .i64 h.v, .slice a2 h.to.length c2, .slice a3 h.fr.length c3, .slice a4 h.tk.length c4, .int .i64 h.p, .int .i64 h.n, .int .i64 h.w], .int .i64 n] w fun e w' => ∃ v', e = .returned v' ∧ w'.ownsRow w.heap.size 5 1 v' (wrX h n).length (by8 (wrX h n)) ∧ Below w.heap.size w w' := by
  unfold wrX
  by_cases hX : rightB h = true
  · rw [if_pos hX]
    exact write_yes w h n a2 c2 a3 c3 a4 c4 hr hX hn ht hw
  · rw [if_neg hX]
    exact (write_none w h n a2 c2 a3 c3 a4 c4 l2 l3 l4 (.inl (by simpa using hX))).mono fun e w' ⟨h1, h2⟩ => ⟨_, h1, World.ownsRow_nil _ _ _ _, h2⟩

theorem three_pk {qs : List Pk} {x y z : Hv × List Int × List Int} (h : qs.map Pk.plain = [x, y, z]) : ∃ q0 q1 q2, qs = [q0, q1, q2] ∧ q0.plain = x ∧ q1.plain = y ∧ q2.plain = z := by
  match qs, h with
  | [q0, q1, q2], h =>
    simp only [List.map_cons, List.map_nil, List.cons.injEq, and_true] at h
    exact ⟨q0, q1, q2, rfl, h.1, h.2.1, h.2.2⟩
theorem joinS {a b c : Hv} {body p q r : List Int} (h1 : rightB a = true ∧ p = wrB a body.length) (h2 : rightB b = true ∧ q = wrB b 0) (h3 : rightB c = true ∧ r = wrB c body.length) (ka : a.k ≠ 3) (kb : b.k ≠ 3) (hl : body.length ≤ 16384) (hy : Byt (p ++ body ++ q ++ r ++ body)) :
    splitP (p ++ body ++ q ++ r ++ body) = ([(a, p, body), (b, q, []), (c, r, body)], 0) := by
  obtain ⟨ra, rfl⟩ := h1
  obtain ⟨rb, rfl⟩ := h2
  obtain ⟨rc, rfl⟩ := h3
  have e : wrB a body.length ++ body ++ wrB b 0 ++ wrB c body.length ++ body = wrB a body.length ++ body ++ (wrB b 0 ++ (wrB c body.length ++ body)) := by simp only [List.append_assoc]
  rw [e] at hy ⊢
  exact splitP_three ra rb rc ka kb hl hy
theorem pk3 {w : World} {g : Nat} {cur : Array Value} {T : TypeId} {q0 q1 q2 : Pk} (h : w.heap[g]? = some (.cells cur T (0, 0))) (ht : cur.toList.take 30 = pkcells [q0, q1, q2]) :
    w.cell? ⟨g, 0, none⟩ = some (.int .i64 q0.h.k) ∧ w.cell? ⟨g, 1, none⟩ = some (.int .i64 q0.h.v) ∧ w.cell? ⟨g, 2, none⟩ = some (q0.vt) ∧ w.cell? ⟨g, 3, none⟩ = some (q0.vf) ∧ w.cell? ⟨g, 4, none⟩ = some (q0.vk) ∧ w.cell? ⟨g, 5, none⟩ = some (.int .i64 q0.h.p) ∧ w.cell? ⟨g, 6, none⟩ = some (.int .i64 q0.h.n) ∧ w.cell? ⟨g, 7, none⟩ = some (.int .i64 q0.h.w) ∧ w.cell? ⟨g, 8, none⟩ = some (q0.vh) ∧ w.cell? ⟨g, 9, none⟩ = some (q0.vb) ∧ w.cell? ⟨g, 10, none⟩ = some (.int .i64 q1.h.k) ∧ w.cell? ⟨g, 11, none⟩ = some (.int .i64 q1.h.v) ∧ w.cell? ⟨g, 12, none⟩ = some (q1.vt) ∧ w.cell? ⟨g, 13, none⟩ = some (q1.vf) ∧ w.cell? ⟨g, 14, none⟩ = some (q1.vk) ∧ w.cell? ⟨g, 15, none⟩ = some (.int .i64 q1.h.p) ∧ w.cell? ⟨g, 16, none⟩ = some (.int .i64 q1.h.n) ∧ w.cell? ⟨g, 17, none⟩ = some (.int .i64 q1.h.w) ∧ w.cell? ⟨g, 18, none⟩ = some (q1.vh) ∧ w.cell? ⟨g, 19, none⟩ = some (q1.vb) ∧ w.cell? ⟨g, 20, none⟩ = some (.int .i64 q2.h.k) ∧ w.cell? ⟨g, 21, none⟩ = some (.int .i64 q2.h.v) ∧ w.cell? ⟨g, 22, none⟩ = some (q2.vt) ∧ w.cell? ⟨g, 23, none⟩ = some (q2.vf) ∧ w.cell? ⟨g, 24, none⟩ = some (q2.vk) ∧ w.cell? ⟨g, 25, none⟩ = some (.int .i64 q2.h.p) ∧ w.cell? ⟨g, 26, none⟩ = some (.int .i64 q2.h.n) ∧ w.cell? ⟨g, 27, none⟩ = some (.int .i64 q2.h.w) ∧ w.cell? ⟨g, 28, none⟩ = some (q2.vh) ∧ w.cell? ⟨g, 29, none⟩ = some (q2.vb) := by
  have key : ∀ i, i < 30 → cur[i]? = (pkcells [q0, q1, q2])[i]? := fun i hi => by
    rw [← ht, ← Array.getElem?_toList, List.getElem?_take_of_lt hi]
  exact ⟨(cell_of_row w g 0 cur T (0, 0) h).trans ((key 0 (by decide)).trans rfl), (cell_of_row w g 1 cur T (0, 0) h).trans ((key 1 (by decide)).trans rfl), (cell_of_row w g 2 cur T (0, 0) h).trans ((key 2 (by decide)).trans rfl), (cell_of_row w g 3 cur T (0, 0) h).trans ((key 3 (by decide)).trans rfl), (cell_of_row w g 4 cur T (0, 0) h).trans ((key 4 (by decide)).trans rfl), (cell_of_row w g 5 cur T (0, 0) h).trans ((key 5 (by decide)).trans rfl), (cell_of_row w g 6 cur T (0, 0) h).trans ((key 6 (by decide)).trans rfl), (cell_of_row w g 7 cur T (0, 0) h).trans ((key 7 (by decide)).trans rfl), (cell_of_row w g 8 cur T (0, 0) h).trans ((key 8 (by decide)).trans rfl), (cell_of_row w g 9 cur T (0, 0) h).trans ((key 9 (by decide)).trans rfl), (cell_of_row w g 10 cur T (0, 0) h).trans ((key 10 (by decide)).trans rfl), (cell_of_row w g 11 cur T (0, 0) h).trans ((key 11 (by decide)).trans rfl), (cell_of_row w g 12 cur T (0, 0) h).trans ((key 12 (by decide)).trans rfl), (cell_of_row w g 13 cur T (0, 0) h).trans ((key 13 (by decide)).trans rfl), (cell_of_row w g 14 cur T (0, 0) h).trans ((key 14 (by decide)).trans rfl), (cell_of_row w g 15 cur T (0, 0) h).trans ((key 15 (by decide)).trans rfl), (cell_of_row w g 16 cur T (0, 0) h).trans ((key 16 (by decide)).trans rfl), (cell_of_row w g 17 cur T (0, 0) h).trans ((key 17 (by decide)).trans rfl), (cell_of_row w g 18 cur T (0, 0) h).trans ((key 18 (by decide)).trans rfl), (cell_of_row w g 19 cur T (0, 0) h).trans ((key 19 (by decide)).trans rfl), (cell_of_row w g 20 cur T (0, 0) h).trans ((key 20 (by decide)).trans rfl), (cell_of_row w g 21 cur T (0, 0) h).trans ((key 21 (by decide)).trans rfl), (cell_of_row w g 22 cur T (0, 0) h).trans ((key 22 (by decide)).trans rfl), (cell_of_row w g 23 cur T (0, 0) h).trans ((key 23 (by decide)).trans rfl), (cell_of_row w g 24 cur T (0, 0) h).trans ((key 24 (by decide)).trans rfl), (cell_of_row w g 25 cur T (0, 0) h).trans ((key 25 (by decide)).trans rfl), (cell_of_row w g 26 cur T (0, 0) h).trans ((key 26 (by decide)).trans rfl), (cell_of_row w g 27 cur T (0, 0) h).trans ((key 27 (by decide)).trans rfl), (cell_of_row w g 28 cur T (0, 0) h).trans ((key 28 (by decide)).trans rfl), (cell_of_row w g 29 cur T (0, 0) h).trans ((key 29 (by decide)).trans rfl)⟩
theorem pk3p {w : World} {g : Nat} {cur : Array Value} {T : TypeId} {q0 q1 q2 : Pk} {a b c : Hv} {u : Value} (h : w.heap[g]? = some (.cells cur T (0, 0))) (ht : cur.toList.take 30 = pkcells [q0, q1, q2]) (j1 : q0.h = a) (j2 : q1.h = b) (j3 : q2.h = c) (j4 : q1.vb = u) :
    w.cell? ⟨g, 0, none⟩ = some (.int .i64 a.k) ∧ w.cell? ⟨g, 1, none⟩ = some (.int .i64 a.v) ∧ w.cell? ⟨g, 2, none⟩ = some (q0.vt) ∧ w.cell? ⟨g, 3, none⟩ = some (q0.vf) ∧ w.cell? ⟨g, 4, none⟩ = some (q0.vk) ∧ w.cell? ⟨g, 5, none⟩ = some (.int .i64 a.p) ∧ w.cell? ⟨g, 6, none⟩ = some (.int .i64 a.n) ∧ w.cell? ⟨g, 7, none⟩ = some (.int .i64 a.w) ∧ w.cell? ⟨g, 8, none⟩ = some (q0.vh) ∧ w.cell? ⟨g, 9, none⟩ = some (q0.vb) ∧ w.cell? ⟨g, 10, none⟩ = some (.int .i64 b.k) ∧ w.cell? ⟨g, 11, none⟩ = some (.int .i64 b.v) ∧ w.cell? ⟨g, 12, none⟩ = some (q1.vt) ∧ w.cell? ⟨g, 13, none⟩ = some (q1.vf) ∧ w.cell? ⟨g, 14, none⟩ = some (q1.vk) ∧ w.cell? ⟨g, 15, none⟩ = some (.int .i64 b.p) ∧ w.cell? ⟨g, 16, none⟩ = some (.int .i64 b.n) ∧ w.cell? ⟨g, 17, none⟩ = some (.int .i64 b.w) ∧ w.cell? ⟨g, 18, none⟩ = some (q1.vh) ∧ w.cell? ⟨g, 19, none⟩ = some (u) ∧ w.cell? ⟨g, 20, none⟩ = some (.int .i64 c.k) ∧ w.cell? ⟨g, 21, none⟩ = some (.int .i64 c.v) ∧ w.cell? ⟨g, 22, none⟩ = some (q2.vt) ∧ w.cell? ⟨g, 23, none⟩ = some (q2.vf) ∧ w.cell? ⟨g, 24, none⟩ = some (q2.vk) ∧ w.cell? ⟨g, 25, none⟩ = some (.int .i64 c.p) ∧ w.cell? ⟨g, 26, none⟩ = some (.int .i64 c.n) ∧ w.cell? ⟨g, 27, none⟩ = some (.int .i64 c.w) ∧ w.cell? ⟨g, 28, none⟩ = some (q2.vh) ∧ w.cell? ⟨g, 29, none⟩ = some (q2.vb) := by
  subst j1 j2 j3 j4
  exact pk3 h ht
theorem own_shape {w : World} {base : Nat} {e : TypeId} {size : Nat} {v : Value} {n : Nat} {xs : List Value} (h : w.ownsRow base e size v n xs) : ∃ ao cap, v = .slice ao n cap ∧ n ≤ cap ∧ cap ≤ maxLen := by
  rcases h.2 with ⟨rfl, rfl⟩ | ⟨g, cap, cur, rfl, _, _, h1, h2, _⟩
  · exact ⟨none, 0, rfl, Nat.le_refl _, by simp [maxLen]⟩
  · exact ⟨_, cap, rfl, h1, h2⟩
theorem keep24 {X w' : World} {ga gb gc : Nat} {T : TypeId} {u0 u1 u2 u3 u4 u5 u6 u7 v0 v1 v2 v3 v4 v5 v6 v7 t0 t1 t2 t3 t4 t5 t6 t7 : Value} (hA : X.heap[ga]? = some (.cells #[u0, u1, u2, u3, u4, u5, u6, u7] T (0, 0))) (hB : X.heap[gb]? = some (.cells #[v0, v1, v2, v3, v4, v5, v6, v7] T (0, 0))) (hC : X.heap[gc]? = some (.cells #[t0, t1, t2, t3, t4, t5, t6, t7] T (0, 0))) (hb : Below X.heap.size X w') :
    w'.cell? ⟨ga, 0, none⟩ = some u0 ∧ w'.cell? ⟨ga, 1, none⟩ = some u1 ∧ w'.cell? ⟨ga, 2, none⟩ = some u2 ∧ w'.cell? ⟨ga, 3, none⟩ = some u3 ∧ w'.cell? ⟨ga, 4, none⟩ = some u4 ∧ w'.cell? ⟨ga, 5, none⟩ = some u5 ∧ w'.cell? ⟨ga, 6, none⟩ = some u6 ∧ w'.cell? ⟨ga, 7, none⟩ = some u7 ∧ w'.cell? ⟨gb, 0, none⟩ = some v0 ∧ w'.cell? ⟨gb, 1, none⟩ = some v1 ∧ w'.cell? ⟨gb, 2, none⟩ = some v2 ∧ w'.cell? ⟨gb, 3, none⟩ = some v3 ∧ w'.cell? ⟨gb, 4, none⟩ = some v4 ∧ w'.cell? ⟨gb, 5, none⟩ = some v5 ∧ w'.cell? ⟨gb, 6, none⟩ = some v6 ∧ w'.cell? ⟨gb, 7, none⟩ = some v7 ∧ w'.cell? ⟨gc, 0, none⟩ = some t0 ∧ w'.cell? ⟨gc, 1, none⟩ = some t1 ∧ w'.cell? ⟨gc, 2, none⟩ = some t2 ∧ w'.cell? ⟨gc, 3, none⟩ = some t3 ∧ w'.cell? ⟨gc, 4, none⟩ = some t4 ∧ w'.cell? ⟨gc, 5, none⟩ = some t5 ∧ w'.cell? ⟨gc, 6, none⟩ = some t6 ∧ w'.cell? ⟨gc, 7, none⟩ = some t7 := by
  obtain ⟨a0, a1, a2, a3, a4, a5, a6, a7⟩ := cells8 (row_below hb hA)
  obtain ⟨b0, b1, b2, b3, b4, b5, b6, b7⟩ := cells8 (row_below hb hB)
  obtain ⟨c0, c1, c2, c3, c4, c5, c6, c7⟩ := cells8 (row_below hb hC)
  exact ⟨a0, a1, a2, a3, a4, a5, a6, a7, b0, b1, b2, b3, b4, b5, b6, b7, c0, c1, c2, c3, c4, c5, c6, c7⟩
theorem keepZ {X k w' : World} {ga gb gc gl : Nat} {T T' : TypeId} {cur : Array Value} {q0 q1 q2 : Pk} {a b c : Hv} {u : Value} {u0 u1 u2 u3 u4 u5 u6 u7 v0 v1 v2 v3 v4 v5 v6 v7 t0 t1 t2 t3 t4 t5 t6 t7 : Value} (hA : X.heap[ga]? = some (.cells #[u0, u1, u2, u3, u4, u5, u6, u7] T (0, 0))) (hB : X.heap[gb]? = some (.cells #[v0, v1, v2, v3, v4, v5, v6, v7] T (0, 0))) (hC : X.heap[gc]? = some (.cells #[t0, t1, t2, t3, t4, t5, t6, t7] T (0, 0))) (hX : Below X.heap.size X k)
    (h : k.heap[gl]? = some (.cells cur T' (0, 0))) (ht : cur.toList.take 30 = pkcells [q0, q1, q2]) (j1 : q0.h = a) (j2 : q1.h = b) (j3 : q2.h = c) (j4 : q1.vb = u) (hb : Below k.heap.size k w') :
    w'.cell? ⟨ga, 0, none⟩ = some u0 ∧ w'.cell? ⟨ga, 1, none⟩ = some u1 ∧ w'.cell? ⟨ga, 2, none⟩ = some u2 ∧ w'.cell? ⟨ga, 3, none⟩ = some u3 ∧ w'.cell? ⟨ga, 4, none⟩ = some u4 ∧ w'.cell? ⟨ga, 5, none⟩ = some u5 ∧ w'.cell? ⟨ga, 6, none⟩ = some u6 ∧ w'.cell? ⟨ga, 7, none⟩ = some u7 ∧ w'.cell? ⟨gb, 0, none⟩ = some v0 ∧ w'.cell? ⟨gb, 1, none⟩ = some v1 ∧ w'.cell? ⟨gb, 2, none⟩ = some v2 ∧ w'.cell? ⟨gb, 3, none⟩ = some v3 ∧ w'.cell? ⟨gb, 4, none⟩ = some v4 ∧ w'.cell? ⟨gb, 5, none⟩ = some v5 ∧ w'.cell? ⟨gb, 6, none⟩ = some v6 ∧ w'.cell? ⟨gb, 7, none⟩ = some v7 ∧ w'.cell? ⟨gc, 0, none⟩ = some t0 ∧ w'.cell? ⟨gc, 1, none⟩ = some t1 ∧ w'.cell? ⟨gc, 2, none⟩ = some t2 ∧ w'.cell? ⟨gc, 3, none⟩ = some t3 ∧ w'.cell? ⟨gc, 4, none⟩ = some t4 ∧ w'.cell? ⟨gc, 5, none⟩ = some t5 ∧ w'.cell? ⟨gc, 6, none⟩ = some t6 ∧ w'.cell? ⟨gc, 7, none⟩ = some t7 ∧ w'.cell? ⟨gl, 0, none⟩ = some (.int .i64 a.k) ∧ w'.cell? ⟨gl, 1, none⟩ = some (.int .i64 a.v) ∧ w'.cell? ⟨gl, 2, none⟩ = some (q0.vt) ∧ w'.cell? ⟨gl, 3, none⟩ = some (q0.vf) ∧ w'.cell? ⟨gl, 4, none⟩ = some (q0.vk) ∧ w'.cell? ⟨gl, 5, none⟩ = some (.int .i64 a.p) ∧ w'.cell? ⟨gl, 6, none⟩ = some (.int .i64 a.n) ∧ w'.cell? ⟨gl, 7, none⟩ = some (.int .i64 a.w) ∧ w'.cell? ⟨gl, 8, none⟩ = some (q0.vh) ∧ w'.cell? ⟨gl, 9, none⟩ = some (q0.vb) ∧ w'.cell? ⟨gl, 10, none⟩ = some (.int .i64 b.k) ∧ w'.cell? ⟨gl, 11, none⟩ = some (.int .i64 b.v) ∧ w'.cell? ⟨gl, 12, none⟩ = some (q1.vt) ∧ w'.cell? ⟨gl, 13, none⟩ = some (q1.vf) ∧ w'.cell? ⟨gl, 14, none⟩ = some (q1.vk) ∧ w'.cell? ⟨gl, 15, none⟩ = some (.int .i64 b.p) ∧ w'.cell? ⟨gl, 16, none⟩ = some (.int .i64 b.n) ∧ w'.cell? ⟨gl, 17, none⟩ = some (.int .i64 b.w) ∧ w'.cell? ⟨gl, 18, none⟩ = some (q1.vh) ∧ w'.cell? ⟨gl, 19, none⟩ = some (u) ∧ w'.cell? ⟨gl, 20, none⟩ = some (.int .i64 c.k) ∧ w'.cell? ⟨gl, 21, none⟩ = some (.int .i64 c.v) ∧ w'.cell? ⟨gl, 22, none⟩ = some (q2.vt) ∧ w'.cell? ⟨gl, 23, none⟩ = some (q2.vf) ∧ w'.cell? ⟨gl, 24, none⟩ = some (q2.vk) ∧ w'.cell? ⟨gl, 25, none⟩ = some (.int .i64 c.p) ∧ w'.cell? ⟨gl, 26, none⟩ = some (.int .i64 c.n) ∧ w'.cell? ⟨gl, 27, none⟩ = some (.int .i64 c.w) ∧ w'.cell? ⟨gl, 28, none⟩ = some (q2.vh) ∧ w'.cell? ⟨gl, 29, none⟩ = some (q2.vb) := by
  obtain ⟨x0, x1, x2, x3, x4, x5, x6, x7, x8, x9, x10, x11, x12, x13, x14, x15, x16, x17, x18, x19, x20, x21, x22, x23⟩ := keep24 hA hB hC (hX.trans (hb.mono hX.size))
  obtain ⟨y0, y1, y2, y3, y4, y5, y6, y7, y8, y9, y10, y11, y12, y13, y14, y15, y16, y17, y18, y19, y20, y21, y22, y23, y24, y25, y26, y27, y28, y29⟩ := pk3p (row_below hb h) ht j1 j2 j3 j4
  exact ⟨x0, x1, x2, x3, x4, x5, x6, x7, x8, x9, x10, x11, x12, x13, x14, x15, x16, x17, x18, x19, x20, x21, x22, x23, y0, y1, y2, y3, y4, y5, y6, y7, y8, y9, y10, y11, y12, y13, y14, y15, y16, y17, y18, y19, y20, y21, y22, y23, y24, y25, y26, y27, y28, y29⟩
set_option maxRecDepth 30000 in
set_option maxHeartbeats 40000000 in
theorem hjoin_walk {w : World} (a b c : Hv) (body : List Int) (x2 : Option Addr) (x2c : Nat) (x3 : Option Addr) (x3c : Nat) (x4 : Option Addr) (x4c : Nat) (y2 : Option Addr) (y2c : Nat) (y3 : Option Addr) (y3c : Nat) (y4 : Option Addr) (y4c : Nat) (z2 : Option Addr) (z2c : Nat) (z3 : Option Addr) (z3c : Nat) (z4 : Option Addr) (z4c : Nat) (q2 : Option Addr) (q2c : Nat)
    (ha : Hr w a (.slice x2 a.to.length x2c) (.slice x3 a.fr.length x3c) (.slice x4 a.tk.length x4c)) (hb : Hr w b (.slice y2 b.to.length y2c) (.slice y3 b.fr.length y3c) (.slice y4 b.tk.length y4c)) (hc : Hr w c (.slice z2 c.to.length z2c) (.slice z3 c.fr.length z3c) (.slice z4 c.tk.length z4c)) (hq : Rd w (.slice q2 body.length q2c) body) (ht : Tab w) (hw : 1 < w.heap.size) :
    Calls Tryd.prog 3 #[.agg #[.int .i64 a.k, .int .i64 a.v, .slice x2 a.to.length x2c, .slice x3 a.fr.length x3c, .slice x4 a.tk.length x4c, .int .i64 a.p, .int .i64 a.n, .int .i64 a.w, .int .i64 b.k, .int .i64 b.v, .slice y2 b.to.length y2c, .slice y3 b.fr.length y3c, .slice y4 b.tk.length y4c, .int .i64 b.p, .int .i64 b.n, .int .i64 b.w, .int .i64 c.k, .int .i64 c.v, .slice z2 c.to.length z2c, .slice z3 c.fr.length z3c, .slice z4 c.tk.length z4c, .int .i64 c.p, .int .i64 c.n, .int .i64 c.w, .slice q2 body.length q2c]] w fun e w' => e = .returned (.bool true) ∧ Below w.heap.size w w' := by
  go_enter Tryd.func3, Tryd.ntmps3
  go_wp2_with fail
  rename_i Q' K hK
  have tail : ∀ (X : World) (ga gb gc : Nat), Below w.heap.size w X → X.heap[ga]? = some (.cells #[.int .i64 a.k, .int .i64 a.v, .slice x2 a.to.length x2c, .slice x3 a.fr.length x3c, .slice x4 a.tk.length x4c, .int .i64 a.p, .int .i64 a.n, .int .i64 a.w] 24 (0, 0)) → X.heap[gb]? = some (.cells #[.int .i64 b.k, .int .i64 b.v, .slice y2 b.to.length y2c, .slice y3 b.fr.length y3c, .slice y4 b.tk.length y4c, .int .i64 b.p, .int .i64 b.n, .int .i64 b.w] 24 (0, 0)) → X.heap[gc]? = some (.cells #[.int .i64 c.k, .int .i64 c.v, .slice z2 c.to.length z2c, .slice z3 c.fr.length z3c, .slice z4 c.tk.length z4c, .int .i64 c.p, .int .i64 c.n, .int .i64 c.w] 24 (0, 0)) → Exit.then K Q' Exit.normal ⟨#[.agg #[.int .i64 a.k, .int .i64 a.v, .slice x2 a.to.length x2c, .slice x3 a.fr.length x3c, .slice x4 a.tk.length x4c, .int .i64 a.p, .int .i64 a.n, .int .i64 a.w, .int .i64 b.k, .int .i64 b.v, .slice y2 b.to.length y2c, .slice y3 b.fr.length y3c, .slice y4 b.tk.length y4c, .int .i64 b.p, .int .i64 b.n, .int .i64 b.w, .int .i64 c.k, .int .i64 c.v, .slice z2 c.to.length z2c, .slice z3 c.fr.length z3c, .slice z4 c.tk.length z4c, .int .i64 c.p, .int .i64 c.n, .int .i64 c.w, .slice q2 body.length q2c], .pointer (some ⟨w.heap.size, 0, none⟩), .bool false, .pointer (some ⟨ga, 0, none⟩), .pointer (some ⟨gb, 0, none⟩), .pointer (some ⟨gc, 0, none⟩), .slice q2 body.length q2c, undef, undef, undef, undef, undef, undef, .pointer (some ⟨w.heap.size, 0, none⟩), .agg #[.int .i64 a.k, .int .i64 a.v, .slice x2 a.to.length x2c, .slice x3 a.fr.length x3c, .slice x4 a.tk.length x4c, .int .i64 a.p, .int .i64 a.n, .int .i64 a.w], .pointer (some ⟨w.heap.size, 8, none⟩), .agg #[.int .i64 b.k, .int .i64 b.v, .slice y2 b.to.length y2c, .slice y3 b.fr.length y3c, .slice y4 b.tk.length y4c, .int .i64 b.p, .int .i64 b.n, .int .i64 b.w], .pointer (some ⟨w.heap.size, 16, none⟩), .agg #[.int .i64 c.k, .int .i64 c.v, .slice z2 c.to.length z2c, .slice z3 c.fr.length z3c, .slice z4 c.tk.length z4c, .int .i64 c.p, .int .i64 c.n, .int .i64 c.w], .pointer (some ⟨w.heap.size, 24, none⟩), .slice q2 body.length q2c, undef, undef, undef, undef, undef, undef, undef, undef, undef, undef, undef, undef, undef, undef, undef, undef, undef, undef, undef, undef, undef, undef, undef, undef, undef, undef, undef, undef, undef, undef, undef, undef, undef, undef, undef, undef, undef, undef, undef, undef, undef, undef, undef, undef, undef, undef, undef, undef, undef, undef, undef, undef, undef, undef, undef, undef, undef, undef, undef, undef, undef, undef, undef, undef, undef, undef, undef, undef, undef, undef, undef, undef, undef, undef, undef, undef, undef, undef, undef, undef, undef, undef, undef, undef, undef, undef, undef, undef, undef, undef, undef, undef, undef, undef, undef, undef, undef, undef, undef, undef, undef, undef, undef, undef, undef, undef, undef, undef, undef, undef, undef, undef, undef, undef, undef, undef, undef, undef, undef, undef, undef, undef, undef, undef, undef, undef, undef, undef, undef, undef, undef, undef, undef, undef, undef, undef, undef], []⟩ X := by
    intro X ga gb gc hbX hA hB hC
    have HX := Lib.hid (And.intro hbX (And.intro hA (And.intro hB hC)))
    have HH := Lib.hid (And.intro ha (And.intro hb (And.intro hc (And.intro hq (And.intro ht hw)))))
    have hLa := fun W => light_any W a x2 x2c x3 x3c x4 x4c ha.to.len ha.fr.len ha.tk.len
    have hLb := fun W => light_any W b y2 y2c y3 y3c y4 y4c hb.to.len hb.fr.len hb.tk.len
    have hLc := fun W => light_any W c z2 z2c z3 z3c z4 z4c hc.to.len hc.fr.len hc.tk.len
    obtain ⟨m0, m1, m2, m3, m4, m5, m6, m7⟩ := cells8 hA
    by_cases hall : lightB a = true ∧ lightB b = true ∧ lightB c = true ∧ body.length ≤ 300 ∧ a.k ≠ 3 ∧ b.k ≠ 3
    · obtain ⟨la, lb, lc, lq, ka, kb⟩ := hall
      rw [la] at hLa; rw [lb] at hLb; rw [lc] at hLc
      have dq : decide ((300 : Int) < (body.length : Int)) = false := decide_eq_false (by omega)
      have ea : (a.k == 3) = false := beq_eq_false_iff_ne.2 ka
      have eb : (b.k == 3) = false := beq_eq_false_iff_ne.2 kb
      have HK := Lib.hid (And.intro (light_len la) (And.intro (light_len lb) (And.intro (light_len lc) (And.intro lq (And.intro ka kb)))))
      clear la lb lc lq ka kb ha hb hc hq ht hw hbX hA hB hC
      go_wp2_with fail
      refine (hLa X).mono ?_
      rintro e w1 ⟨rfl, hb1⟩
      obtain ⟨n0, n1, n2, n3, n4, n5, n6, n7⟩ := cells8 (row_below hb1 HX.out.2.2.1)
      have HB1 := Lib.hid hb1
      clear m0 m1 m2 m3 m4 m5 m6 m7 hb1 hLa
      go_wp2_with fail
      refine (hLb w1).mono ?_
      rintro e w2 ⟨rfl, hb2⟩
      have HB2 := Lib.hid (HB1.out.trans (hb2.mono HB1.out.size))
      clear n0 n1 n2 n3 n4 n5 n6 n7 hb2 hLb
      obtain ⟨n0, n1, n2, n3, n4, n5, n6, n7⟩ := cells8 (row_below HB2.out HX.out.2.2.2)
      go_wp2_with fail
      refine (hLc w2).mono ?_
      rintro e w3 ⟨rfl, hb3⟩
      have HB3 := Lib.hid (HB2.out.trans (hb3.mono HB2.out.size))
      clear n0 n1 n2 n3 n4 n5 n6 n7 hb3 hLc
      obtain ⟨n0, n1, n2, n3, n4, n5, n6, n7⟩ := cells8 (row_below HB3.out HX.out.2.1)
      obtain ⟨o0, o1, o2, o3, o4, o5, o6, o7⟩ := cells8 (row_below HB3.out HX.out.2.2.1)
      go_wp2_with fail
      have hbD : Below X.heap.size X w3.drew := HB3.out.drew
      have HWX := Lib.hid HX.out.1
      clear n0 n1 n2 n3 n4 n5 n6 n7 o0 o1 o2 o3 o4 o5 o6 o7
      go_region_held3 (fun w' => w'.cell? ⟨ga, 0, none⟩ = some (.int .i64 a.k) ∧ w'.cell? ⟨ga, 1, none⟩ = some (.int .i64 a.v) ∧ w'.cell? ⟨ga, 2, none⟩ = some (.slice x2 a.to.length x2c) ∧ w'.cell? ⟨ga, 3, none⟩ = some (.slice x3 a.fr.length x3c) ∧ w'.cell? ⟨ga, 4, none⟩ = some (.slice x4 a.tk.length x4c) ∧ w'.cell? ⟨ga, 5, none⟩ = some (.int .i64 a.p) ∧ w'.cell? ⟨ga, 6, none⟩ = some (.int .i64 a.n) ∧ w'.cell? ⟨ga, 7, none⟩ = some (.int .i64 a.w) ∧ w'.cell? ⟨gb, 0, none⟩ = some (.int .i64 b.k) ∧ w'.cell? ⟨gb, 1, none⟩ = some (.int .i64 b.v) ∧ w'.cell? ⟨gb, 2, none⟩ = some (.slice y2 b.to.length y2c) ∧ w'.cell? ⟨gb, 3, none⟩ = some (.slice y3 b.fr.length y3c) ∧ w'.cell? ⟨gb, 4, none⟩ = some (.slice y4 b.tk.length y4c) ∧ w'.cell? ⟨gb, 5, none⟩ = some (.int .i64 b.p) ∧ w'.cell? ⟨gb, 6, none⟩ = some (.int .i64 b.n) ∧ w'.cell? ⟨gb, 7, none⟩ = some (.int .i64 b.w) ∧ w'.cell? ⟨gc, 0, none⟩ = some (.int .i64 c.k) ∧ w'.cell? ⟨gc, 1, none⟩ = some (.int .i64 c.v) ∧ w'.cell? ⟨gc, 2, none⟩ = some (.slice z2 c.to.length z2c) ∧ w'.cell? ⟨gc, 3, none⟩ = some (.slice z3 c.fr.length z3c) ∧ w'.cell? ⟨gc, 4, none⟩ = some (.slice z4 c.tk.length z4c) ∧ w'.cell? ⟨gc, 5, none⟩ = some (.int .i64 c.p) ∧ w'.cell? ⟨gc, 6, none⟩ = some (.int .i64 c.n) ∧ w'.cell? ⟨gc, 7, none⟩ = some (.int .i64 c.w)) (with_reducible exact keep24 HX.out.2.1 HX.out.2.2.1 HX.out.2.2.2 (by assumption))
          (first
            | (go_at_call 5; have ct := wrx_any w8 c (body.length : Int) k2 k2c k3 k3c k4 k4c Rk.out (by have := HK.out; omega) (by have := HK.out; omega) (by have := HK.out; omega) ⟨by omega, by have := HK.out; omega⟩ (HH.out.2.2.2.2.1.below (HWX.out.trans (hb5.mono HWX.out.size))) (by have := HH.out.2.2.2.2.2; have := HWX.out.size; have := hb5.size; omega); refine ct.mono ?_; rintro e w9 ⟨vzv, rfl, o, hb⟩; obtain ⟨vza, vzk, rfl, _, _⟩ := own_shape o; have Ovz := Lib.hid o; have hb6 := hb5.trans (hb.mono hb5.size); have Bw9 := Lib.hid hb; clear ct o hb)
            | (go_at_call 6; have ct := of_any c (HH.out.2.2.1.below (HWX.out.trans (hb4.mono HWX.out.size))) (by have := HK.out; omega) (by have := HK.out; omega) (by have := HK.out; omega); refine ct.mono ?_; rintro e w8 ⟨ut, uf, uk, rfl, r, hb⟩; obtain ⟨k2, k2c, rfl⟩ := Rd.shape r.to; obtain ⟨k3, k3c, rfl⟩ := Rd.shape r.fr; obtain ⟨k4, k4c, rfl⟩ := Rd.shape r.tk; unfold hcells; have Rk := Lib.hid r; have hb5 := hb4.trans (hb.mono hb4.size); have Bw8 := Lib.hid hb; clear ct r hb)
            | (go_at_call 5; have ct := wrx_any w6 b 0 j2 j2c j3 j3c j4 j4c Rj.out (by have := HK.out; omega) (by have := HK.out; omega) (by have := HK.out; omega) ⟨by omega, by have := HK.out; omega⟩ (HH.out.2.2.2.2.1.below (HWX.out.trans (hb3.mono HWX.out.size))) (by have := HH.out.2.2.2.2.2; have := HWX.out.size; have := hb3.size; omega); refine ct.mono ?_; rintro e w7 ⟨vyv, rfl, o, hb⟩; obtain ⟨vya, vyk, rfl, _, _⟩ := own_shape o; have Ovy := Lib.hid o; have hb4 := hb3.trans (hb.mono hb3.size); have Bw7 := Lib.hid hb; clear ct o hb)
            | (go_at_call 6; have ct := of_any b (HH.out.2.1.below (HWX.out.trans (hb2.mono HWX.out.size))) (by have := HK.out; omega) (by have := HK.out; omega) (by have := HK.out; omega); refine ct.mono ?_; rintro e w6 ⟨ut, uf, uk, rfl, r, hb⟩; obtain ⟨j2, j2c, rfl⟩ := Rd.shape r.to; obtain ⟨j3, j3c, rfl⟩ := Rd.shape r.fr; obtain ⟨j4, j4c, rfl⟩ := Rd.shape r.tk; unfold hcells; have Rj := Lib.hid r; have hb3 := hb2.trans (hb.mono hb2.size); have Bw6 := Lib.hid hb; clear ct r hb)
            | (go_at_call 5; have ct := wrx_any w4 a (body.length : Int) i2 i2c i3 i3c i4 i4c Ri.out (by have := HK.out; omega) (by have := HK.out; omega) (by have := HK.out; omega) ⟨by omega, by have := HK.out; omega⟩ (HH.out.2.2.2.2.1.below (HWX.out.trans (hb1.mono HWX.out.size))) (by have := HH.out.2.2.2.2.2; have := HWX.out.size; have := hb1.size; omega); refine ct.mono ?_; rintro e w5 ⟨vxv, rfl, o, hb⟩; obtain ⟨vxa, vxk, rfl, _, _⟩ := own_shape o; have Ovx := Lib.hid o; have hb2 := hb1.trans (hb.mono hb1.size); have Bw5 := Lib.hid hb; clear ct o hb)
            | (go_at_call 6; have ct := of_any a (HH.out.1.below (HWX.out.trans (hbD.mono HWX.out.size))) (by have := HK.out; omega) (by have := HK.out; omega) (by have := HK.out; omega); refine ct.mono ?_; rintro e w4 ⟨ut, uf, uk, rfl, r, hb⟩; obtain ⟨i2, i2c, rfl⟩ := Rd.shape r.to; obtain ⟨i3, i3c, rfl⟩ := Rd.shape r.fr; obtain ⟨i4, i4c, rfl⟩ := Rd.shape r.tk; unfold hcells; have Ri := Lib.hid r; have hb1 := hbD.trans (hb.mono hbD.size); have Bw4 := Lib.hid hb; clear ct r hb))
      have hX9 := hb6
      have HW9 := Lib.hid (And.intro (HWX.out.trans (hb6.mono HWX.out.size)) hb6)
      have b59 : Below w5.heap.size w5 w9 := ((Bw6.out.trans (Bw7.out.mono Bw6.out.size)).trans (Bw8.out.mono (Nat.le_trans Bw6.out.size Bw7.out.size))).trans (Bw9.out.mono (Nat.le_trans (Nat.le_trans Bw6.out.size Bw7.out.size) Bw8.out.size))
      have b79 : Below w7.heap.size w7 w9 := Bw8.out.trans (Bw9.out.mono Bw8.out.size)
      have o1 := own_below Ovx.out b59
      have o2 := own_below Ovy.out b79
      have o3 := Ovz.out
      have HPX : Hid ((wrX a body.length = [] ∨ rightB a = true ∧ wrX a body.length = wrB a body.length) ∧ (wrX b 0 = [] ∨ rightB b = true ∧ wrX b 0 = wrB b 0) ∧ (wrX c body.length = [] ∨ rightB c = true ∧ wrX c body.length = wrB c body.length)) := Lib.hid (by
        unfold wrX
        refine ⟨?_, ?_, ?_⟩
        · cases rightB a <;> simp
        · cases rightB b <;> simp
        · cases rightB c <;> simp)
      have HOO := Lib.hid (And.intro o1 (And.intro o2 o3))
      clear hX9 hb1 hb2 hb3 hb4 hb5 hb6 hbD b59 b79 o1 o2 o3 Ovx Ovy Ovz Bw4 Bw5 Bw6 Bw7 Bw8 Bw9 Ri Rj Rk HB1 HB2 HB3
      generalize wrX a body.length = p at *
      generalize wrX b 0 = q at *
      generalize wrX c body.length = r at *
      have awk := hawake_any w9
      by_cases hnone : p = [] ∨ q = [] ∨ r = []
      · have e1 : ((p.length : Int) == 0) = decide (p = []) := by cases p <;> simp <;> omega
        have e2 : ((q.length : Int) == 0) = decide (q = []) := by cases q <;> simp <;> omega
        have e3 : ((r.length : Int) == 0) = decide (r = []) := by cases r <;> simp <;> omega
        by_cases f1 : p = []
        · rw [decide_eq_true f1] at e1
          clear e2 e3 hnone f1
          go_wp2_with fail
          refine awk.mono ?_
          rintro e w10 ⟨rfl, hb10⟩
          go_wp2_with fail
          go_ret
          exact ⟨rfl, HW9.out.1.trans (hb10.mono HW9.out.1.size)⟩
        · rw [decide_eq_false f1] at e1
          by_cases f2 : q = []
          · rw [decide_eq_true f2] at e2
            clear e3 hnone f1 f2
            go_wp2_with fail
            refine awk.mono ?_
            rintro e w10 ⟨rfl, hb10⟩
            go_wp2_with fail
            go_ret
            exact ⟨rfl, HW9.out.1.trans (hb10.mono HW9.out.1.size)⟩
          · rw [decide_eq_false f2] at e2
            have f3 : r = [] := by
              rcases hnone with h | h | h
              · exact absurd h f1
              · exact absurd h f2
              · exact h
            rw [decide_eq_true f3] at e3
            clear hnone f1 f2 f3
            go_wp2_with fail
            refine awk.mono ?_
            rintro e w10 ⟨rfl, hb10⟩
            go_wp2_with fail
            go_ret
            exact ⟨rfl, HW9.out.1.trans (hb10.mono HW9.out.1.size)⟩
      · have f1 : p ≠ [] := fun h => hnone (.inl h)
        have f2 : q ≠ [] := fun h => hnone (.inr (.inl h))
        have f3 : r ≠ [] := fun h => hnone (.inr (.inr h))
        have e1 : ((p.length : Int) == 0) = false := by rw [beq_eq_false_iff_ne]; intro h; exact f1 (List.eq_nil_of_length_eq_zero (by omega))
        have e2 : ((q.length : Int) == 0) = false := by rw [beq_eq_false_iff_ne]; intro h; exact f2 (List.eq_nil_of_length_eq_zero (by omega))
        have e3 : ((r.length : Int) == 0) = false := by rw [beq_eq_false_iff_ne]; intro h; exact f3 (List.eq_nil_of_length_eq_zero (by omega))
        obtain ⟨ra, pa⟩ := HPX.out.1.resolve_left f1
        obtain ⟨rb, pb⟩ := HPX.out.2.1.resolve_left f2
        obtain ⟨rc, pc⟩ := HPX.out.2.2.resolve_left f3
        have lp : p.length ≤ 5000 := by rw [pa]; have := HK.out; exact wrB_le ra (by omega) (by omega) (by omega)
        have lq : q.length ≤ 5000 := by rw [pb]; have := HK.out; exact wrB_le rb (by omega) (by omega) (by omega)
        have lr : r.length ≤ 5000 := by rw [pc]; have := HK.out; exact wrB_le rc (by omega) (by omega) (by omega)
        have lbd : body.length ≤ 300 := HK.out.2.2.2.1
        have yp : Byt p := by rw [pa]; exact wrB_byt HH.out.1 ra
        have yq : Byt q := by rw [pb]; exact wrB_byt HH.out.2.1 rb
        have yr : Byt r := by rw [pc]; exact wrB_byt HH.out.2.2.1 rc
        have yb := HH.out.2.2.2.1.byt
        have R1 := Lib.hid (And.intro (Rd.of_own HOO.out.1 yp).1 (And.intro (Rd.of_own HOO.out.2.1 yq).1 (And.intro (Rd.of_own HOO.out.2.2 yr).1 (HH.out.2.2.2.1.below HW9.out.1))))
        have HY := Lib.hid (And.intro yp (And.intro yq (And.intro yr yb)))
        have HPP := Lib.hid (And.intro (And.intro ra pa) (And.intro (And.intro rb pb) (And.intro rc pc)))
        have lp0 : 0 < p.length := List.length_pos_iff.2 f1
        clear hnone f1 f2 f3 ra pa rb pb rc pc yp yq yr yb
        have g0 := below_alloc w9 (.cells #[] 5)
        have hO := own_fresh w9 5
        go_wp2_with (first
          | (at_builtin; refine wpList_append_bytes (.tmp 76) (.tmp 77) 22 rfl rfl info5 Tryd.underlying22 w9.heap.size _ 0 [] rfl hO _ p rfl (R1.out.1.below g0) (by omega) g0.size ?_; intro v1 k1 o1 h1; simp only [List.nil_append, Nat.zero_add] at o1; have g1 : Below w9.heap.size w9 k1 := g0.trans h1; obtain ⟨da1, dk1, rfl, _, _⟩ := own_shape o1; clear h1)
          | (at_builtin; refine wpList_append_bytes (.tmp 78) (.tmp 79) 22 rfl rfl info5 Tryd.underlying22 w9.heap.size _ p.length p rfl o1 _ body rfl (R1.out.2.2.2.below g1) (by omega) g1.size ?_; intro v2 k2 o2 h2; have g2 : Below w9.heap.size w9 k2 := g1.trans h2; obtain ⟨da2, dk2, rfl, _, _⟩ := own_shape o2; clear h2)
          | (at_builtin; refine wpList_append_bytes (.tmp 80) (.tmp 81) 22 rfl rfl info5 Tryd.underlying22 w9.heap.size _ (p.length + body.length) (p ++ body) rfl o2 _ q rfl (R1.out.2.1.below g2) (by omega) g2.size ?_; intro v3 k3 o3 h3; have g3 : Below w9.heap.size w9 k3 := g2.trans h3; obtain ⟨da3, dk3, rfl, _, _⟩ := own_shape o3; clear h3)
          | (at_builtin; refine wpList_append_bytes (.tmp 82) (.tmp 83) 22 rfl rfl info5 Tryd.underlying22 w9.heap.size _ (p.length + body.length + q.length) (p ++ body ++ q) rfl o3 _ r rfl (R1.out.2.2.1.below g3) (by omega) g3.size ?_; intro v4 k4 o4 h4; have g4 : Below w9.heap.size w9 k4 := g3.trans h4; obtain ⟨da4, dk4, rfl, _, _⟩ := own_shape o4; clear h4)
          | (at_builtin; refine wpList_append_bytes (.tmp 86) (.tmp 87) 22 rfl rfl info5 Tryd.underlying22 w9.heap.size _ (p.length + body.length + q.length + r.length) (p ++ body ++ q ++ r) rfl o4 _ body rfl (R1.out.2.2.2.below g4) (by omega) g4.size ?_; intro v5 k5 o5 h5; have g5 : Below w9.heap.size w9 k5 := g4.trans h5; obtain ⟨da5, dk5, rfl, _, _⟩ := own_shape o5; clear h5))
        have HYB : Byt (p ++ body ++ q ++ r ++ body) := (((HY.out.1.app HY.out.2.2.2).app HY.out.2.1).app HY.out.2.2.1).app HY.out.2.2.2
        have hrd := (Rd.of_own o5 HYB).1
        obtain ⟨gd, rfl⟩ : ∃ g, da5 = some ⟨g, 0, none⟩ := by
          rcases o5.2 with ⟨_, h0⟩ | ⟨g, cap, cur, hv, _⟩
          · omega
          · simp only [Value.slice.injEq] at hv
            exact ⟨g, hv.1⟩
        have hS := joinS HPP.out.1 HPP.out.2.1 HPP.out.2.2 HK.out.2.2.2.2.1 HK.out.2.2.2.2.2 (by omega) HYB
        have csp := split_any hrd (.inr ⟨_, _, _, _, rfl⟩) (by simp only [List.length_append]; omega)
        rw [hS] at csp
        have G5 := Lib.hid g5
        clear hS hrd HYB o1 o2 o3 o4 o5 g0 g1 g2 g3 g4 g5 hO lp lq lr lp0
        refine csp.mono ?_
        rintro e k6 ⟨lv, qs, rfl, lo, hpr, hmp, hb6⟩
        clear csp
        obtain ⟨q0, q1, q2, rfl, m1, m2, m3⟩ := three_pk hmp
        clear hmp
        simp only [Pk.plain, Prod.mk.injEq] at m1 m2 m3
        obtain ⟨j1, j2, j3⟩ := m1
        obtain ⟨j4, j5, j6⟩ := m2
        obtain ⟨j7, j8, j9⟩ := m3
        have r0 := hpr q0 (by simp)
        have r1 := hpr q1 (by simp)
        have r2 := hpr q2 (by simp)
        obtain ⟨bo, bk, e6⟩ := Rd.shape r1.bd.rd
        rw [j6] at e6
        have u0 : Hr k6 a q0.vt q0.vf q0.vk := by have := r0.hr.hr; rw [j1] at this; exact this
        have u1 : Hr k6 b q1.vt q1.vf q1.vk := by have := r1.hr.hr; rw [j4] at this; exact this
        have u2 : Hr k6 c q2.vt q2.vf q2.vk := by have := r2.hr.hr; rw [j7] at this; exact this
        have u3 : Rd k6 q0.vb body := by have := r0.bd.rd; rw [j3] at this; exact this
        have u4 : Rd k6 q2.vb body := by have := r2.bd.rd; rw [j9] at this; exact this
        have u5 : Rd k6 q1.vh q := by have := r1.hd.rd; rw [j5] at this; exact this
        have HU := Lib.hid (And.intro u0 (And.intro u1 (And.intro u2 (And.intro u3 (And.intro u4 u5)))))
        have HJ := Lib.hid (And.intro j1 (And.intro j4 (And.intro j7 e6)))
        obtain ⟨gl, capl, curl, rfl, hl1, hl2, hl3⟩ : ∃ g cap cur, lv = .slice (some ⟨g, 0, none⟩) 3 cap ∧ 3 ≤ cap ∧ cap ≤ 9223372036854775807 ∧ (k6.heap[g]? = some (.cells cur 38 (0, 0)) ∧ cur.toList.take 30 = pkcells [q0, q1, q2]) := by
          rcases lo.2 with ⟨_, hz⟩ | ⟨g, cap, cur, hv, _, hh, q1, q2, q3, q4⟩
          · simp at hz
          · unfold maxLen at q2
            exact ⟨g, cap, cur, hv, by simpa using q1, by omega, hh, q4⟩
        have HPKT := Lib.hid hl3
        have B6 := Lib.hid (G5.out.trans (hb6.mono G5.out.size))
        have XB6 := Lib.hid (HW9.out.2.trans (B6.out.mono HW9.out.2.size))
        have KK := Lib.hid (Below.refl k6.heap.size k6)
        clear lo hpr j1 j2 j3 j4 j5 j6 j7 j8 j9 r0 r1 r2 u0 u1 u2 u3 u4 u5 e6 hl3 hb6
        have hbZ0 : Below k6.heap.size k6 k6.drew := (Below.refl _ _).drew
        have WK6 := Lib.hid (HWX.out.trans (XB6.out.mono HWX.out.size))
        go_wp2_with fail
        dsimp only [List.append]
        go_region_held3 (fun w' => w'.cell? ⟨ga, 0, none⟩ = some (.int .i64 a.k) ∧ w'.cell? ⟨ga, 1, none⟩ = some (.int .i64 a.v) ∧ w'.cell? ⟨ga, 2, none⟩ = some (.slice x2 a.to.length x2c) ∧ w'.cell? ⟨ga, 3, none⟩ = some (.slice x3 a.fr.length x3c) ∧ w'.cell? ⟨ga, 4, none⟩ = some (.slice x4 a.tk.length x4c) ∧ w'.cell? ⟨ga, 5, none⟩ = some (.int .i64 a.p) ∧ w'.cell? ⟨ga, 6, none⟩ = some (.int .i64 a.n) ∧ w'.cell? ⟨ga, 7, none⟩ = some (.int .i64 a.w) ∧ w'.cell? ⟨gb, 0, none⟩ = some (.int .i64 b.k) ∧ w'.cell? ⟨gb, 1, none⟩ = some (.int .i64 b.v) ∧ w'.cell? ⟨gb, 2, none⟩ = some (.slice y2 b.to.length y2c) ∧ w'.cell? ⟨gb, 3, none⟩ = some (.slice y3 b.fr.length y3c) ∧ w'.cell? ⟨gb, 4, none⟩ = some (.slice y4 b.tk.length y4c) ∧ w'.cell? ⟨gb, 5, none⟩ = some (.int .i64 b.p) ∧ w'.cell? ⟨gb, 6, none⟩ = some (.int .i64 b.n) ∧ w'.cell? ⟨gb, 7, none⟩ = some (.int .i64 b.w) ∧ w'.cell? ⟨gc, 0, none⟩ = some (.int .i64 c.k) ∧ w'.cell? ⟨gc, 1, none⟩ = some (.int .i64 c.v) ∧ w'.cell? ⟨gc, 2, none⟩ = some (.slice z2 c.to.length z2c) ∧ w'.cell? ⟨gc, 3, none⟩ = some (.slice z3 c.fr.length z3c) ∧ w'.cell? ⟨gc, 4, none⟩ = some (.slice z4 c.tk.length z4c) ∧ w'.cell? ⟨gc, 5, none⟩ = some (.int .i64 c.p) ∧ w'.cell? ⟨gc, 6, none⟩ = some (.int .i64 c.n) ∧ w'.cell? ⟨gc, 7, none⟩ = some (.int .i64 c.w) ∧ w'.cell? ⟨gl, 0, none⟩ = some (.int .i64 a.k) ∧ w'.cell? ⟨gl, 1, none⟩ = some (.int .i64 a.v) ∧ w'.cell? ⟨gl, 2, none⟩ = some (q0.vt) ∧ w'.cell? ⟨gl, 3, none⟩ = some (q0.vf) ∧ w'.cell? ⟨gl, 4, none⟩ = some (q0.vk) ∧ w'.cell? ⟨gl, 5, none⟩ = some (.int .i64 a.p) ∧ w'.cell? ⟨gl, 6, none⟩ = some (.int .i64 a.n) ∧ w'.cell? ⟨gl, 7, none⟩ = some (.int .i64 a.w) ∧ w'.cell? ⟨gl, 8, none⟩ = some (q0.vh) ∧ w'.cell? ⟨gl, 9, none⟩ = some (q0.vb) ∧ w'.cell? ⟨gl, 10, none⟩ = some (.int .i64 b.k) ∧ w'.cell? ⟨gl, 11, none⟩ = some (.int .i64 b.v) ∧ w'.cell? ⟨gl, 12, none⟩ = some (q1.vt) ∧ w'.cell? ⟨gl, 13, none⟩ = some (q1.vf) ∧ w'.cell? ⟨gl, 14, none⟩ = some (q1.vk) ∧ w'.cell? ⟨gl, 15, none⟩ = some (.int .i64 b.p) ∧ w'.cell? ⟨gl, 16, none⟩ = some (.int .i64 b.n) ∧ w'.cell? ⟨gl, 17, none⟩ = some (.int .i64 b.w) ∧ w'.cell? ⟨gl, 18, none⟩ = some (q1.vh) ∧ w'.cell? ⟨gl, 19, none⟩ = some (.slice bo ([] : List Int).length bk) ∧ w'.cell? ⟨gl, 20, none⟩ = some (.int .i64 c.k) ∧ w'.cell? ⟨gl, 21, none⟩ = some (.int .i64 c.v) ∧ w'.cell? ⟨gl, 22, none⟩ = some (q2.vt) ∧ w'.cell? ⟨gl, 23, none⟩ = some (q2.vf) ∧ w'.cell? ⟨gl, 24, none⟩ = some (q2.vk) ∧ w'.cell? ⟨gl, 25, none⟩ = some (.int .i64 c.p) ∧ w'.cell? ⟨gl, 26, none⟩ = some (.int .i64 c.n) ∧ w'.cell? ⟨gl, 27, none⟩ = some (.int .i64 c.w) ∧ w'.cell? ⟨gl, 28, none⟩ = some (q2.vh) ∧ w'.cell? ⟨gl, 29, none⟩ = some (q2.vb)) (with_reducible exact keepZ HX.out.2.1 HX.out.2.2.1 HX.out.2.2.2 XB6.out HPKT.out.1 HPKT.out.2 HJ.out.1 HJ.out.2.1 HJ.out.2.2.1 HJ.out.2.2.2 (by assumption))
          (first
            | (go_at_call 7; have ct := fun W => hawake_any W; have hz6 := hbZ6; refine (ct _).mono ?_; rintro e kx ⟨rfl, hk⟩; have hbZ7 := hbZ6.trans (hk.mono hbZ6.size); clear ct hk)
            | (go_at_call 10; have ct := same_true (HU.out.2.2.2.2.2.below hbZ5) ((R1.out.2.1.below B6.out).below hbZ5); refine ct.mono ?_; rintro e kx ⟨rfl, hk⟩; have hbZ6 := hbZ5.trans (hk.mono hbZ5.size); clear ct hk)
            | (go_at_call 10; have ct := same_true (HU.out.2.2.2.2.1.below hbZ4) (HH.out.2.2.2.1.below (WK6.out.trans (hbZ4.mono WK6.out.size))); refine ct.mono ?_; rintro e kx ⟨rfl, hk⟩; have hbZ5 := hbZ4.trans (hk.mono hbZ4.size); clear ct hk)
            | (go_at_call 10; have ct := same_true (HU.out.2.2.2.1.below hbZ3) (HH.out.2.2.2.1.below (WK6.out.trans (hbZ3.mono WK6.out.size))); refine ct.mono ?_; rintro e kx ⟨rfl, hk⟩; have hbZ4 := hbZ3.trans (hk.mono hbZ3.size); clear ct hk)
            | (go_at_call 9; have ct := told_true c (HU.out.2.2.1.below hbZ2) (HH.out.2.2.1.below (WK6.out.trans (hbZ2.mono WK6.out.size))); refine ct.mono ?_; rintro e kx ⟨rfl, hk⟩; have hbZ3 := hbZ2.trans (hk.mono hbZ2.size); clear ct hk)
            | (go_at_call 9; have ct := told_true b (HU.out.2.1.below hbZ1) (HH.out.2.1.below (WK6.out.trans (hbZ1.mono WK6.out.size))); refine ct.mono ?_; rintro e kx ⟨rfl, hk⟩; have hbZ2 := hbZ1.trans (hk.mono hbZ1.size); clear ct hk)
            | (go_at_call 9; have ct := told_true a (HU.out.1.below hbZ0) (HH.out.1.below (WK6.out.trans (hbZ0.mono WK6.out.size))); refine ct.mono ?_; rintro e kx ⟨rfl, hk⟩; have hbZ1 := hbZ0.trans (hk.mono hbZ0.size); clear ct hk))
        all_goals
          have HE := Lib.hid (WK6.out.trans (hbZ7.mono WK6.out.size))
          go_wp2_with fail
          go_ret
          exact ⟨rfl, HE.out⟩
    · have HH := True.intro
      clear ha hb hc hq ht hw hbX hA hB hC
      cases la : lightB a with
      | false =>
        rw [la] at hLa
        clear hall la
        go_wp2_with fail
        refine (hLa X).mono ?_
        rintro e w1 ⟨rfl, hb1⟩
        have HB1 := Lib.hid hb1
        clear hb1
        clear m0 m1 m2 m3 m4 m5 m6 m7
        obtain ⟨n0, n1, n2, n3, n4, n5, n6, n7⟩ := cells8 (row_below HB1.out HX.out.2.2.1)
        go_wp2_with fail
        go_ret
        exact ⟨rfl, HX.out.1.trans (HB1.out.mono HX.out.1.size)⟩
      | true =>
        rw [la] at hLa
        cases lb : lightB b with
        | false =>
          rw [lb] at hLb
          clear hall la lb
          go_wp2_with fail
          refine (hLa X).mono ?_
          rintro e w1 ⟨rfl, hb1⟩
          have HB1 := Lib.hid hb1
          clear hb1
          clear m0 m1 m2 m3 m4 m5 m6 m7
          obtain ⟨n0, n1, n2, n3, n4, n5, n6, n7⟩ := cells8 (row_below HB1.out HX.out.2.2.1)
          go_wp2_with fail
          refine (hLb w1).mono ?_
          rintro e w2 ⟨rfl, hb2⟩
          have HB2 := Lib.hid (HB1.out.trans (hb2.mono HB1.out.size))
          clear hb2
          clear n0 n1 n2 n3 n4 n5 n6 n7
          obtain ⟨n0, n1, n2, n3, n4, n5, n6, n7⟩ := cells8 (row_below HB2.out HX.out.2.2.2)
          go_wp2_with fail
          go_ret
          exact ⟨rfl, HX.out.1.trans (HB2.out.mono HX.out.1.size)⟩
        | true =>
          rw [lb] at hLb
          cases lc : lightB c with
          | false =>
            rw [lc] at hLc
            clear hall la lb lc
            go_wp2_with fail
            refine (hLa X).mono ?_
            rintro e w1 ⟨rfl, hb1⟩
            have HB1 := Lib.hid hb1
            clear hb1
            clear m0 m1 m2 m3 m4 m5 m6 m7
            obtain ⟨n0, n1, n2, n3, n4, n5, n6, n7⟩ := cells8 (row_below HB1.out HX.out.2.2.1)
            go_wp2_with fail
            refine (hLb w1).mono ?_
            rintro e w2 ⟨rfl, hb2⟩
            have HB2 := Lib.hid (HB1.out.trans (hb2.mono HB1.out.size))
            clear hb2
            clear n0 n1 n2 n3 n4 n5 n6 n7
            obtain ⟨n0, n1, n2, n3, n4, n5, n6, n7⟩ := cells8 (row_below HB2.out HX.out.2.2.2)
            go_wp2_with fail
            refine (hLc w2).mono ?_
            rintro e w3 ⟨rfl, hb3⟩
            have HB3 := Lib.hid (HB2.out.trans (hb3.mono HB2.out.size))
            clear hb3
            clear n0 n1 n2 n3 n4 n5 n6 n7
            obtain ⟨n0, n1, n2, n3, n4, n5, n6, n7⟩ := cells8 (row_below HB3.out HX.out.2.1)
            obtain ⟨o0, o1, o2, o3, o4, o5, o6, o7⟩ := cells8 (row_below HB3.out HX.out.2.2.1)
            go_wp2_with fail
            go_ret
            exact ⟨rfl, HX.out.1.trans (HB3.out.mono HX.out.1.size)⟩
          | true =>
            rw [lc] at hLc
            by_cases lq : body.length ≤ 300
            · have dq : decide ((300 : Int) < (body.length : Int)) = false := decide_eq_false (by omega)
              by_cases ka : a.k = 3
              · have ea : (a.k == 3) = true := beq_iff_eq.2 ka
                clear hall la lb lc lq ka
                go_wp2_with fail
                refine (hLa X).mono ?_
                rintro e w1 ⟨rfl, hb1⟩
                have HB1 := Lib.hid hb1
                clear hb1
                clear m0 m1 m2 m3 m4 m5 m6 m7
                obtain ⟨n0, n1, n2, n3, n4, n5, n6, n7⟩ := cells8 (row_below HB1.out HX.out.2.2.1)
                go_wp2_with fail
                refine (hLb w1).mono ?_
                rintro e w2 ⟨rfl, hb2⟩
                have HB2 := Lib.hid (HB1.out.trans (hb2.mono HB1.out.size))
                clear hb2
                clear n0 n1 n2 n3 n4 n5 n6 n7
                obtain ⟨n0, n1, n2, n3, n4, n5, n6, n7⟩ := cells8 (row_below HB2.out HX.out.2.2.2)
                go_wp2_with fail
                refine (hLc w2).mono ?_
                rintro e w3 ⟨rfl, hb3⟩
                have HB3 := Lib.hid (HB2.out.trans (hb3.mono HB2.out.size))
                clear hb3
                clear n0 n1 n2 n3 n4 n5 n6 n7
                obtain ⟨n0, n1, n2, n3, n4, n5, n6, n7⟩ := cells8 (row_below HB3.out HX.out.2.1)
                obtain ⟨o0, o1, o2, o3, o4, o5, o6, o7⟩ := cells8 (row_below HB3.out HX.out.2.2.1)
                go_wp2_with fail
                go_ret
                exact ⟨rfl, HX.out.1.trans (HB3.out.mono HX.out.1.size)⟩
              · have ea : (a.k == 3) = false := beq_eq_false_iff_ne.2 ka
                have kb : b.k = 3 := Decidable.byContradiction fun kb => hall ⟨la, lb, lc, lq, ka, kb⟩
                have eb : (b.k == 3) = true := beq_iff_eq.2 kb
                clear hall la lb lc lq ka kb
                go_wp2_with fail
                refine (hLa X).mono ?_
                rintro e w1 ⟨rfl, hb1⟩
                have HB1 := Lib.hid hb1
                clear hb1
                clear m0 m1 m2 m3 m4 m5 m6 m7
                obtain ⟨n0, n1, n2, n3, n4, n5, n6, n7⟩ := cells8 (row_below HB1.out HX.out.2.2.1)
                go_wp2_with fail
                refine (hLb w1).mono ?_
                rintro e w2 ⟨rfl, hb2⟩
                have HB2 := Lib.hid (HB1.out.trans (hb2.mono HB1.out.size))
                clear hb2
                clear n0 n1 n2 n3 n4 n5 n6 n7
                obtain ⟨n0, n1, n2, n3, n4, n5, n6, n7⟩ := cells8 (row_below HB2.out HX.out.2.2.2)
                go_wp2_with fail
                refine (hLc w2).mono ?_
                rintro e w3 ⟨rfl, hb3⟩
                have HB3 := Lib.hid (HB2.out.trans (hb3.mono HB2.out.size))
                clear hb3
                clear n0 n1 n2 n3 n4 n5 n6 n7
                obtain ⟨n0, n1, n2, n3, n4, n5, n6, n7⟩ := cells8 (row_below HB3.out HX.out.2.1)
                obtain ⟨o0, o1, o2, o3, o4, o5, o6, o7⟩ := cells8 (row_below HB3.out HX.out.2.2.1)
                go_wp2_with fail
                go_ret
                exact ⟨rfl, HX.out.1.trans (HB3.out.mono HX.out.1.size)⟩
            · have dq : decide ((300 : Int) < (body.length : Int)) = true := decide_eq_true (by omega)
              clear hall la lb lc lq
              go_wp2_with fail
              refine (hLa X).mono ?_
              rintro e w1 ⟨rfl, hb1⟩
              have HB1 := Lib.hid hb1
              clear hb1
              clear m0 m1 m2 m3 m4 m5 m6 m7
              obtain ⟨n0, n1, n2, n3, n4, n5, n6, n7⟩ := cells8 (row_below HB1.out HX.out.2.2.1)
              go_wp2_with fail
              refine (hLb w1).mono ?_
              rintro e w2 ⟨rfl, hb2⟩
              have HB2 := Lib.hid (HB1.out.trans (hb2.mono HB1.out.size))
              clear hb2
              clear n0 n1 n2 n3 n4 n5 n6 n7
              obtain ⟨n0, n1, n2, n3, n4, n5, n6, n7⟩ := cells8 (row_below HB2.out HX.out.2.2.2)
              go_wp2_with fail
              refine (hLc w2).mono ?_
              rintro e w3 ⟨rfl, hb3⟩
              have HB3 := Lib.hid (HB2.out.trans (hb3.mono HB2.out.size))
              clear hb3
              clear n0 n1 n2 n3 n4 n5 n6 n7
              obtain ⟨n0, n1, n2, n3, n4, n5, n6, n7⟩ := cells8 (row_below HB3.out HX.out.2.1)
              obtain ⟨o0, o1, o2, o3, o4, o5, o6, o7⟩ := cells8 (row_below HB3.out HX.out.2.2.1)
              go_wp2_with fail
              go_ret
              exact ⟨rfl, HX.out.1.trans (HB3.out.mono HX.out.1.size)⟩
  have HTL := Lib.hid tail
  clear tail
  go_region
  all_goals first
    | exact HTL.out _ _ _ _ (alloc3 w _ _ _ _).1 (alloc3 w _ _ _ _).2.1 (alloc3 w _ _ _ _).2.2.1 (alloc3 w _ _ _ _).2.2.2
    | exact HTL.out _ _ _ _ (alloc3 w _ _ _ _).1 (alloc3 w _ _ _ _).2.1 (alloc3 w _ _ _ _).2.2.2 (alloc3 w _ _ _ _).2.2.1
    | exact HTL.out _ _ _ _ (alloc3 w _ _ _ _).1 (alloc3 w _ _ _ _).2.2.1 (alloc3 w _ _ _ _).2.1 (alloc3 w _ _ _ _).2.2.2
    | exact HTL.out _ _ _ _ (alloc3 w _ _ _ _).1 (alloc3 w _ _ _ _).2.2.1 (alloc3 w _ _ _ _).2.2.2 (alloc3 w _ _ _ _).2.1
    | exact HTL.out _ _ _ _ (alloc3 w _ _ _ _).1 (alloc3 w _ _ _ _).2.2.2 (alloc3 w _ _ _ _).2.1 (alloc3 w _ _ _ _).2.2.1
    | exact HTL.out _ _ _ _ (alloc3 w _ _ _ _).1 (alloc3 w _ _ _ _).2.2.2 (alloc3 w _ _ _ _).2.2.1 (alloc3 w _ _ _ _).2.1
#print axioms hjoin_walk
end Go.Proofs.YtgnjmmaahpngpaaDoor
