/- stream.Messages, whatever the bytes: its walk. -/
import Derived.Test.YthfmpnikchlhlaaSMsgs3
namespace Go.Proofs.Ythfmpnikchlhlaa
open Go Go.RowKit Go.Shelf
attribute [local go_sem] Oper.semAt_some

set_option maxRecDepth 20000 in
set_option maxHeartbeats 4000000 in
theorem msgs_any {w : World} {v : Value} {zs : List Int} (hr : Rd w v zs) (hp : Plain v) (hl : zs.length ≤ 1000000) :
    Calls Try.prog 16 #[v] w (MsgsPost w zs) := by
  have e0 : (((w.alloc (.cells #[.slice none 0 0] 45)).alloc (.cells #[.bool false] 4)).alloc (.cells #[.slice none 0 0] 45)).heap[w.heap.size]? = some (.cells #[.slice none 0 0] 45 (0, 0)) :=
    row_keep (((below_alloc _ _).trans ((below_alloc _ _).mono (by simp)))) (heap_alloc_new w _)
  have e1 : (((w.alloc (.cells #[.slice none 0 0] 45)).alloc (.cells #[.bool false] 4)).alloc (.cells #[.slice none 0 0] 45)).heap[w.heap.size + 1]? = some (.cells #[.bool false] 4 (0, 0)) :=
    row_keep (below_alloc _ _) (heap_alloc2_new w _ _)
  have e2 : (((w.alloc (.cells #[.slice none 0 0] 45)).alloc (.cells #[.bool false] 4)).alloc (.cells #[.slice none 0 0] 45)).heap[w.heap.size + 2]? = some (.cells #[.slice none 0 0] 45 (0, 0)) := by
    have := heap_alloc2_new (w.alloc (.cells #[.slice none 0 0] 45)) (.cells #[.bool false] 4) (.cells #[.slice none 0 0] 45)
    simpa using this
  have eb : Below w.heap.size w (((w.alloc (.cells #[.slice none 0 0] 45)).alloc (.cells #[.bool false] 4)).alloc (.cells #[.slice none 0 0] 45)) :=
    ((below_alloc _ _).trans ((below_alloc _ _).mono (by simp))).trans ((below_alloc _ _).mono (by simp; omega))
  have es : (((w.alloc (.cells #[.slice none 0 0] 45)).alloc (.cells #[.bool false] 4)).alloc (.cells #[.slice none 0 0] 45)).heap.size = w.heap.size + 3 := by simp
  have hcl := callsIn_wide (n := 0).2 (clone_any (hr.below eb) hp hl)
  obtain ⟨ao, n, cap, rfl⟩ := hr.shape3
  refine callsIn_wide.1 (callsIn_of_wp_marks (n := 1) (F := Fence.wide) Try.func16 rfl trivial ?_ rfl)
  have hF25 : Fence.wide.fn 25 := trivial
  have hF26 : Fence.wide.fn 26 := trivial
  clear hr hp
  simp only [Try.ntmps16, List.size_toArray, List.length_cons, List.length_nil, Nat.reduceAdd, Nat.reduceSub, Array.replicate_succ, Array.replicate_zero, List.push_toArray, List.append_toArray, List.nil_append, List.cons_append]
  gi_wp2
  refine hcl.mono ?_
  rintro e w1 ⟨v1, rfl, ⟨hr1, hp1⟩, hb1⟩
  replace e0 := row_keep hb1 e0
  replace e1 := row_keep hb1 e1
  replace e2 := row_keep hb1 e2
  have hsz : w.heap.size + 3 ≤ w1.heap.size := by have := hb1.size; omega
  replace eb := eb.trans (hb1.mono eb.size)
  replace hr1 := hr1.rd
  clear hb1 hcl es
  obtain ⟨a1, n1, c1, rfl⟩ := hr1.shape3
  gi_wp2
  refine (callsIn_wide.2 messages_any).mono ?_
  rintro e w' ⟨rfl, rfl⟩
  gi_wp2
  refine wpIn_wide.2 (range_open rfl (enters_of Try.func28 (by kernel_rfl) rfl) fun fn => ?_)
  have hs1 : (w1.alloc (.cells #[.slice a1 n1 c1] 29)).heap.size = w1.heap.size + 1 := by simp
  rw [hs1]
  have hst : ∀ (X : Obj), Sm w1 w.heap.size w1.heap.size (.slice a1 n1 c1) X [] (((w1.alloc (.cells #[.slice a1 n1 c1] 29)).alloc (.deferred (some []))).alloc X) := fun X => by
    have b1 := below_alloc w1 (.cells #[.slice a1 n1 c1] 29)
    have b2 := below_alloc (w1.alloc (.cells #[.slice a1 n1 c1] 29)) (.deferred (some []))
    have b3 := below_alloc ((w1.alloc (.cells #[.slice a1 n1 c1] 29)).alloc (.deferred (some []))) X
    have b12 := b1.trans (b2.mono b1.size)
    have ball := b12.trans (b3.mono b12.size)
    refine ⟨by omega, rfl, e0, e1, e2, ⟨.slice none 0 0, row_keep ball e2, World.ownsRow_nil _ _ _ _⟩, ⟨_, row_keep ball e0⟩, ⟨_, row_keep ball e1⟩, ?_, ?_, ?_, (fun p h => by cases h), Chg.of_below ball⟩
    · exact row_keep b3 (row_keep b2 (heap_alloc_new w1 _))
    · have := row_keep b3 (heap_alloc_new (w1.alloc (.cells #[.slice a1 n1 c1] 29)) (.deferred (some [])))
      rwa [hs1] at this
    · have := heap_alloc2_new (w1.alloc (.cells #[.slice a1 n1 c1] 29)) (.deferred (some [])) X
      rwa [hs1] at this
  refine (msgs_loop hr1 hp1 hl (hst _) ?hY ?hE).mono ?post
  case hY =>
    intro qs q Wb hS hq ha hlen
    obtain ⟨qv, ql⟩ := q
    obtain ⟨qa, ha⟩ := ha
    simp only at ha
    subst ha
    obtain ⟨lv, l1, l2⟩ := hS.lb
    have HS := Lib.hid hS
    have HLV := Lib.hid (And.intro l1 l2)
    have HQ := Lib.hid hq
    have hlo := hS.lo
    refine yield_open hS.lp rfl ?_
    clear hS hq l1 l2 hst e0 e1 e2 eb hr1 hp1
    gi_wp2
    refine ⟨HS.out.lp, ?_⟩
    have hs4 : w1.heap.size + 2 < Wb.heap.size := (Array.getElem?_eq_some_iff.1 HS.out.lp).1
    refine wpIn_world (fun Wd => Chg [w1.heap.size + 2] Wb Wd ∧ Wd.heap[w1.heap.size + 2]? = some (.loop (recd fn _ _ _ _ _ .busy none))) ⟨Chg.put _ _ (by simp), World.putObj_heap_same (by omega)⟩ ?_
    rintro Wd ⟨hch, hlb⟩
    have hsd : w1.heap.size + 2 < Wd.heap.size := Nat.lt_of_lt_of_le hs4 hch.size
    have hrow : Wd.heap[w.heap.size + 2]? = some (.cells #[lv] 45 (0, 0)) := (hch.block _ (by omega) (by simp; omega)).trans HLV.out.1
    have hown : Wd.ownsRow (w1.heap.size + 3) 29 1 lv qs.length (qs.map (·.1)) := own_same HLV.out.2 fun g hg => by
      have hlt := HLV.out.2.lt g hg
      exact hch.block g hlt.2 (by simp; omega)
    have c0 := (cell_of_row Wd (w.heap.size + 2) 0 _ 45 (0, 0) hrow).trans rfl
    have f0 := unfrozen hrow 0
    have HCH := Lib.hid hch
    have HLB := Lib.hid hlb
    have HROW := Lib.hid hrow
    have HSD := Lib.hid hsd
    have HOWN := Lib.hid hown
    have HLEN := Lib.hid hlen
    have HLO := Lib.hid hlo
    obtain ⟨ip, hip, hz0, hz1, hz2⟩ := info_parts info_bb
    have hcn := fun i => cell_of_row _ Wd.heap.size i _ 29 (0, 0) (heap_alloc_new Wd (.cells #[.slice qa ql.length ql.length] 29))
    have HCN := Lib.hid hcn
    clear hch hlb hrow hs4 hsd hown hlen hcn hlo
    gi_wp2_with (
      gi_at_builtin
      refine wpListIn_append_own_at _ rfl (.tmp 14) (.tmp 16) 45 rfl (w1.heap.size + 3) 29 ip (.slice none 0 0) 1 24 Try.underlying45 hip hz0 hz1 hz2 rfl (by decide) lv qs.length (qs.map (·.1)) rfl
        (own_below HOWN.out (below_alloc Wd _)) ⟨Wd.heap.size, 0, none⟩ 1 1 [.slice qa ql.length ql.length] rfl rfl
        (cells_at HCN.out) (by intro u hu; simp at hu; subst hu; rfl) (by have := HLEN.out; unfold maxLen; omega) (by have := HLEN.out; omega) (by have := HSD.out; simp; omega) ?_
      intro v' w2 hown' hgrow _ hplace
      obtain ⟨g', cap', rfl⟩ := ownsRow_succ hown'
      have hr2 := (hgrow.block (w.heap.size + 2) (by have := HSD.out; have := HLO.out; simp; omega) (fun e => by have := (HOWN.out.lt _ e.symm).1; have := HLO.out; omega)).trans (row_keep (below_alloc Wd _) HROW.out)
      have hl2 := (hgrow.block (w1.heap.size + 2) (by have := HSD.out; simp; omega) (fun e => by have := (HOWN.out.lt _ e.symm).1; omega)).trans (row_keep (below_alloc Wd _) HLB.out)
      have c2 := (cell_of_row w2 (w.heap.size + 2) 0 _ 45 (0, 0) hr2).trans rfl
      have f2 := unfrozen hr2 0
      have HST := Lib.hid (And.intro hown' (And.intro hgrow (And.intro hplace (And.intro hr2 hl2))))
      clear hown' hgrow hplace hr2 hl2)
    obtain ⟨hown', hgrow, hplace, hr2, hl2⟩ := HST.out
    have hch := HCH.out
    have hlo := HLO.out
    have e0 := heap_setCell_same w2 (w.heap.size + 2) 0 _ 45 (.slice (some ⟨g', 0, none⟩) (qs.length + 1) cap') hr2
    simp only [List.setIfInBounds_toArray, List.set_cons_zero] at e0
    have e4 := (Below.heap_setCell w2 ⟨w.heap.size + 2, 0, none⟩ (.slice (some ⟨g', 0, none⟩) (qs.length + 1) cap') (w1.heap.size + 2) (by simp; omega)).trans hl2
    have hs2 : w1.heap.size + 2 < (w2.setCell ⟨w.heap.size + 2, 0, none⟩ (.slice (some ⟨g', 0, none⟩) (qs.length + 1) cap')).heap.size := (Array.getElem?_eq_some_iff.1 e4).1
    exact ⟨e4, rfl, HS.out.step HQ.out HLV.out.1 (hch.trans (Chg.alloc Wd _)) hgrow hown' ((Chg.set w2 0 _ (by simp)).trans (Chg.put _ _ (by simp))) ((World.putObj_heap_other (by omega)).trans e0) (World.putObj_heap_same hs2)⟩
  case hE =>
    intro qs k Wb hS hk
    obtain ⟨lv, l1, l2⟩ := hS.lb
    obtain ⟨u0, l3⟩ := hS.rb
    obtain ⟨u1, l4⟩ := hS.eb
    have HS := Lib.hid hS
    have HK := Lib.hid hk
    have HL := Lib.hid (And.intro l1 (And.intro l3 l4))
    have hlo := hS.lo
    refine yield_open hS.lp rfl ?_
    clear hS l2 l3 l4 l1 hst e0 e1 e2 eb hr1 hp1 hk
    gi_wp2
    refine ⟨HS.out.lp, ?_⟩
    have hs4 : w1.heap.size + 2 < Wb.heap.size := (Array.getElem?_eq_some_iff.1 HS.out.lp).1
    refine wpIn_world (fun Wd => Chg [w1.heap.size + 2] Wb Wd ∧ Wd.heap[w1.heap.size + 2]? = some (.loop (recd fn _ _ _ _ _ .busy none))) ⟨Chg.put _ _ (by simp), World.putObj_heap_same (by omega)⟩ ?_
    rintro Wd ⟨hch, hlb⟩
    have hsd : w1.heap.size + 2 < Wd.heap.size := Nat.lt_of_lt_of_le hs4 hch.size
    have hrow : Wd.heap[w.heap.size]? = some (.cells #[u0] 45 (0, 0)) := (hch.block _ (by omega) (by simp; omega)).trans HL.out.2.1
    have hrow1 : Wd.heap[w.heap.size + 1]? = some (.cells #[u1] 4 (0, 0)) := (hch.block _ (by omega) (by simp; omega)).trans HL.out.2.2
    have c0 := (cell_of_row Wd w.heap.size 0 _ 45 (0, 0) hrow).trans rfl
    have f0 := unfrozen hrow 0
    have c1 := (cell_of_row Wd (w.heap.size + 1) 0 _ 4 (0, 0) hrow1).trans rfl
    have f1 := unfrozen hrow1 0
    have hnn : (k != 0) = true := by simp [HK.out]
    have HCH := Lib.hid hch
    have HLB := Lib.hid hlb
    have HROW := Lib.hid hrow
    have HROW1 := Lib.hid hrow1
    have HSD := Lib.hid hsd
    have HLO := Lib.hid hlo
    clear hch hlb hrow hrow1 hs4 hsd hlo
    gi_wp2
    have hlo := HLO.out
    have e0 := heap_setCell_same Wd w.heap.size 0 _ 45 (.slice none 0 0) HROW.out
    simp only [List.setIfInBounds_toArray, List.set_cons_zero] at e0
    have e1 := heap_setCell_same (Wd.setCell ⟨w.heap.size, 0, none⟩ (.slice none 0 0)) (w.heap.size + 1) 0 _ 4 (.bool false) ((Below.heap_setCell Wd ⟨w.heap.size, 0, none⟩ (.slice none 0 0) (w.heap.size + 1) (by simp)).trans HROW1.out)
    simp only [List.setIfInBounds_toArray, List.set_cons_zero] at e1
    have e2 := (Below.heap_setCell (Wd.setCell ⟨w.heap.size, 0, none⟩ (.slice none 0 0)) ⟨w.heap.size + 1, 0, none⟩ (.bool false) w.heap.size (by simp)).trans e0
    have e4 := (Below.heap_setCell (Wd.setCell ⟨w.heap.size, 0, none⟩ (.slice none 0 0)) ⟨w.heap.size + 1, 0, none⟩ (.bool false) (w1.heap.size + 2) (by simp; omega)).trans ((Below.heap_setCell Wd ⟨w.heap.size, 0, none⟩ (.slice none 0 0) (w1.heap.size + 2) (by simp; omega)).trans HLB.out)
    have hs2 := (Array.getElem?_eq_some_iff.1 e4).1
    have hch := HCH.out
    exact ⟨e4, rfl, HS.out.turn HL.out.1 (((Chg.trans ⟨hch.os, hch.tape, hch.output, hch.size, fun j hj hn => hch.block j hj (fun h => hn (by simp at h; simp [h]))⟩ (Chg.set Wd 0 _ (by simp))).trans (Chg.set _ 0 _ (by simp))).trans (Chg.put _ _ (by simp)))
      ⟨_, (World.putObj_heap_other (by omega)).trans e2⟩ ⟨_, (World.putObj_heap_other (by omega)).trans e1⟩ (World.putObj_heap_same hs2), (World.putObj_heap_other (by omega)).trans e2, (World.putObj_heap_other (by omega)).trans e1⟩
  case post =>
    rintro e W ⟨he, qs, hq, (⟨h0, hS⟩ | ⟨h0, hS, r0, r1⟩)⟩
    · refine ⟨he, .inl ⟨hS.lp, fun o => ?_⟩⟩
      obtain ⟨lv, l1, l2⟩ := hS.lb
      obtain ⟨u0, l3⟩ := hS.rb
      obtain ⟨u1, l4⟩ := hS.eb
      obtain ⟨la, lb, lc, rfl⟩ := own_slice l2
      have hlo := hS.lo
      have hs4 : w1.heap.size + 2 < W.heap.size := (Array.getElem?_eq_some_iff.1 hS.lp).1
      have l3' : (W.putObj (w1.heap.size + 2) o).heap[w.heap.size]? = some (.cells #[u0] 45 (0, 0)) := (World.putObj_heap_other (by omega)).trans l3
      have l4' : (W.putObj (w1.heap.size + 2) o).heap[w.heap.size + 1]? = some (.cells #[u1] 4 (0, 0)) := (World.putObj_heap_other (by omega)).trans l4
      have l1' : (W.putObj (w1.heap.size + 2) o).heap[w.heap.size + 2]? = some (.cells #[.slice la lb lc] 45 (0, 0)) := (World.putObj_heap_other (by omega)).trans l1
      have S1 : Sm w1 w.heap.size w1.heap.size (.slice a1 n1 c1) o qs (W.putObj (w1.heap.size + 2) o) := hS.turn l1 (Chg.put W o (by simp)) ⟨_, l3'⟩ ⟨_, l4'⟩ (World.putObj_heap_same hs4)
      have HS := Lib.hid S1
      have HQ := Lib.hid (And.intro hq h0)
      have HLO := Lib.hid hlo
      have EB := Lib.hid eb
      show Exit.inBlock 0 _ Exit.normal _ (W.putObj (w1.heap.size + 2) o)
      generalize W.putObj (w1.heap.size + 2) o = W1 at *
      have c0 := (cell_of_row W1 w.heap.size 0 _ 45 (0, 0) l3').trans rfl
      have f0 := unfrozen l3' 0
      have c1 := (cell_of_row W1 (w.heap.size + 1) 0 _ 4 (0, 0) l4').trans rfl
      have f1 := unfrozen l4' 0
      have c2 := (cell_of_row W1 (w.heap.size + 2) 0 _ 45 (0, 0) l1').trans rfl
      have L := Lib.hid (And.intro l1' (And.intro l3' l4'))
      clear S1 l1' l3' l4' hq h0 hS l1 l2 l3 l4 hst e0 e1 e2 eb hr1 hp1 hlo hs4
      dsimp only [marked]
      gi_wp2
      have e0 := heap_setCell_same W1 w.heap.size 0 _ 45 (.slice la lb lc) L.out.2.1
      simp only [List.setIfInBounds_toArray, List.set_cons_zero] at e0
      have e1 := heap_setCell_same (W1.setCell ⟨w.heap.size, 0, none⟩ (.slice la lb lc)) (w.heap.size + 1) 0 _ 4 (.bool true) ((Below.heap_setCell W1 ⟨w.heap.size, 0, none⟩ (.slice la lb lc) (w.heap.size + 1) (by simp)).trans L.out.2.2)
      simp only [List.setIfInBounds_toArray, List.set_cons_zero] at e1
      have e2 := (Below.heap_setCell (W1.setCell ⟨w.heap.size, 0, none⟩ (.slice la lb lc)) ⟨w.heap.size + 1, 0, none⟩ (.bool true) w.heap.size (by simp)).trans e0
      have e3 := (Below.heap_setCell (W1.setCell ⟨w.heap.size, 0, none⟩ (.slice la lb lc)) ⟨w.heap.size + 1, 0, none⟩ (.bool true) (w.heap.size + 2) (by simp)).trans ((Below.heap_setCell W1 ⟨w.heap.size, 0, none⟩ (.slice la lb lc) (w.heap.size + 2) (by simp)).trans L.out.1)
      have hlo := HLO.out
      have e4 := (Below.heap_setCell (W1.setCell ⟨w.heap.size, 0, none⟩ (.slice la lb lc)) ⟨w.heap.size + 1, 0, none⟩ (.bool true) (w1.heap.size + 2) (by simp; omega)).trans ((Below.heap_setCell W1 ⟨w.heap.size, 0, none⟩ (.slice la lb lc) (w1.heap.size + 2) (by simp; omega)).trans HS.out.lp)
      exact msgs_out (HS.out.turn L.out.1 ((Chg.set W1 0 _ (by simp)).trans (Chg.set _ 0 _ (by simp))) ⟨_, e2⟩ ⟨_, e1⟩ e4) EB.out _ rfl rfl e2 e1 (.inl ⟨rfl, HQ.out.2, HQ.out.1, e3⟩)
    · refine ⟨he, .inr ⟨_, hS.lp, fun o => ?_⟩⟩
      obtain ⟨lv, l1, l2⟩ := hS.lb
      have hlo := hS.lo
      have hs4 : w1.heap.size + 2 < W.heap.size := (Array.getElem?_eq_some_iff.1 hS.lp).1
      have r0' : (W.putObj (w1.heap.size + 2) o).heap[w.heap.size]? = some (.cells #[.slice none 0 0] 45 (0, 0)) := (World.putObj_heap_other (by omega)).trans r0
      have r1' : (W.putObj (w1.heap.size + 2) o).heap[w.heap.size + 1]? = some (.cells #[.bool false] 4 (0, 0)) := (World.putObj_heap_other (by omega)).trans r1
      have S1 : Sm w1 w.heap.size w1.heap.size (.slice a1 n1 c1) o qs (W.putObj (w1.heap.size + 2) o) := hS.turn l1 (Chg.put W o (by simp)) ⟨_, r0'⟩ ⟨_, r1'⟩ (World.putObj_heap_same hs4)
      refine (wpIn_wide (n := 1)).1 ?_
      gi_wp2
      exact msgs_out S1 eb _ rfl rfl r0' r1' (.inr ⟨rfl, h0, rfl⟩)
#print axioms msgs_any
end Go.Proofs.Ythfmpnikchlhlaa
