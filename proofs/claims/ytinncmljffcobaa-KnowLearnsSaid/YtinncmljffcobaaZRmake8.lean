/- The reference's Make, of a shared one. -/
import Derived.Test.YtinncmljffcobaaZRmakeNo
import Derived.Deep.RegionWith
import Derived.Deep.QuietTactic
import Derived.BigQuiet
import Derived.BigRegion
import Derived.RegionTactic
namespace Go.Proofs.Ytinncmljffcobaa
open Go Go.RowKit

theorem refOk8 (N : List Nd) {ps : List Int} (hl : ps.length = 2) {x y : Int} (hx : ps.getD 0 0 = x) (hy : ps.getD 1 0 = y) : refOk N 8 ps = (decide (kindN N x = 2) && decide (kindN N y = 7)) := by
  subst hx; subst hy
  simp [refOk, hl]
/-- The secret of a public one, where it lies. -/
theorem RTbl.secret {w : World} {B rb : Nat} {nv : Value} {L : List (Nd × Value)} (h : RTbl w B rb nv L) (hok : ∀ m ∈ nds L, NdOk m) {y : Int} (hy : kindN (nds L) y = 7) :
    ∃ (q g cap g2 c2 : Nat) (o : Int), y = (q : Int) + 1 ∧ q < L.length ∧ nv = .slice (some ⟨g, 0, none⟩) L.length cap ∧ cap ≤ 9223372036854775807 ∧ L.length ≤ cap ∧ w.cell? ⟨g, q * 3 + 2, none⟩ = some (.slice (some ⟨g2, 0, none⟩) 1 c2) ∧ w.cell? ⟨g2, 0, none⟩ = some (.int .i64 o) ∧ partsN (nds L) y = [o] := by
  have h1 : 1 ≤ y ∧ y ≤ (L.length : Int) := by
    by_cases e : y < 1 ∨ ((nds L).length : Int) < y
    · rw [kindN_out _ _ e] at hy; cases hy
    · rw [nds_len] at e; omega
  obtain ⟨q, hq, rfl⟩ : ∃ q : Nat, q < L.length ∧ y = (q : Int) + 1 := ⟨(y - 1).toNat, by omega, by omega⟩
  rw [kindN_in L q hq] at hy
  obtain ⟨g, cap, e1, e2, e3, _, _, e4⟩ := row_cell h.nodes q hq
  have hn := hok L[q].1 (List.mem_map.2 ⟨L[q], List.getElem_mem hq, rfl⟩)
  have hlen := hn.2.2.2.2 hy
  have hpart := h.parts L[q] (List.getElem_mem hq)
  obtain ⟨o, ho⟩ : ∃ o, L[q].1.2.2 = [o] := by
    match L[q].1.2.2, hlen with
    | [o], _ => exact ⟨o, rfl⟩
  rw [ho] at hpart
  have hp : partsN (nds L) ((q : Int) + 1) = [o] := by
    unfold partsN nds
    rw [show ((q : Int) + 1 - 1).toNat = q by omega, List.getElem?_map, List.getElem?_eq_getElem hq]
    exact ho
  obtain ⟨pg, pc, hpv, hpc⟩ : ∃ pg pc, L[q].2 = .slice (some ⟨pg, 0, none⟩) 1 pc ∧ w.cell? ⟨pg, 0, none⟩ = some (.int .i64 o) := by
    rcases hpart.2 with ⟨_, h0⟩ | ⟨pg, pc, cur, hv, _⟩
    · simp at h0
    · refine ⟨pg, pc, hv, ?_⟩
      rw [hv] at hpart
      rw [hpart.cellAt 0 (by simp)]; rfl
  rw [hpv] at e4
  exact ⟨q, g, cap, pg, pc, o, rfl, hq, e1, e2, e3, e4, hpc, hp⟩

/-- A made row of two beside the box. -/
theorem box_step {wB : World} {bx : Nat} {c0 c1 c2 : Value} (n : Nat) (a b : Int) (hb : wB.heap[bx]? = some (.cells #[c0, c1, c2] 69 (0, 0))) :
    ((wB.drewN n).alloc (.cells #[.int .i64 a, .int .i64 b] 3)).cell? ⟨bx, 0, none⟩ = some c0 ∧ ((wB.drewN n).alloc (.cells #[.int .i64 a, .int .i64 b] 3)).cell? ⟨bx, 1, none⟩ = some c1 ∧ ((wB.drewN n).alloc (.cells #[.int .i64 a, .int .i64 b] 3)).cell? ⟨bx, 2, none⟩ = some c2 ∧
    ((wB.drewN n).alloc (.cells #[.int .i64 a, .int .i64 b] 3)).frozen? ⟨bx, 2, none⟩ = false ∧ Below wB.heap.size wB ((wB.drewN n).alloc (.cells #[.int .i64 a, .int .i64 b] 3)) ∧
    ((wB.drewN n).alloc (.cells #[.int .i64 a, .int .i64 b] 3)).ownsRow wB.heap.size 3 1 (.slice (some ⟨wB.heap.size, 0, none⟩) 2 2) 2 (cs .i64 [a, b]) := by
  have hd : Below wB.heap.size wB (wB.drewN n) := below_drewN (Below.refl _ _) n
  have hs : (wB.drewN n).heap.size = wB.heap.size := by simp [World.drewN]
  have hB : Below wB.heap.size wB ((wB.drewN n).alloc (.cells #[.int .i64 a, .int .i64 b] 3)) := hd.alloc (by omega) _
  have hx : ((wB.drewN n).alloc (.cells #[.int .i64 a, .int .i64 b] 3)).heap[bx]? = some (.cells #[c0, c1, c2] 69 (0, 0)) := by rw [hB.block bx (blk_lt hb)]; exact hb
  refine ⟨(cell_of_row _ bx 0 _ 69 (0, 0) hx).trans rfl, (cell_of_row _ bx 1 _ 69 (0, 0) hx).trans rfl, (cell_of_row _ bx 2 _ 69 (0, 0) hx).trans rfl, frozen_of_row _ bx 2 _ 69 hx, hB, ?_⟩
  have := own_lit .i64 3 (wB.drewN n) [a, b] (by simp)
  rw [hs] at this
  exact this
/-- add, behind the store into the box. -/
theorem box_end {w wB W : World} {B rb bx : Nat} {nv v : Value} {L : List (Nd × Value)} {a b : Int} (h : RTbl w B rb nv L) (hbel : Below w.heap.size w wB) (hbx : w.heap.size ≤ bx) (hBs : B ≤ w.heap.size) (hroom : L.length < 65536)
    (hown : W.ownsRow wB.heap.size 3 1 v 2 (cs .i64 [a, b])) (hW : Below wB.heap.size wB W) (u : Value) {c0 c1 c2 : Value} (hb : wB.heap[bx]? = some (.cells #[c0, c1, c2] 69 (0, 0))) :
    Calls Try.prog 43 #[.pointer (some ⟨rb, 0, none⟩), .agg #[.int .i64 8, .string ⟨#[]⟩, v]] (W.setCell ⟨bx, 2, none⟩ u) fun e w' => RPut w B rb nv L (8, ByteArray.empty, [a, b]) e w' := by
  have hb4 : Below w.heap.size w (W.setCell ⟨bx, 2, none⟩ u) := (hbel.trans (hW.mono hbel.size)).setCell hbx _
  have ho : (W.setCell ⟨bx, 2, none⟩ u).ownsRow wB.heap.size 3 1 v 2 (cs .i64 [a, b]) := ownsRow_setCell_below hown (show bx < wB.heap.size from blk_lt hb) u
  refine (radd_any (h.keep hb4) 8 ByteArray.empty [a, b] v (own_mono ho (Nat.le_trans hBs hbel.size)) hroom).mono fun e w' hm => ?_
  rcases hm with ⟨c, h1, h2, h3⟩ | ⟨h1, h2, nv', h3, h4, h5⟩
  · exact .inl ⟨c, h1, h2, hb4.trans (h3.mono hb4.size)⟩
  · exact .inr ⟨h1, h2, nv', v, h3, (Frm.of_below hb4).trans (Moved.refl _ _) h4, (Moved.refl _ _).trans hb4.size h5, fun g hg => Nat.le_trans hbel.size (hown.lt g hg).1⟩

set_option maxRecDepth 20000 in
set_option maxHeartbeats 4000000 in
theorem rmake_8 {w : World} {B rb : Nat} {nv : Value} {L : List (Nd × Value)} (h : RTbl w B rb nv L) (hk : ∀ m ∈ nds L, m.1 ≠ 0) (k : Int) {pv : Value} {ps : List Int} (hp : Rd .i64 w pv ps) (hl : ps.length ≤ 1000000) (hroom : L.length < 65536) (hB : B ≤ w.heap.size) (hok : Hid (∀ m ∈ nds L, NdOk m)) (hk7 : Hid (k = 8)) :
    Calls Try.prog 30 #[.pointer (some ⟨rb, 0, none⟩), .int .i64 k, pv] w fun e w' => RMade w B rb nv L k ps e w' := by
  have hp' := hp
  obtain ⟨ao, cap, rfl, _, _, _, _⟩ := hp'
  have HL := Lib.hid hl
  have HK := Lib.hid hk
  have HR := Lib.hid hroom
  clear hl hk hroom
  go_enter Try.func30, Try.ntmps30
  go_wp2_with fail
  go_loopw [7] (fun i wr => ∃ j : Nat, j ≤ ps.length ∧ i = .int .i64 j ∧ (∀ q, q < j → kindN (nds L) (ps.getD q 0) ≠ 0) ∧ w = wr) (fun i _ => ps.length - (intOf i).toNat)
  case atStart => exact ⟨0, Nat.zero_le _, rfl, (fun q hq => by omega), rfl⟩
  case round =>
    obtain ⟨j, hj, rfl, hall, rfl⟩ := hrel
    by_cases hlt : j < ps.length
    · have hlt' : (j : Int) < (ps.length : Int) := by omega
      rcases hp.cases with ⟨h0, _⟩ | ⟨b, off, c, e, _, _, _, _, hc⟩
      · rw [h0] at hlt; simp at hlt
      · cases e
        have hcj := hc j hlt
        have HALL := Lib.hid hall
        have HX : Hid (∃ x, x = ps.getD j 0) := Lib.hid ⟨_, rfl⟩
        obtain ⟨x, hx⟩ := HX.out
        rw [← hx] at hcj
        have HXX := Lib.hid hx
        have hcall := kind_any h x
        clear hc hall hp hx HX
        by_cases hz : kindN (nds L) x = 0
        · have hno := fits_none HK.out k ps j hlt (by rw [← HXX.out]; exact hz)
          have HNO := Lib.hid hno
          rw [hz] at hcall
          clear hno hz
          go_wp2_with (go_at_call 47; refine hcall.mono ?_; rintro e w' ⟨rfl, rfl⟩)
          go_ret
          exact .inr ⟨HNO.out, rfl, Below.refl _ _⟩
        · have hzb : (kindN (nds L) x == 0) = false := beq_eq_false_iff_ne.2 hz
          have HZ := Lib.hid hz
          clear hz
          go_wp2_with (go_at_call 47; refine hcall.mono ?_; rintro e w' ⟨rfl, rfl⟩)
          go_roundw
          case rel =>
            refine ⟨j + 1, by omega, by go_num, fun q hq => ?_, trivial⟩
            by_cases hqj : q < j
            · exact HALL.out q hqj
            · obtain rfl : q = j := by omega
              rw [← HXX.out]; exact HZ.out
          case measure => simp [intOf]; omega
    · obtain rfl : j = ps.length := by omega
      have hfr := fits_ref HK.out k ps hall
      have hE := own_empty w (Nat.le_refl w.heap.size)
      have hpE := hp.alloc (.cells #[] 3)
      have hSE : w.heap.size ≤ (w.alloc (.cells #[] 3)).heap.size := by simp
      have hBE := below_alloc w (.cells #[] 3)
      clear hall hj hlt
      obtain rfl := hk7.out
      by_cases hlen : ps.length = 2
      · have hlI : ((ps.length : Int) == 2) = true := by simp; omega
        rcases hp.cases with ⟨h0, _⟩ | ⟨b, off, c, e, _, _, _, _, _⟩
        · rw [h0] at hlen; simp at hlen
        cases e
        have HP := Lib.hid hp
        have HX : Hid (∃ x, ps.getD 0 0 = x) := Lib.hid ⟨_, rfl⟩
        obtain ⟨x, hx⟩ := HX.out
        have HXX := Lib.hid hx
        have HY : Hid (∃ x, ps.getD 1 0 = x) := Lib.hid ⟨_, rfl⟩
        obtain ⟨y, hy⟩ := HY.out
        have HYY := Lib.hid hy
        have HLN : Hid (ps.length = 2) := Lib.hid hlen
        have h0I : (0 : Int) < (ps.length : Int) := by omega
        have h1I : (1 : Int) < (ps.length : Int) := by omega
        have HH := Lib.hid h
        have HFR : Hid (fitsN (nds L) 8 ps = (decide (kindN (nds L) x = 2) && decide (kindN (nds L) y = 7))) := Lib.hid (by rw [hfr, refOk8 (nds L) hlen hx hy])
        clear hfr hlen hx hy HX HY hp
        by_cases hK : kindN (nds L) x = 2
        · have tK : (kindN (nds L) x == 2) = true := beq_iff_eq.2 hK
          by_cases hK7 : kindN (nds L) y = 7
          · have tK7 : (kindN (nds L) y == 7) = true := beq_iff_eq.2 hK7
            have HF : Hid (fitsN (nds L) 8 ps = true) := Lib.hid (by rw [HFR.out, decide_eq_true hK, decide_eq_true hK7]; rfl)
            have HK7 := Lib.hid hK7
            clear hK hK7
            go_wp2_with (first | (at_builtin; refine wpList_append_ints .i64 3 8 (.tmp 25) (.tmp 26) 23 rfl rfl info3' Try.underlying23 w.heap.size _ 0 [] rfl hE _ ps rfl hpE (le8 HL) (le1 HL) hSE ?_; intro v2 w2 hown2 hb2 _; have H2 := rmake_mid HH.out hB hBE hb2 hown2; clear hown2 hb2; obtain ⟨a2, c2, rfl, _, _⟩ := own_shape H2.own; have hx0 := part_at HP.out (H2.bel.trans ((below_alloc w2 (.cells #[.int .i64 8, .string ⟨#[]⟩, .slice a2 ps.length c2] 69)).mono H2.bel.size)) 0 (by rw [HLN.out]; decide) HXX.out; rw [Nat.add_zero] at hx0; have hy0 := part_at HP.out (H2.bel.trans ((below_alloc w2 (.cells #[.int .i64 8, .string ⟨#[]⟩, .slice a2 ps.length c2] 69)).mono H2.bel.size)) 1 (by rw [HLN.out]; decide) HYY.out) | (go_at_call 47; refine (kind_any (H2.tbl.keep (below_alloc w2 (.cells #[.int .i64 8, .string ⟨#[]⟩, .slice a2 ps.length c2] 69))) _).mono ?_; rintro e w' ⟨rfl, rfl⟩))
            have ht := H2.tbl.keep (below_alloc w2 (.cells #[.int .i64 8, .string ⟨#[]⟩, .slice a2 ps.length c2] 69))
            have hbel := (H2.bel.trans ((below_alloc w2 (.cells #[.int .i64 8, .string ⟨#[]⟩, .slice a2 ps.length c2] 69)).mono H2.bel.size))
            have hbox : Hid ((w2.alloc (.cells #[.int .i64 8, .string ⟨#[]⟩, .slice a2 ps.length c2] 69)).heap[w2.heap.size]? = some (.cells #[.int .i64 8, .string ⟨#[]⟩, .slice a2 ps.length c2] 69 (0, 0))) := Lib.hid (heap_alloc_new _ _)
            have HS2 : Hid (w.heap.size ≤ w2.heap.size) := Lib.hid H2.bel.size
            obtain ⟨q, g, cp, g2, cc, o, hyq, hq, hnv, hcp, hlc, hc2, hco, hpo⟩ := ht.secret hok.out HK7.out
            have hc0 : (w2.alloc (.cells #[.int .i64 8, .string ⟨#[]⟩, .slice a2 ps.length c2] 69)).cell? ⟨rb, 0, none⟩ = some nv := by simp [World.cell?, ht.tab]
            have HT := Lib.hid ht
            have HPO := Lib.hid hpo
            have HBEL := Lib.hid hbel
            have HYQ := Lib.hid hyq
            generalize w2.alloc (.cells #[.int .i64 8, .string ⟨#[]⟩, .slice a2 ps.length c2] 69) = wB at *
            have e1 : wrap64 (y - 1) = (q : Int) := by rw [hyq]; unfold wrap64; have := ht.small; omega
            have hqI : (0 : Int) ≤ (q : Int) ∧ (q : Int) < (L.length : Int) := by omega
            clear ht hpo hbel hyq H2
            subst hnv
            go_quiet (fail)
            have hbc2 : wB.cell? ⟨w2.heap.size, 2, none⟩ = some (.slice a2 ps.length c2) := (cell_of_row wB w2.heap.size 2 _ 69 (0, 0) hbox.out).trans rfl
            have hbf2 : wB.frozen? ⟨w2.heap.size, 2, none⟩ = false := by simp [World.frozen?, hbox.out]
            clear hc2 hco hc0 e1 hqI hcp hlc hq
            have HMKA : Hid (mkN (nds L) 8 ps = [min x o, max x o]) := Lib.hid (by simp only [mkN, HXX.out, HYY.out, HPO.out]; rfl)
            by_cases h1 : x < o
            · have h2 : x ≤ o := by omega
              have HMK : Hid (mkN (nds L) 8 ps = [x, o]) := Lib.hid (by rw [HMKA.out, Int.min_eq_left (by omega), Int.max_eq_right (by omega)])
              obtain ⟨f0, f1, f2, f3, hb3, hown3⟩ := box_step (nq + 1) x o hbox.out
              have hcall := box_end (w := w) HH.out HBEL.out HS2.out hB HR.out hown3 hb3 (.slice (some ⟨wB.heap.size, 0, none⟩) 2 2) hbox.out
              have hcallH := Lib.hid hcall
              clear hcall hb3 hown3
              go_wp2_with fail
              go_region
              all_goals
                go_wp2_with fail
                refine hcallH.out.mono ?_
                intro e w4 h4
                obtain ⟨z, rfl⟩ := h4.val
                have H4 := Lib.hid h4
                clear h4
                go_wp2_with fail
                go_ret
                exact .inl ⟨HF.out, by rw [HMK.out]; exact H4.out⟩
            · by_cases h2 : x = o
              · subst h2
                have HMK : Hid (mkN (nds L) 8 ps = [x, x]) := Lib.hid (by rw [HMKA.out, Int.min_self, Int.max_self])
                obtain ⟨f0, f1, f2, f3, hb3, hown3⟩ := box_step (nq + 1) x x hbox.out
                have hcall := box_end (w := w) HH.out HBEL.out HS2.out hB HR.out hown3 hb3 (.slice (some ⟨wB.heap.size, 0, none⟩) 2 2) hbox.out
                have hcallH := Lib.hid hcall
                clear hcall hb3 hown3
                go_wp2_with fail
                go_region
                all_goals
                  go_wp2_with fail
                  refine hcallH.out.mono ?_
                  intro e w4 h4
                  obtain ⟨z, rfl⟩ := h4.val
                  have H4 := Lib.hid h4
                  clear h4
                  go_wp2_with fail
                  go_ret
                  exact .inl ⟨HF.out, by rw [HMK.out]; exact H4.out⟩
              · have h3 : o < x := by omega
                have h4 : o ≤ x := by omega
                have HMK : Hid (mkN (nds L) 8 ps = [o, x]) := Lib.hid (by rw [HMKA.out, Int.min_eq_right (by omega), Int.max_eq_left (by omega)])
                obtain ⟨f0, f1, f2, f3, hb3, hown3⟩ := box_step (nq + 1) o x hbox.out
                have hcall := box_end (w := w) HH.out HBEL.out HS2.out hB HR.out hown3 hb3 (.slice (some ⟨wB.heap.size, 0, none⟩) 2 2) hbox.out
                have hcallH := Lib.hid hcall
                clear hcall hb3 hown3
                go_wp2_with fail
                go_region
                all_goals
                  go_wp2_with fail
                  refine hcallH.out.mono ?_
                  intro e w4 h4
                  obtain ⟨z, rfl⟩ := h4.val
                  have H4 := Lib.hid h4
                  clear h4
                  go_wp2_with fail
                  go_ret
                  exact .inl ⟨HF.out, by rw [HMK.out]; exact H4.out⟩
          · have tK7 : (kindN (nds L) y == 7) = false := beq_eq_false_iff_ne.2 hK7
            have HF : Hid (fitsN (nds L) 8 ps = false) := Lib.hid (by rw [HFR.out, decide_eq_false hK7, Bool.and_false])
            clear hK hK7
            go_wp2_with (first | (at_builtin; refine wpList_append_ints .i64 3 8 (.tmp 25) (.tmp 26) 23 rfl rfl info3' Try.underlying23 w.heap.size _ 0 [] rfl hE _ ps rfl hpE (le8 HL) (le1 HL) hSE ?_; intro v2 w2 hown2 hb2 _; have H2 := rmake_mid HH.out hB hBE hb2 hown2; clear hown2 hb2; obtain ⟨a2, c2, rfl, _, _⟩ := own_shape H2.own; have hx0 := part_at HP.out (H2.bel.trans ((below_alloc w2 (.cells #[.int .i64 8, .string ⟨#[]⟩, .slice a2 ps.length c2] 69)).mono H2.bel.size)) 0 (by rw [HLN.out]; decide) HXX.out; rw [Nat.add_zero] at hx0; have hy0 := part_at HP.out (H2.bel.trans ((below_alloc w2 (.cells #[.int .i64 8, .string ⟨#[]⟩, .slice a2 ps.length c2] 69)).mono H2.bel.size)) 1 (by rw [HLN.out]; decide) HYY.out) | (go_at_call 47; refine (kind_any (H2.tbl.keep (below_alloc w2 (.cells #[.int .i64 8, .string ⟨#[]⟩, .slice a2 ps.length c2] 69))) _).mono ?_; rintro e w' ⟨rfl, rfl⟩))
            go_ret
            exact .inr ⟨HF.out, rfl, H2.bel.trans ((below_alloc _ _).mono H2.bel.size)⟩
        · have tK : (kindN (nds L) x == 2) = false := beq_eq_false_iff_ne.2 hK
          have HF : Hid (fitsN (nds L) 8 ps = false) := Lib.hid (by rw [HFR.out, decide_eq_false hK, Bool.false_and])
          clear hK
          go_wp2_with (first | (at_builtin; refine wpList_append_ints .i64 3 8 (.tmp 25) (.tmp 26) 23 rfl rfl info3' Try.underlying23 w.heap.size _ 0 [] rfl hE _ ps rfl hpE (le8 HL) (le1 HL) hSE ?_; intro v2 w2 hown2 hb2 _; have H2 := rmake_mid HH.out hB hBE hb2 hown2; clear hown2 hb2; obtain ⟨a2, c2, rfl, _, _⟩ := own_shape H2.own; have hx0 := part_at HP.out (H2.bel.trans ((below_alloc w2 (.cells #[.int .i64 8, .string ⟨#[]⟩, .slice a2 ps.length c2] 69)).mono H2.bel.size)) 0 (by rw [HLN.out]; decide) HXX.out; rw [Nat.add_zero] at hx0; have hy0 := part_at HP.out (H2.bel.trans ((below_alloc w2 (.cells #[.int .i64 8, .string ⟨#[]⟩, .slice a2 ps.length c2] 69)).mono H2.bel.size)) 1 (by rw [HLN.out]; decide) HYY.out) | (go_at_call 47; refine (kind_any (H2.tbl.keep (below_alloc w2 (.cells #[.int .i64 8, .string ⟨#[]⟩, .slice a2 ps.length c2] 69))) _).mono ?_; rintro e w' ⟨rfl, rfl⟩))
          go_ret
          exact .inr ⟨HF.out, rfl, H2.bel.trans ((below_alloc _ _).mono H2.bel.size)⟩
      · have hlI : ((ps.length : Int) == 2) = false := beq_eq_false_iff_ne.2 (by omega)
        have HF : Hid (fitsN (nds L) 8 ps = false) := Lib.hid (by rw [hfr]; simp [refOk, hlen])
        have HH := Lib.hid h
        clear hfr hlen
        go_wp2_with (at_builtin; refine wpList_append_ints .i64 3 8 (.tmp 25) (.tmp 26) 23 rfl rfl info3' Try.underlying23 w.heap.size _ 0 [] rfl hE _ ps rfl hpE (le8 HL) (le1 HL) hSE ?_; intro v2 w2 hown2 hb2 _; have H2 := rmake_mid HH.out hB hBE hb2 hown2; clear hown2 hb2; obtain ⟨a2, c2, rfl, _, _⟩ := own_shape H2.own)
        go_ret
        exact .inr ⟨HF.out, rfl, H2.bel.trans ((below_alloc _ _).mono H2.bel.size)⟩
#print axioms rmake_8
end Go.Proofs.Ytinncmljffcobaa
