/- special: what is written is read as it was: the walk. -/
import Derived.Test.YtjdlmmbkppaenaaQBackR
namespace Go.Proofs.Ytjdlmmbkppaenaa
open Go Go.RowKit

set_option maxRecDepth 20000 in
set_option maxHeartbeats 8000000 in
theorem back_ok {w : World} {a2 a3 ai d2 d3 : Option Addr} {c2 c3 ci e2 e3 : Nat} {to fr vs tp fp : List Int} {ver tok tag : Int}
    (h2 : Rd w (.slice a2 to.length c2) to) (h3 : Rd w (.slice a3 fr.length c3) fr) (hi : Ri w (.slice ai vs.length ci) vs) (k2 : Rd w (.slice d2 tp.length e2) tp) (k3 : Rd w (.slice d3 fp.length e3) fp)
    (l2 : to.length ≤ 50) (l3 : fr.length ≤ 50) (li : vs.length ≤ 30) (m2 : tp.length ≤ 50) (m3 : fp.length ≤ 50) :
    Calls Try.prog 5 #[.agg #[.slice a2 to.length c2, .slice a3 fr.length c3, .slice ai vs.length ci], .agg #[.int .i64 ver, .slice d2 tp.length e2, .slice d3 fp.length e3, .int .i64 tok, .int .i64 tag]] w fun e w' => e = .returned (.bool true) ∧ Below w.heap.size w w' := by
  obtain ⟨W, hW⟩ : ∃ W, (w.alloc (.cells #[.slice a2 to.length c2, .slice a3 fr.length c3, .slice ai vs.length ci] 25)).alloc (.cells #[.int .i64 ver, .slice d2 tp.length e2, .slice d3 fp.length e3, .int .i64 tok, .int .i64 tag] 27) = W := ⟨_, rfl⟩
  have hB : Below w.heap.size w W.drew := by rw [← hW]; exact (((Below.refl _ _).alloc (Nat.le_refl _) _).alloc (by simp) _).drew
  have x0 : W.heap[w.heap.size]? = some (.cells #[.slice a2 to.length c2, .slice a3 fr.length c3, .slice ai vs.length ci] 25 (0, 0)) := by
    rw [← hW]
    exact ((below_alloc (w.alloc (.cells #[.slice a2 to.length c2, .slice a3 fr.length c3, .slice ai vs.length ci] 25)) _).block _ (by simp)).trans (heap_alloc_new w _)
  have x1 : W.heap[w.heap.size + 1]? = some (.cells #[.int .i64 ver, .slice d2 tp.length e2, .slice d3 fp.length e3, .int .i64 tok, .int .i64 tag] 27 (0, 0)) := by
    rw [← hW]
    have := heap_alloc_new (w.alloc (.cells #[.slice a2 to.length c2, .slice a3 fr.length c3, .slice ai vs.length ci] 25)) (.cells #[.int .i64 ver, .slice d2 tp.length e2, .slice d3 fp.length e3, .int .i64 tok, .int .i64 tag] 27)
    rw [World.size_alloc] at this
    exact this
  have hx : W.drew.cell? ⟨w.heap.size, 0, none⟩ = some (.slice a2 to.length c2) ∧ W.drew.cell? ⟨w.heap.size, 1, none⟩ = some (.slice a3 fr.length c3) ∧ W.drew.cell? ⟨w.heap.size, 2, none⟩ = some (.slice ai vs.length ci) ∧ W.drew.cell? ⟨w.heap.size + 1, 0, none⟩ = some (.int .i64 ver) ∧ W.drew.cell? ⟨w.heap.size + 1, 1, none⟩ = some (.slice d2 tp.length e2) ∧ W.drew.cell? ⟨w.heap.size + 1, 2, none⟩ = some (.slice d3 fp.length e3) ∧ W.drew.cell? ⟨w.heap.size + 1, 3, none⟩ = some (.int .i64 tok) ∧ W.drew.cell? ⟨w.heap.size + 1, 4, none⟩ = some (.int .i64 tag) :=
    ⟨(cell_of_row _ w.heap.size 0 _ _ (0, 0) x0).trans rfl, (cell_of_row _ w.heap.size 1 _ _ (0, 0) x0).trans rfl, (cell_of_row _ w.heap.size 2 _ _ (0, 0) x0).trans rfl, (cell_of_row _ (w.heap.size + 1) 0 _ _ (0, 0) x1).trans rfl, (cell_of_row _ (w.heap.size + 1) 1 _ _ (0, 0) x1).trans rfl, (cell_of_row _ (w.heap.size + 1) 2 _ _ (0, 0) x1).trans rfl, (cell_of_row _ (w.heap.size + 1) 3 _ _ (0, 0) x1).trans rfl, (cell_of_row _ (w.heap.size + 1) 4 _ _ (0, 0) x1).trans rfl⟩
  obtain ⟨y0, y1, y2, y3, y4, y5, y6, y7⟩ := (show W.cell? ⟨w.heap.size, 0, none⟩ = some (.slice a2 to.length c2) ∧ W.cell? ⟨w.heap.size, 1, none⟩ = some (.slice a3 fr.length c3) ∧ W.cell? ⟨w.heap.size, 2, none⟩ = some (.slice ai vs.length ci) ∧ W.cell? ⟨w.heap.size + 1, 0, none⟩ = some (.int .i64 ver) ∧ W.cell? ⟨w.heap.size + 1, 1, none⟩ = some (.slice d2 tp.length e2) ∧ W.cell? ⟨w.heap.size + 1, 2, none⟩ = some (.slice d3 fp.length e3) ∧ W.cell? ⟨w.heap.size + 1, 3, none⟩ = some (.int .i64 tok) ∧ W.cell? ⟨w.heap.size + 1, 4, none⟩ = some (.int .i64 tag) from hx)
  have l2' : (to.length : Int) ≤ 50 := by omega
  have l3' : (fr.length : Int) ≤ 50 := by omega
  have li' : (vs.length : Int) ≤ 30 := by omega
  have m2' : (tp.length : Int) ≤ 50 := by omega
  have m3' : (fp.length : Int) ≤ 50 := by omega
  have HR := Lib.hid (And.intro h2 (And.intro h3 hi))
  have HQ := Lib.hid (And.intro k2 k3)
  have HB := Lib.hid (show Below w.heap.size w W from ⟨hB.os, hB.tape, hB.output, hB.size, hB.block⟩)
  have HY := Lib.hid hx
  have HM : Hid (to.length ≤ 1000 ∧ fr.length ≤ 1000 ∧ vs.length ≤ 1000 ∧ tp.length ≤ 1000 ∧ fp.length ≤ 1000) := Lib.hid (by omega)
  have HM5 : Hid (vs.length ≤ 100000) := Lib.hid (by omega)
  clear x0 x1 h2 h3 hi k2 k3 l2 l3 li m2 m3
  go_enter Try.func5, Try.ntmps5
  go_wp2_with fail
  refine (list_any (HR.out.1.below HB.out) (HR.out.2.1.below HB.out) (HR.out.2.2.below HB.out) HM.out.1 HM.out.2.1 HM.out.2.2.1).mono ?_
  rintro e w1 ⟨u2, u3, ui, rfl, ⟨r2, r3, ri⟩, b1⟩
  obtain ⟨f2, g2, rfl⟩ := r2.shape
  obtain ⟨f3, g3, rfl⟩ := r3.shape
  obtain ⟨fi, gi, rfl⟩ := ri.shape
  have B1 := Lib.hid (HB.out.trans (b1.mono HB.out.size))
  have HY1 := Lib.hid (kept8 (show Below W.heap.size W w1 from b1) HY.out)
  have hw := writelist_p r2 r3 ri HM5.out
  clear hW y0 y1 y2 y3 y4 y5 y6 y7 hx hB b1 r2 r3 ri
  cases hb : listB to fr vs with
  | false =>
    rw [listW_no hb] at hw
    go_wp2_with fail
    refine hw.mono ?_
    rintro e wq ⟨v', rfl, ⟨rw', pw⟩, b2⟩
    obtain ⟨f, g, rfl⟩ := rw'.shape
    have BQ := Lib.hid (B1.out.trans (b2.mono B1.out.size))
    have HYQ := Lib.hid (kept8 b2 HY1.out)
    obtain ⟨y0, y1, y2, y3, y4, y5, y6, y7⟩ := HYQ.out
    clear b2 hw
    go_wp2_with fail
    have hr7 := retry_any (ver := ver) (tok := tok) (tag := tag) (HQ.out.1.below BQ.out) (HQ.out.2.below BQ.out) HM.out.2.2.2.1 HM.out.2.2.2.2
    refine hr7.mono ?_
    rintro e w7 ⟨u5, u6, rfl, ⟨q5, q6⟩, b7⟩
    obtain ⟨f5, g5, rfl⟩ := q5.shape
    obtain ⟨f6, g6, rfl⟩ := q6.shape
    have B7 := Lib.hid (BQ.out.trans (b7.mono BQ.out.size))
    have HY7 := Lib.hid (kept8 b7 HYQ.out)
    have hv := writeretry_p (ver := ver) (tok := tok) (tag := tag) q5 q6
    clear b7 q5 q6 hr7 y0 y1 y2 y3 y4 y5 y6 y7
    cases hc : retryB ver tp fp tok tag with
    | false =>
      rw [retryW_no hc] at hv
      go_wp2_with fail
      refine hv.mono ?_
      rintro e w8 ⟨v', rfl, ⟨rv', pv⟩, b8⟩
      obtain ⟨h, k, rfl⟩ := rv'.shape
      have B8 := Lib.hid (B7.out.trans (b8.mono B7.out.size))
      clear b8 hv
      go_wp2_with fail
      refine (qawake_any _).mono ?_
      rintro e w9 ⟨rfl, b9⟩
      go_wp2_with fail
      go_ret
      exact ⟨rfl, B8.out.trans (b9.mono B8.out.size)⟩
    | true =>
      have hps2 : (0 : Int) < ((retryW ver tp fp tok tag).length : Int) := by have := retryW_pos hc; omega
      go_wp2_with fail
      refine hv.mono ?_
      rintro e w8 ⟨v', rfl, ⟨rv', pv⟩, b8⟩
      have C8 := Lib.hid (retry_reads hc rv' pv).1
      obtain ⟨h, k, rfl⟩ := rv'.shape
      have B8 := Lib.hid (B7.out.trans (b8.mono B7.out.size))
      have HY8 := Lib.hid (kept8 b8 HY7.out)
      have RV := Lib.hid rv'
      have PV := Lib.hid pv
      have HCC := Lib.hid hc
      clear b8 hv rv' pv hc
      go_wp2_with fail
      refine C8.out.mono ?_
      rintro e w9 ⟨vt1, vf1, rfl, ⟨rt1, rf1⟩, b9⟩
      obtain ⟨bt1, et1, rfl⟩ := rt1.shape
      obtain ⟨bf1, ef1, rfl⟩ := rf1.shape
      have bx := b9.alloc b9.size (.cells #[.int .i64 ver, .slice bt1 tp.length et1, .slice bf1 fp.length ef1, .int .i64 tok, .int .i64 tag] 36)
      have B9 := Lib.hid (B8.out.trans (bx.mono B8.out.size))
      have HY9 := Lib.hid (kept8 bx HY8.out)
      have L9 := Lib.hid (And.intro (rt1.alloc (.cells #[.int .i64 ver, .slice bt1 tp.length et1, .slice bf1 fp.length ef1, .int .i64 tok, .int .i64 tag] 36)) (rf1.alloc (.cells #[.int .i64 ver, .slice bt1 tp.length et1, .slice bf1 fp.length ef1, .int .i64 tok, .int .i64 tag] 36)))
      have H9 := Lib.hid (heap_alloc_new w9 (.cells #[.int .i64 ver, .slice bt1 tp.length et1, .slice bf1 fp.length ef1, .int .i64 tok, .int .i64 tag] 36))
      have S9 : Hid (w9.heap.size < (w9.alloc (.cells #[.int .i64 ver, .slice bt1 tp.length et1, .slice bf1 fp.length ef1, .int .i64 tok, .int .i64 tag] 36)).heap.size) := Lib.hid (by simp)
      have C9 := Lib.hid (retry_reads HCC.out (RV.out.below bx) PV.out).2
      clear C8 rt1 rf1 b9 bx
      go_wp2_with fail
      obtain ⟨X9, hX9⟩ : ∃ X, w9.alloc (.cells #[.int .i64 ver, .slice bt1 tp.length et1, .slice bf1 fp.length ef1, .int .i64 tok, .int .i64 tag] 36) = X := ⟨_, rfl⟩
      rw [hX9] at B9 HY9 L9 H9 S9 C9 ⊢
      clear hX9
      refine C9.out.mono ?_
      rintro e w10 ⟨vt2, vf2, vi2, rfl, ⟨rt2, rf2, ri2⟩, b10⟩
      obtain ⟨bt2, et2, rfl⟩ := rt2.shape
      obtain ⟨bf2, ef2, rfl⟩ := rf2.shape
      obtain ⟨bi2, ei2, rfl⟩ := ri2.shape
      clear rt2 rf2 ri2
      replace b10 := b10.alloc b10.size (.cells #[.slice bt2 0 et2, .slice bf2 0 ef2, .slice bi2 0 ei2] 30)
      have B10 := Lib.hid (B9.out.trans (b10.mono B9.out.size))
      have HY10 := Lib.hid (kept8 b10 HY9.out)
      have hl10 := retried_any ver tok tag (L9.out.1.below b10) (L9.out.2.below b10) (HQ.out.1.below B10.out) (HQ.out.2.below B10.out)
      obtain ⟨y0, y1, y2, y3, y4, y5, y6, y7⟩ := HY10.out
      obtain ⟨x0, x1, x2, x3, x4, _⟩ := cells5 ((b10.block _ S9.out).trans H9.out)
      clear C9 b10
      go_wp2_with fail
      refine hl10.mono ?_
      rintro e w11 ⟨rfl, b11⟩
      have B11 := Lib.hid (B10.out.trans (b11.mono B10.out.size))
      clear y0 y1 y2 y3 y4 y5 y6 y7 x0 x1 x2 x3 x4 hl10 b11
      go_wp2_with fail
      refine (qawake_any _).mono ?_
      rintro e w12 ⟨rfl, b12⟩
      go_wp2_with fail
      go_ret
      exact ⟨rfl, B11.out.trans (b12.mono B11.out.size)⟩
  | true =>
    have hpos : (0 : Int) < ((listW to fr vs).length : Int) := by have := listW_pos hb; omega
    go_wp2_with fail
    refine hw.mono ?_
    rintro e w2 ⟨v', rfl, ⟨rw', pw⟩, b2⟩
    have C2 := Lib.hid (list_reads hb rw' pw).1
    obtain ⟨f, g, rfl⟩ := rw'.shape
    have B2 := Lib.hid (B1.out.trans (b2.mono B1.out.size))
    have HY2 := Lib.hid (kept8 b2 HY1.out)
    have RW := Lib.hid rw'
    have PW := Lib.hid pw
    have HBB := Lib.hid hb
    clear b2 hw rw' pw hb
    go_wp2_with fail
    refine C2.out.mono ?_
    rintro e w3 ⟨vt1, vf1, vi1, rfl, ⟨rt1, rf1, ri1⟩, b3⟩
    obtain ⟨at1, dt1, rfl⟩ := rt1.shape
    obtain ⟨af1, df1, rfl⟩ := rf1.shape
    obtain ⟨ai1, di1, rfl⟩ := ri1.shape
    have bx := b3.alloc b3.size (.cells #[.slice at1 to.length dt1, .slice af1 fr.length df1, .slice ai1 vs.length di1] 30)
    have B3 := Lib.hid (B2.out.trans (bx.mono B2.out.size))
    have HY3 := Lib.hid (kept8 bx HY2.out)
    have L3 := Lib.hid (And.intro (rt1.alloc (.cells #[.slice at1 to.length dt1, .slice af1 fr.length df1, .slice ai1 vs.length di1] 30)) (And.intro (rf1.alloc (.cells #[.slice at1 to.length dt1, .slice af1 fr.length df1, .slice ai1 vs.length di1] 30)) (ri1.below (below_alloc w3 (.cells #[.slice at1 to.length dt1, .slice af1 fr.length df1, .slice ai1 vs.length di1] 30)))))
    have H3 := Lib.hid (heap_alloc_new w3 (.cells #[.slice at1 to.length dt1, .slice af1 fr.length df1, .slice ai1 vs.length di1] 30))
    have S3 : Hid (w3.heap.size < (w3.alloc (.cells #[.slice at1 to.length dt1, .slice af1 fr.length df1, .slice ai1 vs.length di1] 30)).heap.size) := Lib.hid (by simp)
    have C3 := Lib.hid (list_reads HBB.out (RW.out.below bx) PW.out).2
    clear C2 rt1 rf1 ri1 b3 bx
    go_wp2_with fail
    obtain ⟨X3, hX3⟩ : ∃ X, w3.alloc (.cells #[.slice at1 to.length dt1, .slice af1 fr.length df1, .slice ai1 vs.length di1] 30) = X := ⟨_, rfl⟩
    rw [hX3] at B3 HY3 L3 H3 S3 C3 ⊢
    clear hX3
    refine C3.out.mono ?_
    rintro e w4 ⟨vt2, vf2, rfl, ⟨rt2, rf2⟩, b4⟩
    obtain ⟨bt, et, rfl⟩ := rt2.shape
    obtain ⟨bf, ef, rfl⟩ := rf2.shape
    clear rt2 rf2
    replace b4 := b4.alloc b4.size (.cells #[.int .i64 0, .slice bt 0 et, .slice bf 0 ef, .int .i64 0, .int .i64 0] 36)
    have B4 := Lib.hid (B3.out.trans (b4.mono B3.out.size))
    have HY4 := Lib.hid (kept8 b4 HY3.out)
    have hl4 := listed_any (L3.out.1.below b4) (L3.out.2.1.below b4) (L3.out.2.2.below b4) (HR.out.1.below B4.out) (HR.out.2.1.below B4.out) (HR.out.2.2.below B4.out) HM.out.2.2.1
    obtain ⟨y0, y1, y2, y3, y4, y5, y6, y7⟩ := HY4.out
    obtain ⟨x0, x1, x2, _⟩ := cellsL3 ((b4.block _ S3.out).trans H3.out)
    clear C3 b4
    go_wp2_with fail
    refine hl4.mono ?_
    rintro e wq ⟨rfl, b5⟩
    have BQ := Lib.hid (B4.out.trans (b5.mono B4.out.size))
    have HYQ := Lib.hid (kept8 b5 HY4.out)
    clear y0 y1 y2 y3 y4 y5 y6 y7 x0 x1 x2 hl4 b5
    obtain ⟨y0, y1, y2, y3, y4, y5, y6, y7⟩ := HYQ.out
    go_wp2_with fail
    have hr7 := retry_any (ver := ver) (tok := tok) (tag := tag) (HQ.out.1.below BQ.out) (HQ.out.2.below BQ.out) HM.out.2.2.2.1 HM.out.2.2.2.2
    refine hr7.mono ?_
    rintro e w7 ⟨u5, u6, rfl, ⟨q5, q6⟩, b7⟩
    obtain ⟨f5, g5, rfl⟩ := q5.shape
    obtain ⟨f6, g6, rfl⟩ := q6.shape
    have B7 := Lib.hid (BQ.out.trans (b7.mono BQ.out.size))
    have HY7 := Lib.hid (kept8 b7 HYQ.out)
    have hv := writeretry_p (ver := ver) (tok := tok) (tag := tag) q5 q6
    clear b7 q5 q6 hr7 y0 y1 y2 y3 y4 y5 y6 y7
    cases hc : retryB ver tp fp tok tag with
    | false =>
      rw [retryW_no hc] at hv
      go_wp2_with fail
      refine hv.mono ?_
      rintro e w8 ⟨v', rfl, ⟨rv', pv⟩, b8⟩
      obtain ⟨h, k, rfl⟩ := rv'.shape
      have B8 := Lib.hid (B7.out.trans (b8.mono B7.out.size))
      clear b8 hv
      go_wp2_with fail
      refine (qawake_any _).mono ?_
      rintro e w9 ⟨rfl, b9⟩
      go_wp2_with fail
      go_ret
      exact ⟨rfl, B8.out.trans (b9.mono B8.out.size)⟩
    | true =>
      have hps2 : (0 : Int) < ((retryW ver tp fp tok tag).length : Int) := by have := retryW_pos hc; omega
      go_wp2_with fail
      refine hv.mono ?_
      rintro e w8 ⟨v', rfl, ⟨rv', pv⟩, b8⟩
      have C8 := Lib.hid (retry_reads hc rv' pv).1
      obtain ⟨h, k, rfl⟩ := rv'.shape
      have B8 := Lib.hid (B7.out.trans (b8.mono B7.out.size))
      have HY8 := Lib.hid (kept8 b8 HY7.out)
      have RV := Lib.hid rv'
      have PV := Lib.hid pv
      have HCC := Lib.hid hc
      clear b8 hv rv' pv hc
      go_wp2_with fail
      refine C8.out.mono ?_
      rintro e w9 ⟨vt1, vf1, rfl, ⟨rt1, rf1⟩, b9⟩
      obtain ⟨bt1, et1, rfl⟩ := rt1.shape
      obtain ⟨bf1, ef1, rfl⟩ := rf1.shape
      have bx := b9.alloc b9.size (.cells #[.int .i64 ver, .slice bt1 tp.length et1, .slice bf1 fp.length ef1, .int .i64 tok, .int .i64 tag] 36)
      have B9 := Lib.hid (B8.out.trans (bx.mono B8.out.size))
      have HY9 := Lib.hid (kept8 bx HY8.out)
      have L9 := Lib.hid (And.intro (rt1.alloc (.cells #[.int .i64 ver, .slice bt1 tp.length et1, .slice bf1 fp.length ef1, .int .i64 tok, .int .i64 tag] 36)) (rf1.alloc (.cells #[.int .i64 ver, .slice bt1 tp.length et1, .slice bf1 fp.length ef1, .int .i64 tok, .int .i64 tag] 36)))
      have H9 := Lib.hid (heap_alloc_new w9 (.cells #[.int .i64 ver, .slice bt1 tp.length et1, .slice bf1 fp.length ef1, .int .i64 tok, .int .i64 tag] 36))
      have S9 : Hid (w9.heap.size < (w9.alloc (.cells #[.int .i64 ver, .slice bt1 tp.length et1, .slice bf1 fp.length ef1, .int .i64 tok, .int .i64 tag] 36)).heap.size) := Lib.hid (by simp)
      have C9 := Lib.hid (retry_reads HCC.out (RV.out.below bx) PV.out).2
      clear C8 rt1 rf1 b9 bx
      go_wp2_with fail
      obtain ⟨X9, hX9⟩ : ∃ X, w9.alloc (.cells #[.int .i64 ver, .slice bt1 tp.length et1, .slice bf1 fp.length ef1, .int .i64 tok, .int .i64 tag] 36) = X := ⟨_, rfl⟩
      rw [hX9] at B9 HY9 L9 H9 S9 C9 ⊢
      clear hX9
      refine C9.out.mono ?_
      rintro e w10 ⟨vt2, vf2, vi2, rfl, ⟨rt2, rf2, ri2⟩, b10⟩
      obtain ⟨bt2, et2, rfl⟩ := rt2.shape
      obtain ⟨bf2, ef2, rfl⟩ := rf2.shape
      obtain ⟨bi2, ei2, rfl⟩ := ri2.shape
      clear rt2 rf2 ri2
      replace b10 := b10.alloc b10.size (.cells #[.slice bt2 0 et2, .slice bf2 0 ef2, .slice bi2 0 ei2] 30)
      have B10 := Lib.hid (B9.out.trans (b10.mono B9.out.size))
      have HY10 := Lib.hid (kept8 b10 HY9.out)
      have hl10 := retried_any ver tok tag (L9.out.1.below b10) (L9.out.2.below b10) (HQ.out.1.below B10.out) (HQ.out.2.below B10.out)
      obtain ⟨y0, y1, y2, y3, y4, y5, y6, y7⟩ := HY10.out
      obtain ⟨x0, x1, x2, x3, x4, _⟩ := cells5 ((b10.block _ S9.out).trans H9.out)
      clear C9 b10
      go_wp2_with fail
      refine hl10.mono ?_
      rintro e w11 ⟨rfl, b11⟩
      have B11 := Lib.hid (B10.out.trans (b11.mono B10.out.size))
      clear y0 y1 y2 y3 y4 y5 y6 y7 x0 x1 x2 x3 x4 hl10 b11
      go_wp2_with fail
      refine (qawake_any _).mono ?_
      rintro e w12 ⟨rfl, b12⟩
      go_wp2_with fail
      go_ret
      exact ⟨rfl, B11.out.trans (b12.mono B11.out.size)⟩
set_option maxRecDepth 20000 in
set_option maxHeartbeats 2000000 in
theorem back_long {w : World} {a2 a3 ai d2 d3 : Option Addr} {n2 n3 ni m2 m3 c2 c3 ci e2 e3 : Nat} {ver tok tag : Int} (h : 50 < n2 ∨ 50 < n3 ∨ 30 < ni ∨ 50 < m2 ∨ 50 < m3) :
    Calls Try.prog 5 #[.agg #[.slice a2 n2 c2, .slice a3 n3 c3, .slice ai ni ci], .agg #[.int .i64 ver, .slice d2 m2 e2, .slice d3 m3 e3, .int .i64 tok, .int .i64 tag]] w fun e w' => e = .returned (.bool true) ∧ Below w.heap.size w w' := by
  have hB : Below w.heap.size w ((w.alloc (.cells #[.slice a2 n2 c2, .slice a3 n3 c3, .slice ai ni ci] 25)).alloc (.cells #[.int .i64 ver, .slice d2 m2 e2, .slice d3 m3 e3, .int .i64 tok, .int .i64 tag] 27)) := ((Below.refl _ _).alloc (Nat.le_refl _) _).alloc (by simp) _
  by_cases h1 : (50 : Int) < (n2 : Int)
  · clear h
    go_enter Try.func5, Try.ntmps5
    go_wp2_with fail
    go_ret
    exact ⟨rfl, hB⟩
  by_cases h2 : (50 : Int) < (n3 : Int)
  · clear h
    go_enter Try.func5, Try.ntmps5
    go_wp2_with fail
    go_ret
    exact ⟨rfl, hB⟩
  by_cases h3 : (30 : Int) < (ni : Int)
  · clear h
    go_enter Try.func5, Try.ntmps5
    go_wp2_with fail
    go_ret
    exact ⟨rfl, hB⟩
  by_cases h4 : (50 : Int) < (m2 : Int)
  · clear h
    go_enter Try.func5, Try.ntmps5
    go_wp2_with fail
    go_ret
    exact ⟨rfl, hB⟩
  have h5 : (50 : Int) < (m3 : Int) := by omega
  clear h
  go_enter Try.func5, Try.ntmps5
  go_wp2_with fail
  go_ret
  exact ⟨rfl, hB⟩
/-- The law. -/
theorem back_walk {w : World} {a2 a3 ai d2 d3 : Option Addr} {c2 c3 ci e2 e3 : Nat} {to fr vs tp fp : List Int} {ver tok tag : Int}
    (h2 : Rd w (.slice a2 to.length c2) to) (h3 : Rd w (.slice a3 fr.length c3) fr) (hi : Ri w (.slice ai vs.length ci) vs) (k2 : Rd w (.slice d2 tp.length e2) tp) (k3 : Rd w (.slice d3 fp.length e3) fp) :
    Calls Try.prog 5 #[.agg #[.slice a2 to.length c2, .slice a3 fr.length c3, .slice ai vs.length ci], .agg #[.int .i64 ver, .slice d2 tp.length e2, .slice d3 fp.length e3, .int .i64 tok, .int .i64 tag]] w fun e w' => e = .returned (.bool true) ∧ Below w.heap.size w w' := by
  by_cases h : to.length ≤ 50 ∧ fr.length ≤ 50 ∧ vs.length ≤ 30 ∧ tp.length ≤ 50 ∧ fp.length ≤ 50
  · exact back_ok h2 h3 hi k2 k3 h.1 h.2.1 h.2.2.1 h.2.2.2.1 h.2.2.2.2
  · exact back_long (by omega)
end Go.Proofs.Ytjdlmmbkppaenaa
