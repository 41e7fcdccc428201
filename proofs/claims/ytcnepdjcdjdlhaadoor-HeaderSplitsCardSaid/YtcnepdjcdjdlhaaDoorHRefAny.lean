/- The document's own Read of a header tells what refP says: all ways together; told, of two headers that are alike. -/
import Derived.Test.YtcnepdjcdjdlhaaDoorHRefLong
import Derived.Test.YtcnepdjcdjdlhaaDoorHSame
import Derived.Test.YtcnepdjcdjdlhaaDoorHStep
namespace Go.Proofs.YtcnepdjcdjdlhaaDoor
open Go Go.RowKit

theorem refhead_any {w : World} {v : Value} {zs : List Int} (hr : Rd w v zs) (hp : Plain v) (hl : zs.length ≤ 1000000) :
    Calls Tryd.prog 18 #[v] w fun e w' => ∃ vt vf vk, e = .returned (.tuple #[.agg (hcells (refP zs).1 vt vf vk), .int .i64 ((refP zs).2.1 : Nat), .int .i64 (refP zs).2.2.1, .int .i64 (refP zs).2.2.2]) ∧ Hr w' (refP zs).1 vt vf vk ∧ Below w.heap.size w w' := by
  have hz := hr.byt
  obtain ⟨f, hf⟩ : ∃ f, inNumber 1 ⟨zs, 0, 0⟩ = f := ⟨_, rfl⟩
  have hbd := in1_bd hz 0 0
  rw [hf] at hbd
  by_cases hlt : f.1 < 192
  · obtain ⟨r1, h1⟩ : ∃ r, inNeed (decide (64 ≤ f.1) && decide (f.1 < 72)) 3 f.2 = r := ⟨_, rfl⟩
    obtain ⟨b, hb⟩ : ∃ b, inBytes 8 r1 = b := ⟨_, rfl⟩
    obtain ⟨n, hn⟩ : ∃ n, inNumber (f.1 % 4 + 1).toNat b.2 = n := ⟨_, rfl⟩
    have hR : refP zs = if n.2.e = 0 then (⟨3, 0, b.1, [], [], f.1 / 4 % 2, n.1, f.1 % 4 + 1⟩, n.2.t, (zs.length : Int), 0) else (Hv.empty, 0, 0, n.2.e) := by
      unfold refP
      rw [hf, if_pos hlt]
      unfold refShort
      simp only [hf, h1, hb, hn]
    have hx : (64 ≤ f.1 ∧ decide (f.1 < 72) = (decide (64 ≤ f.1) && decide (f.1 < 72))) ∨ (f.1 < 64 ∧ (decide (64 ≤ f.1) && decide (f.1 < 72)) = false) := by
      by_cases h : 64 ≤ f.1
      · exact .inl ⟨h, by simp [h]⟩
      · exact .inr ⟨by omega, by simp [h]⟩
    have h := refshortW hr hp hl f n r1 b _ hx hf h1 hb hn hlt
    rw [hR]
    by_cases hE : n.2.e = 0
    · simp only [if_pos hE] at h ⊢; exact h
    · simp only [if_neg hE] at h ⊢; exact h
  · have hge : 192 ≤ f.1 := by omega
    obtain ⟨r1, h1⟩ : ∃ r, inNeed (decide (f.1 % 16 < 4) && decide ((f.1 - 192) / 16 < 3)) 3 f.2 = r := ⟨_, rfl⟩
    obtain ⟨v1, hv⟩ : ∃ b, inNumber 4 r1 = b := ⟨_, rfl⟩
    obtain ⟨r2, h2⟩ : ∃ b, inNeed (decide (0 < v1.1)) 3 v1.2 = b := ⟨_, rfl⟩
    obtain ⟨a, ha⟩ : ∃ b, inNumber 1 r2 = b := ⟨_, rfl⟩
    obtain ⟨to, hto⟩ : ∃ b, inMost a.1.toNat 20 a.2 = b := ⟨_, rfl⟩
    obtain ⟨c, hc⟩ : ∃ b, inNumber 1 to.2 = b := ⟨_, rfl⟩
    obtain ⟨fr, hfr⟩ : ∃ b, inMost c.1.toNat 20 c.2 = b := ⟨_, rfl⟩
    have hx : (f.1 % 16 < 4 ∧ decide ((f.1 - 192) / 16 < 3) = (decide (f.1 % 16 < 4) && decide ((f.1 - 192) / 16 < 3))) ∨ (4 ≤ f.1 % 16 ∧ (decide (f.1 % 16 < 4) && decide ((f.1 - 192) / 16 < 3)) = false) := by
      by_cases h : f.1 % 16 < 4
      · exact .inl ⟨h, by simp [h]⟩
      · exact .inr ⟨by omega, by simp [h]⟩
    by_cases hK : (f.1 - 192) / 16 = 0
    · obtain ⟨g, hg⟩ : ∃ b, inVarint fr.2 = b := ⟨_, rfl⟩
      obtain ⟨tk, htk⟩ : ∃ b, inMost g.1.toNat 64 g.2 = b := ⟨_, rfl⟩
      obtain ⟨n, hn⟩ : ∃ b, inVarint tk.2 = b := ⟨_, rfl⟩
      obtain ⟨r3, h3⟩ : ∃ b, inNeed (decide (f.1 % 4 + 1 ≤ n.1)) 3 n.2 = b := ⟨_, rfl⟩
      obtain ⟨r4, h4⟩ : ∃ b, inNeed (decide (n.1 ≤ (zs.length : Int) - r3.t)) 2 r3 = b := ⟨_, rfl⟩
      obtain ⟨num, hnum⟩ : ∃ b, inNumber (f.1 % 4 + 1).toNat r4 = b := ⟨_, rfl⟩
      have hR : refP zs = if num.2.e = 0 then (⟨(f.1 - 192) / 16, v1.1, to.1, fr.1, tk.1, 0, num.1, f.1 % 4 + 1⟩, num.2.t, (r4.t : Int) + n.1, 0) else (Hv.empty, 0, 0, num.2.e) := by
        unfold refP
        rw [hf, if_neg hlt]
        unfold refLong
        simp only [hf, h1, hv, h2, ha, hto, hc, hfr, if_pos hK, hg, htk, hn, h3, h4, hnum]
      have h := reflong0W hr hp hl f v1 a c n num r1 r2 r3 r4 to fr g tk _ hx hf h1 hv h2 ha hto hc hfr hg htk hn h3 h4 hnum hge hK
      rw [hR]
      by_cases hE : num.2.e = 0
      · simp only [if_pos hE] at h ⊢; exact h
      · simp only [if_neg hE] at h ⊢; exact h
    · obtain ⟨n, hn⟩ : ∃ b, inVarint fr.2 = b := ⟨_, rfl⟩
      obtain ⟨r3, h3⟩ : ∃ b, inNeed (decide (f.1 % 4 + 1 ≤ n.1)) 3 n.2 = b := ⟨_, rfl⟩
      obtain ⟨r4, h4⟩ : ∃ b, inNeed (decide (n.1 ≤ (zs.length : Int) - r3.t)) 2 r3 = b := ⟨_, rfl⟩
      obtain ⟨num, hnum⟩ : ∃ b, inNumber (f.1 % 4 + 1).toNat r4 = b := ⟨_, rfl⟩
      have hR : refP zs = if num.2.e = 0 then (⟨(f.1 - 192) / 16, v1.1, to.1, fr.1, [], 0, num.1, f.1 % 4 + 1⟩, num.2.t, (r4.t : Int) + n.1, 0) else (Hv.empty, 0, 0, num.2.e) := by
        unfold refP
        rw [hf, if_neg hlt]
        unfold refLong
        simp only [hf, h1, hv, h2, ha, hto, hc, hfr, if_neg hK, hn, h3, h4, hnum]
      have h := reflong1W hr hp hl f v1 a c n num r1 r2 r3 r4 to fr _ hx hf h1 hv h2 ha hto hc hfr hn h3 h4 hnum hge hK
      rw [hR]
      by_cases hE : num.2.e = 0
      · simp only [if_pos hE] at h ⊢; exact h
      · simp only [if_neg hE] at h ⊢; exact h

theorem row_keep {w w' : World} {B : Nat} {o : Obj} (hb : Below w.heap.size w w') (h : w.heap[B]? = some o) : w'.heap[B]? = some o := by
  rw [hb.block B (Array.getElem?_eq_some_iff.1 h).1]; exact h
/-- told: of headers that are alike. -/
theorem eq_self (a : Int) : (a == a) = true := by simp
set_option maxRecDepth 20000 in
set_option maxHeartbeats 2000000 in
theorem told_true {w : World} (h : Hv) {vt vf vk ut uf uk : Value} (h1 : Hr w h vt vf vk) (h2 : Hr w h ut uf uk) :
    Calls Tryd.prog 19 #[.agg (hcells h vt vf vk), .agg (hcells h ut uf uk)] w fun e w' => e = .returned (.bool true) ∧ Below w.heap.size w w' := by
  obtain ⟨a1, n1, c1, rfl⟩ := h1.to.shape3
  obtain ⟨a2, n2, c2, rfl⟩ := h1.fr.shape3
  obtain ⟨a3, n3, c3, rfl⟩ := h1.tk.shape3
  obtain ⟨b1, m1, d1, rfl⟩ := h2.to.shape3
  obtain ⟨b2, m2, d2, rfl⟩ := h2.fr.shape3
  obtain ⟨b3, m3, d3, rfl⟩ := h2.tk.shape3
  have hB := (below_alloc w (.cells (hcells h (.slice a1 n1 c1) (.slice a2 n2 c2) (.slice a3 n3 c3)) 26)).alloc (by simp) (.cells (hcells h (.slice b1 m1 d1) (.slice b2 m2 d2) (.slice b3 m3 d3)) 24)
  have hX := (Below.heap_alloc (w.alloc (.cells (hcells h (.slice a1 n1 c1) (.slice a2 n2 c2) (.slice a3 n3 c3)) 26)) (.cells (hcells h (.slice b1 m1 d1) (.slice b2 m2 d2) (.slice b3 m3 d3)) 24) w.heap.size (by simp)).trans (heap_alloc_new _ _)
  have hY := heap_alloc2_new w (.cells (hcells h (.slice a1 n1 c1) (.slice a2 n2 c2) (.slice a3 n3 c3)) 26) (.cells (hcells h (.slice b1 m1 d1) (.slice b2 m2 d2) (.slice b3 m3 d3)) 24)
  unfold hcells at *
  have H1 := Lib.hid h1
  have H2 := Lib.hid h2
  have HX := Lib.hid hX
  have HY := Lib.hid hY
  have HB := Lib.hid hB
  have hs := eq_self
  clear h1 h2 hX hY hB
  go_enter Tryd.func19, Tryd.ntmps19
  go_wp2_with fail
  refine (same_true (H1.out.to.below HB.out) (H2.out.to.below HB.out)).mono ?_
  rintro e w1 ⟨rfl, hb1⟩
  have HX1 := Lib.hid (row_keep hb1 HX.out)
  have HY1 := Lib.hid (row_keep hb1 HY.out)
  have HB1 := Lib.hid (HB.out.trans (hb1.mono HB.out.size))
  have hx1 := fun i => cell_of_row w1 w.heap.size i _ 26 (0, 0) HX1.out
  have hy1 := fun i => cell_of_row w1 (w.heap.size + 1) i _ 24 (0, 0) HY1.out
  have x3 := hx1 3
  have y3 := hy1 3
  clear hx1 hy1 hb1
  go_wp2_with fail
  refine (same_true (H1.out.fr.below HB1.out) (H2.out.fr.below HB1.out)).mono ?_
  rintro e w2 ⟨rfl, hb2⟩
  have HX2 := Lib.hid (row_keep hb2 HX1.out)
  have HY2 := Lib.hid (row_keep hb2 HY1.out)
  have HB2 := Lib.hid (HB1.out.trans (hb2.mono HB1.out.size))
  have hx1 := fun i => cell_of_row w2 w.heap.size i _ 26 (0, 0) HX2.out
  have hy1 := fun i => cell_of_row w2 (w.heap.size + 1) i _ 24 (0, 0) HY2.out
  have x4 := hx1 4
  have y4 := hy1 4
  clear hx1 hy1 hb2 x3 y3
  go_wp2_with fail
  refine (same_true (H1.out.tk.below HB2.out) (H2.out.tk.below HB2.out)).mono ?_
  rintro e w3 ⟨rfl, hb3⟩
  have HX3 := Lib.hid (row_keep hb3 HX2.out)
  have HY3 := Lib.hid (row_keep hb3 HY2.out)
  have HB3 := Lib.hid (HB2.out.trans (hb3.mono HB2.out.size))
  have hx1 := fun i => cell_of_row w3 w.heap.size i _ 26 (0, 0) HX3.out
  have hy1 := fun i => cell_of_row w3 (w.heap.size + 1) i _ 24 (0, 0) HY3.out
  have x5 := hx1 5
  have y5 := hy1 5
  have x6 := hx1 6
  have y6 := hy1 6
  have x7 := hx1 7
  have y7 := hy1 7
  clear hx1 hy1 hb3 x4 y4
  go_wp2_with fail
  go_ret
  exact ⟨rfl, HB3.out⟩
#print axioms refhead_any
#print axioms told_true
end Go.Proofs.YtcnepdjcdjdlhaaDoor
