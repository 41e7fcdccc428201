/- told, where a field is not alike, or all are. -/
import Derived.Test.YtmglhlfjddgllaaDoorPTh
namespace Go.Proofs.YtmglhlfjddgllaaDoor
open Go Go.RowKit

set_option maxRecDepth 20000 in
set_option maxHeartbeats 8000000 in
theorem told_no4 {w : World} {a b : Pv} {u5 u6 u7 u9 v5 v6 v7 v9 : Value} (h : Pr w a u5 u6 u7 u9) (h' : Pr w b v5 v6 v7 v9) (_hl : b.l.length ≤ 100000) (e0 : (a.i == b.i) = true) (e1 : (a.d == b.d) = true) (e2 : (a.hg == b.hg) = true) (e3 : (a.ho == b.ho) = true) (e4 : (a.hr == b.hr) = false) :
    Calls Tryd.prog 18 #[pAgg a u5 u6 u7 u9, pAgg b v5 v6 v7 v9] w fun e w' => e = .returned (.bool (psameB a b)) ∧ Below w.heap.size w w' := by
  obtain ⟨a5, k5, rfl⟩ := h.g.shape
  obtain ⟨a6, k6, rfl⟩ := h.o.shape
  obtain ⟨a7, k7, rfl⟩ := h.r.shape
  obtain ⟨a9, k9, rfl⟩ := h.l.shape
  obtain ⟨b5, m5, rfl⟩ := h'.g.shape
  obtain ⟨b6, m6, rfl⟩ := h'.o.shape
  obtain ⟨b7, m7, rfl⟩ := h'.r.shape
  obtain ⟨b9, m9, rfl⟩ := h'.l.shape
  have hs0 : Tb w w.heap.size (w.heap.size + 1) (pCells a (.slice a5 a.g.length k5) (.slice a6 a.o.length k6) (.slice a7 a.r.length k7) (.slice a9 a.l.length k9)) (pCells b (.slice b5 b.g.length m5) (.slice b6 b.o.length m6) (.slice b7 b.r.length m7) (.slice b9 b.l.length m9)) ((w.alloc (.cells (pCells a (.slice a5 a.g.length k5) (.slice a6 a.o.length k6) (.slice a7 a.r.length k7) (.slice a9 a.l.length k9)) 27)).alloc (.cells (pCells b (.slice b5 b.g.length m5) (.slice b6 b.o.length m6) (.slice b7 b.r.length m7) (.slice b9 b.l.length m9)) 25)) :=
    ⟨(below_alloc w _).trans ((below_alloc _ _).mono (by simp)), by rw [(below_alloc _ _).block _ (by simp)]; exact heap_alloc_new w _, heap_alloc2_new w _ _⟩
  have HA := Lib.hid h
  have HB := Lib.hid h'
  obtain ⟨q, hq⟩ : ∃ q, psameB a b = q := ⟨_, rfl⟩
  have HQ := Lib.hid hq
  rw [hq]
  obtain ⟨X, hX⟩ : ∃ X, X = ((w.alloc (.cells (pCells a (.slice a5 a.g.length k5) (.slice a6 a.o.length k6) (.slice a7 a.r.length k7) (.slice a9 a.l.length k9)) 27)).alloc (.cells (pCells b (.slice b5 b.g.length m5) (.slice b6 b.o.length m6) (.slice b7 b.r.length m7) (.slice b9 b.l.length m9)) 25)) := ⟨_, rfl⟩
  rw [← hX] at hs0
  have s0 := hs0
  obtain ⟨x0, x1, x2, x3, x4, x5, x6, x7, x8, x9⟩ := pcells s0.ba
  obtain ⟨y0, y1, y2, y3, y4, y5, y6, y7, y8, y9⟩ := pcells s0.bb
  clear h h' hq hs0
  have n0 : (a.i != b.i) = false := by simp only [bne, e0]; rfl
  have n1 : (a.d != b.d) = false := by simp only [bne, e1]; rfl
  have n2 : (a.hg != b.hg) = false := by simp only [bne, e2]; rfl
  have n3 : (a.ho != b.ho) = false := by simp only [bne, e3]; rfl
  have n4 : (a.hr != b.hr) = true := by simp only [bne, e4]; rfl
  obtain rfl : q = false := by rw [← HQ.out]; simp only [psameB, e0, e1, e2, e3, e4, Bool.and_false, Bool.false_and]
  go_enter Tryd.func18, Tryd.ntmps18
  go_wp2_with fail
  rw [← hX]
  clear hX
  go_wp2_with fail
  go_ret
  exact ⟨rfl, s0.bel⟩
set_option maxRecDepth 20000 in
set_option maxHeartbeats 8000000 in
theorem told_no5 {w : World} {a b : Pv} {u5 u6 u7 u9 v5 v6 v7 v9 : Value} (h : Pr w a u5 u6 u7 u9) (h' : Pr w b v5 v6 v7 v9) (_hl : b.l.length ≤ 100000) (e0 : (a.i == b.i) = true) (e1 : (a.d == b.d) = true) (e2 : (a.hg == b.hg) = true) (e3 : (a.ho == b.ho) = true) (e4 : (a.hr == b.hr) = true) (e5 : decide (a.g = b.g) = false) :
    Calls Tryd.prog 18 #[pAgg a u5 u6 u7 u9, pAgg b v5 v6 v7 v9] w fun e w' => e = .returned (.bool (psameB a b)) ∧ Below w.heap.size w w' := by
  obtain ⟨a5, k5, rfl⟩ := h.g.shape
  obtain ⟨a6, k6, rfl⟩ := h.o.shape
  obtain ⟨a7, k7, rfl⟩ := h.r.shape
  obtain ⟨a9, k9, rfl⟩ := h.l.shape
  obtain ⟨b5, m5, rfl⟩ := h'.g.shape
  obtain ⟨b6, m6, rfl⟩ := h'.o.shape
  obtain ⟨b7, m7, rfl⟩ := h'.r.shape
  obtain ⟨b9, m9, rfl⟩ := h'.l.shape
  have hs0 : Tb w w.heap.size (w.heap.size + 1) (pCells a (.slice a5 a.g.length k5) (.slice a6 a.o.length k6) (.slice a7 a.r.length k7) (.slice a9 a.l.length k9)) (pCells b (.slice b5 b.g.length m5) (.slice b6 b.o.length m6) (.slice b7 b.r.length m7) (.slice b9 b.l.length m9)) ((w.alloc (.cells (pCells a (.slice a5 a.g.length k5) (.slice a6 a.o.length k6) (.slice a7 a.r.length k7) (.slice a9 a.l.length k9)) 27)).alloc (.cells (pCells b (.slice b5 b.g.length m5) (.slice b6 b.o.length m6) (.slice b7 b.r.length m7) (.slice b9 b.l.length m9)) 25)) :=
    ⟨(below_alloc w _).trans ((below_alloc _ _).mono (by simp)), by rw [(below_alloc _ _).block _ (by simp)]; exact heap_alloc_new w _, heap_alloc2_new w _ _⟩
  have HA := Lib.hid h
  have HB := Lib.hid h'
  obtain ⟨q, hq⟩ : ∃ q, psameB a b = q := ⟨_, rfl⟩
  have HQ := Lib.hid hq
  rw [hq]
  obtain ⟨X, hX⟩ : ∃ X, X = ((w.alloc (.cells (pCells a (.slice a5 a.g.length k5) (.slice a6 a.o.length k6) (.slice a7 a.r.length k7) (.slice a9 a.l.length k9)) 27)).alloc (.cells (pCells b (.slice b5 b.g.length m5) (.slice b6 b.o.length m6) (.slice b7 b.r.length m7) (.slice b9 b.l.length m9)) 25)) := ⟨_, rfl⟩
  rw [← hX] at hs0
  have s0 := hs0
  obtain ⟨x0, x1, x2, x3, x4, x5, x6, x7, x8, x9⟩ := pcells s0.ba
  obtain ⟨y0, y1, y2, y3, y4, y5, y6, y7, y8, y9⟩ := pcells s0.bb
  clear h h' hq hs0
  have n0 : (a.i != b.i) = false := by simp only [bne, e0]; rfl
  have n1 : (a.d != b.d) = false := by simp only [bne, e1]; rfl
  have n2 : (a.hg != b.hg) = false := by simp only [bne, e2]; rfl
  have n3 : (a.ho != b.ho) = false := by simp only [bne, e3]; rfl
  have n4 : (a.hr != b.hr) = false := by simp only [bne, e4]; rfl
  obtain rfl : q = false := by rw [← HQ.out]; simp only [psameB, e0, e1, e2, e3, e4, e5, Bool.and_false, Bool.false_and]
  go_enter Tryd.func18, Tryd.ntmps18
  go_wp2_with fail
  rw [← hX]
  clear hX
  go_wp2_with (first | (go_at_call 14; have cc := same_any (HA.out.g.below s0.bel) (HB.out.g.below s0.bel); rw [e5] at cc; refine cc.mono ?_; rintro e z1 ⟨rfl, b1⟩; have s1 := s0.below b1; have xx1_5 := (pcells s1.ba).2.2.2.2.2.1; have xx1_6 := (pcells s1.ba).2.2.2.2.2.2.1; have xx1_7 := (pcells s1.ba).2.2.2.2.2.2.2.1; have xx1_8 := (pcells s1.ba).2.2.2.2.2.2.2.2.1; have xx1_9 := (pcells s1.ba).2.2.2.2.2.2.2.2.2; have yy1_5 := (pcells s1.bb).2.2.2.2.2.1; have yy1_6 := (pcells s1.bb).2.2.2.2.2.2.1; have yy1_7 := (pcells s1.bb).2.2.2.2.2.2.2.1; have yy1_8 := (pcells s1.bb).2.2.2.2.2.2.2.2.1; have yy1_9 := (pcells s1.bb).2.2.2.2.2.2.2.2.2))
  go_ret
  exact ⟨rfl, s1.bel⟩
set_option maxRecDepth 20000 in
set_option maxHeartbeats 8000000 in
theorem told_no6 {w : World} {a b : Pv} {u5 u6 u7 u9 v5 v6 v7 v9 : Value} (h : Pr w a u5 u6 u7 u9) (h' : Pr w b v5 v6 v7 v9) (_hl : b.l.length ≤ 100000) (e0 : (a.i == b.i) = true) (e1 : (a.d == b.d) = true) (e2 : (a.hg == b.hg) = true) (e3 : (a.ho == b.ho) = true) (e4 : (a.hr == b.hr) = true) (e5 : decide (a.g = b.g) = true) (e6 : decide (a.o = b.o) = false) :
    Calls Tryd.prog 18 #[pAgg a u5 u6 u7 u9, pAgg b v5 v6 v7 v9] w fun e w' => e = .returned (.bool (psameB a b)) ∧ Below w.heap.size w w' := by
  obtain ⟨a5, k5, rfl⟩ := h.g.shape
  obtain ⟨a6, k6, rfl⟩ := h.o.shape
  obtain ⟨a7, k7, rfl⟩ := h.r.shape
  obtain ⟨a9, k9, rfl⟩ := h.l.shape
  obtain ⟨b5, m5, rfl⟩ := h'.g.shape
  obtain ⟨b6, m6, rfl⟩ := h'.o.shape
  obtain ⟨b7, m7, rfl⟩ := h'.r.shape
  obtain ⟨b9, m9, rfl⟩ := h'.l.shape
  have hs0 : Tb w w.heap.size (w.heap.size + 1) (pCells a (.slice a5 a.g.length k5) (.slice a6 a.o.length k6) (.slice a7 a.r.length k7) (.slice a9 a.l.length k9)) (pCells b (.slice b5 b.g.length m5) (.slice b6 b.o.length m6) (.slice b7 b.r.length m7) (.slice b9 b.l.length m9)) ((w.alloc (.cells (pCells a (.slice a5 a.g.length k5) (.slice a6 a.o.length k6) (.slice a7 a.r.length k7) (.slice a9 a.l.length k9)) 27)).alloc (.cells (pCells b (.slice b5 b.g.length m5) (.slice b6 b.o.length m6) (.slice b7 b.r.length m7) (.slice b9 b.l.length m9)) 25)) :=
    ⟨(below_alloc w _).trans ((below_alloc _ _).mono (by simp)), by rw [(below_alloc _ _).block _ (by simp)]; exact heap_alloc_new w _, heap_alloc2_new w _ _⟩
  have HA := Lib.hid h
  have HB := Lib.hid h'
  obtain ⟨q, hq⟩ : ∃ q, psameB a b = q := ⟨_, rfl⟩
  have HQ := Lib.hid hq
  rw [hq]
  obtain ⟨X, hX⟩ : ∃ X, X = ((w.alloc (.cells (pCells a (.slice a5 a.g.length k5) (.slice a6 a.o.length k6) (.slice a7 a.r.length k7) (.slice a9 a.l.length k9)) 27)).alloc (.cells (pCells b (.slice b5 b.g.length m5) (.slice b6 b.o.length m6) (.slice b7 b.r.length m7) (.slice b9 b.l.length m9)) 25)) := ⟨_, rfl⟩
  rw [← hX] at hs0
  have s0 := hs0
  obtain ⟨x0, x1, x2, x3, x4, x5, x6, x7, x8, x9⟩ := pcells s0.ba
  obtain ⟨y0, y1, y2, y3, y4, y5, y6, y7, y8, y9⟩ := pcells s0.bb
  clear h h' hq hs0
  have n0 : (a.i != b.i) = false := by simp only [bne, e0]; rfl
  have n1 : (a.d != b.d) = false := by simp only [bne, e1]; rfl
  have n2 : (a.hg != b.hg) = false := by simp only [bne, e2]; rfl
  have n3 : (a.ho != b.ho) = false := by simp only [bne, e3]; rfl
  have n4 : (a.hr != b.hr) = false := by simp only [bne, e4]; rfl
  obtain rfl : q = false := by rw [← HQ.out]; simp only [psameB, e0, e1, e2, e3, e4, e5, e6, Bool.and_false, Bool.false_and]
  go_enter Tryd.func18, Tryd.ntmps18
  go_wp2_with fail
  rw [← hX]
  clear hX
  go_wp2_with (first | (go_at_call 14; have cc := same_any (HA.out.o.below s1.bel) (HB.out.o.below s1.bel); rw [e6] at cc; refine cc.mono ?_; rintro e z2 ⟨rfl, b2⟩; have s2 := s1.below b2; have xx2_5 := (pcells s2.ba).2.2.2.2.2.1; have xx2_6 := (pcells s2.ba).2.2.2.2.2.2.1; have xx2_7 := (pcells s2.ba).2.2.2.2.2.2.2.1; have xx2_8 := (pcells s2.ba).2.2.2.2.2.2.2.2.1; have xx2_9 := (pcells s2.ba).2.2.2.2.2.2.2.2.2; have yy2_5 := (pcells s2.bb).2.2.2.2.2.1; have yy2_6 := (pcells s2.bb).2.2.2.2.2.2.1; have yy2_7 := (pcells s2.bb).2.2.2.2.2.2.2.1; have yy2_8 := (pcells s2.bb).2.2.2.2.2.2.2.2.1; have yy2_9 := (pcells s2.bb).2.2.2.2.2.2.2.2.2) | (go_at_call 14; have cc := same_any (HA.out.g.below s0.bel) (HB.out.g.below s0.bel); rw [e5] at cc; refine cc.mono ?_; rintro e z1 ⟨rfl, b1⟩; have s1 := s0.below b1; have xx1_5 := (pcells s1.ba).2.2.2.2.2.1; have xx1_6 := (pcells s1.ba).2.2.2.2.2.2.1; have xx1_7 := (pcells s1.ba).2.2.2.2.2.2.2.1; have xx1_8 := (pcells s1.ba).2.2.2.2.2.2.2.2.1; have xx1_9 := (pcells s1.ba).2.2.2.2.2.2.2.2.2; have yy1_5 := (pcells s1.bb).2.2.2.2.2.1; have yy1_6 := (pcells s1.bb).2.2.2.2.2.2.1; have yy1_7 := (pcells s1.bb).2.2.2.2.2.2.2.1; have yy1_8 := (pcells s1.bb).2.2.2.2.2.2.2.2.1; have yy1_9 := (pcells s1.bb).2.2.2.2.2.2.2.2.2))
  go_ret
  exact ⟨rfl, s2.bel⟩
end Go.Proofs.YtmglhlfjddgllaaDoor
