/- special: the statement's own question whether a retry is the document's, of two that read alike. -/
import Derived.Test.YtjdlmmbkppaenaaQEq
import Derived.Test.YtjdlmmbkppaenaaHSame
namespace Go.Proofs.Ytjdlmmbkppaenaa
open Go Go.RowKit

set_option maxRecDepth 20000 in
set_option maxHeartbeats 2000000 in
theorem retried_any {w : World} {v2 v3 u2 u3 : Value} {to fr : List Int} (ver tok tag : Int) (h2 : Rd w v2 to) (h3 : Rd w v3 fr) (k2 : Rd w u2 to) (k3 : Rd w u3 fr) :
    Calls Try.prog 21 #[retryV ver v2 v3 tok tag, retryV ver u2 u3 tok tag] w fun e w' => e = .returned (.bool true) ∧ Below w.heap.size w w' := by
  obtain ⟨a2, d2, rfl⟩ := h2.shape
  obtain ⟨a3, d3, rfl⟩ := h3.shape
  obtain ⟨b2, e2, rfl⟩ := k2.shape
  obtain ⟨b3, e3, rfl⟩ := k3.shape
  obtain ⟨W, hW⟩ : ∃ W, (w.alloc (.cells #[.int .i64 ver, .slice a2 to.length d2, .slice a3 fr.length d3, .int .i64 tok, .int .i64 tag] 36)).alloc (.cells #[.int .i64 ver, .slice b2 to.length e2, .slice b3 fr.length e3, .int .i64 tok, .int .i64 tag] 27) = W := ⟨_, rfl⟩
  have hB : Below w.heap.size w W := by rw [← hW]; exact (below_alloc w _).trans ((below_alloc _ _).mono (by simp))
  have hL : W.heap[w.heap.size]? = some (.cells #[.int .i64 ver, .slice a2 to.length d2, .slice a3 fr.length d3, .int .i64 tok, .int .i64 tag] 36 (0, 0)) := by rw [← hW]; exact (Below.heap_alloc _ _ _ (by simp)).trans (heap_alloc_new w _)
  have hR : W.heap[w.heap.size + 1]? = some (.cells #[.int .i64 ver, .slice b2 to.length e2, .slice b3 fr.length e3, .int .i64 tok, .int .i64 tag] 27 (0, 0)) := by rw [← hW]; exact heap_alloc2_new w _ _
  have HL := Lib.hid hL
  have HR := Lib.hid hR
  have HB := Lib.hid hB
  have H := Lib.hid (And.intro h2 (And.intro h3 (And.intro k2 k3)))
  have c1 := same_true (h2.below hB) (k2.below hB)
  clear h2 h3 k2 k3 hB
  obtain ⟨g0, g1, g2, g3, g4, gf⟩ := cells5 hL
  obtain ⟨m0, m1, m2, m3, m4, mf⟩ := cells5 hR
  clear hL hR
  go_enter Try.func21, Try.ntmps21
  go_wp2_with fail
  clear hW
  refine c1.mono ?_
  rintro e w1 ⟨rfl, b1⟩
  have HL1 := Lib.hid ((b1.block _ (blk_lt' HL.out)).trans HL.out)
  have HR1 := Lib.hid ((b1.block _ (blk_lt' HR.out)).trans HR.out)
  have HB1 := Lib.hid (HB.out.trans (b1.mono HB.out.size))
  have c2 := same_true (H.out.2.1.below HB1.out) (H.out.2.2.2.below HB1.out)
  clear c1 b1 g0 g1 g2 g3 g4 gf m0 m1 m2 m3 m4 mf
  obtain ⟨g0, g1, g2, g3, g4, gf⟩ := cells5 HL1.out
  obtain ⟨m0, m1, m2, m3, m4, mf⟩ := cells5 HR1.out
  go_wp2_with fail
  refine c2.mono ?_
  rintro e w2 ⟨rfl, b2⟩
  have HL2 := Lib.hid ((b2.block _ (blk_lt' HL1.out)).trans HL1.out)
  have HR2 := Lib.hid ((b2.block _ (blk_lt' HR1.out)).trans HR1.out)
  have HB2 := Lib.hid (HB1.out.trans (b2.mono HB1.out.size))
  clear c2 b2 g0 g1 g2 g3 g4 gf m0 m1 m2 m3 m4 mf
  obtain ⟨g0, g1, g2, g3, g4, gf⟩ := cells5 HL2.out
  obtain ⟨m0, m1, m2, m3, m4, mf⟩ := cells5 HR2.out
  go_wp2_with fail
  go_ret
  exact ⟨rfl, HB2.out⟩
end Go.Proofs.Ytjdlmmbkppaenaa
