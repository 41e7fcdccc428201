/- SpecialUnlike, for every input. -/
import Derived.Test.YtkmjdpnbakcgcaaQUn
namespace Go.Proofs.Ytkmjdpnbakcgcaa
open Go Go.RowKit

set_option maxRecDepth 20000 in
set_option maxHeartbeats 4000000 in
theorem unlike_long {w : World} {a2 a3 b2 b3 ga oa : Option Addr} {c2 c3 d2 d3 gc oc n2 n3 n4 n5 ng no : Nat} {ver tok tag vr tk tg : Int}
    (hl : 50 < n2 ∨ 50 < n3 ∨ 50 < n4 ∨ 50 < n5 ∨ 50 < ng ∨ 50 < no) :
    Calls Try.prog 3 #[.agg #[.int .i64 ver, .slice a2 n2 c2, .slice a3 n3 c3, .int .i64 tok, .int .i64 tag, .int .i64 vr, .slice b2 n4 d2, .slice b3 n5 d3, .int .i64 tk, .int .i64 tg, .slice ga ng gc, .slice oa no oc]] w fun e w' => e = .returned (.bool true) ∧ Below w.heap.size w w' := by
  go_enter Try.func3, Try.ntmps3
  go_wp2_with fail
  go_region
  · obtain ⟨X, hX⟩ : ∃ X, X = (((w.alloc (.cells #[.int .i64 ver, .slice a2 n2 c2, .slice a3 n3 c3, .int .i64 tok, .int .i64 tag, .int .i64 vr, .slice b2 n4 d2, .slice b3 n5 d3, .int .i64 tk, .int .i64 tg, .slice ga ng gc, .slice oa no oc] 26)).alloc (.cells #[.int .i64 ver, .slice a2 n2 c2, .slice a3 n3 c3, .int .i64 tok, .int .i64 tag] 24)).alloc (.cells #[.int .i64 vr, .slice b2 n4 d2, .slice b3 n5 d3, .int .i64 tk, .int .i64 tg] 24)).drew := ⟨_, rfl⟩
    have hbX : Below w.heap.size w X := by rw [hX]; exact (((below_alloc w _).trans ((below_alloc _ _).mono (below_alloc w _).size)).trans ((below_alloc _ _).mono (Nat.le_trans (below_alloc w _).size (below_alloc _ _).size))).drew
    have hA2 : X.heap[w.heap.size + 1 + 1]? = some (.cells #[.int .i64 vr, .slice b2 n4 d2, .slice b3 n5 d3, .int .i64 tk, .int .i64 tg] 24 (0, 0)) := by
      rw [hX]
      have := heap_alloc_new ((w.alloc (.cells #[.int .i64 ver, .slice a2 n2 c2, .slice a3 n3 c3, .int .i64 tok, .int .i64 tag, .int .i64 vr, .slice b2 n4 d2, .slice b3 n5 d3, .int .i64 tk, .int .i64 tg, .slice ga ng gc, .slice oa no oc] 26)).alloc (.cells #[.int .i64 ver, .slice a2 n2 c2, .slice a3 n3 c3, .int .i64 tok, .int .i64 tag] 24)) (.cells #[.int .i64 vr, .slice b2 n4 d2, .slice b3 n5 d3, .int .i64 tk, .int .i64 tg] 24)
      rw [World.size_alloc, World.size_alloc] at this
      exact this
    have hA1 : X.heap[w.heap.size + 1]? = some (.cells #[.int .i64 ver, .slice a2 n2 c2, .slice a3 n3 c3, .int .i64 tok, .int .i64 tag] 24 (0, 0)) := by
      rw [hX]
      have := heap_alloc_new (w.alloc (.cells #[.int .i64 ver, .slice a2 n2 c2, .slice a3 n3 c3, .int .i64 tok, .int .i64 tag, .int .i64 vr, .slice b2 n4 d2, .slice b3 n5 d3, .int .i64 tk, .int .i64 tg, .slice ga ng gc, .slice oa no oc] 26)) (.cells #[.int .i64 ver, .slice a2 n2 c2, .slice a3 n3 c3, .int .i64 tok, .int .i64 tag] 24)
      rw [World.size_alloc] at this
      exact ((below_alloc ((w.alloc (.cells #[.int .i64 ver, .slice a2 n2 c2, .slice a3 n3 c3, .int .i64 tok, .int .i64 tag, .int .i64 vr, .slice b2 n4 d2, .slice b3 n5 d3, .int .i64 tk, .int .i64 tg, .slice ga ng gc, .slice oa no oc] 26)).alloc (.cells #[.int .i64 ver, .slice a2 n2 c2, .slice a3 n3 c3, .int .i64 tok, .int .i64 tag] 24)) (.cells #[.int .i64 vr, .slice b2 n4 d2, .slice b3 n5 d3, .int .i64 tk, .int .i64 tg] 24)).block _ (by simp)).trans this
    rw [← hX]
    obtain ⟨x0, x1, x2, x3, x4, _⟩ := cells5 hA1
    obtain ⟨y0, y1, y2, y3, y4, _⟩ := cells5 hA2
    have HX := Lib.hid hbX
    clear hX hbX hA1 hA2
    by_cases h0 : 50 < n2
    · have t0 : decide ((50 : Int) < (n2 : Int)) = true := decide_eq_true (by omega)
      clear hl h0
      go_wp2_with fail
      go_ret
      exact ⟨rfl, HX.out⟩
    · have t0 : decide ((50 : Int) < (n2 : Int)) = false := decide_eq_false (by omega)
      by_cases h1 : 50 < n3
      · have t1 : decide ((50 : Int) < (n3 : Int)) = true := decide_eq_true (by omega)
        clear hl h0 h1
        go_wp2_with fail
        go_ret
        exact ⟨rfl, HX.out⟩
      · have t1 : decide ((50 : Int) < (n3 : Int)) = false := decide_eq_false (by omega)
        by_cases h2 : 50 < n4
        · have t2 : decide ((50 : Int) < (n4 : Int)) = true := decide_eq_true (by omega)
          clear hl h0 h1 h2
          go_wp2_with fail
          go_ret
          exact ⟨rfl, HX.out⟩
        · have t2 : decide ((50 : Int) < (n4 : Int)) = false := decide_eq_false (by omega)
          by_cases h3 : 50 < n5
          · have t3 : decide ((50 : Int) < (n5 : Int)) = true := decide_eq_true (by omega)
            clear hl h0 h1 h2 h3
            go_wp2_with fail
            go_ret
            exact ⟨rfl, HX.out⟩
          · have t3 : decide ((50 : Int) < (n5 : Int)) = false := decide_eq_false (by omega)
            by_cases h4 : 50 < ng
            · have t4 : decide ((50 : Int) < (ng : Int)) = true := decide_eq_true (by omega)
              clear hl h0 h1 h2 h3 h4
              go_wp2_with fail
              go_ret
              exact ⟨rfl, HX.out⟩
            · have t4 : decide ((50 : Int) < (ng : Int)) = false := decide_eq_false (by omega)
              have t5 : decide ((50 : Int) < (no : Int)) = true := decide_eq_true (by omega)
              clear hl h0 h1 h2 h3 h4
              go_wp2_with fail
              go_ret
              exact ⟨rfl, HX.out⟩
  · obtain ⟨X, hX⟩ : ∃ X, X = (((w.alloc (.cells #[.int .i64 ver, .slice a2 n2 c2, .slice a3 n3 c3, .int .i64 tok, .int .i64 tag, .int .i64 vr, .slice b2 n4 d2, .slice b3 n5 d3, .int .i64 tk, .int .i64 tg, .slice ga ng gc, .slice oa no oc] 26)).alloc (.cells #[.int .i64 vr, .slice b2 n4 d2, .slice b3 n5 d3, .int .i64 tk, .int .i64 tg] 24)).alloc (.cells #[.int .i64 ver, .slice a2 n2 c2, .slice a3 n3 c3, .int .i64 tok, .int .i64 tag] 24)).drew := ⟨_, rfl⟩
    have hbX : Below w.heap.size w X := by rw [hX]; exact (((below_alloc w _).trans ((below_alloc _ _).mono (below_alloc w _).size)).trans ((below_alloc _ _).mono (Nat.le_trans (below_alloc w _).size (below_alloc _ _).size))).drew
    have hA2 : X.heap[w.heap.size + 1 + 1]? = some (.cells #[.int .i64 ver, .slice a2 n2 c2, .slice a3 n3 c3, .int .i64 tok, .int .i64 tag] 24 (0, 0)) := by
      rw [hX]
      have := heap_alloc_new ((w.alloc (.cells #[.int .i64 ver, .slice a2 n2 c2, .slice a3 n3 c3, .int .i64 tok, .int .i64 tag, .int .i64 vr, .slice b2 n4 d2, .slice b3 n5 d3, .int .i64 tk, .int .i64 tg, .slice ga ng gc, .slice oa no oc] 26)).alloc (.cells #[.int .i64 vr, .slice b2 n4 d2, .slice b3 n5 d3, .int .i64 tk, .int .i64 tg] 24)) (.cells #[.int .i64 ver, .slice a2 n2 c2, .slice a3 n3 c3, .int .i64 tok, .int .i64 tag] 24)
      rw [World.size_alloc, World.size_alloc] at this
      exact this
    have hA1 : X.heap[w.heap.size + 1]? = some (.cells #[.int .i64 vr, .slice b2 n4 d2, .slice b3 n5 d3, .int .i64 tk, .int .i64 tg] 24 (0, 0)) := by
      rw [hX]
      have := heap_alloc_new (w.alloc (.cells #[.int .i64 ver, .slice a2 n2 c2, .slice a3 n3 c3, .int .i64 tok, .int .i64 tag, .int .i64 vr, .slice b2 n4 d2, .slice b3 n5 d3, .int .i64 tk, .int .i64 tg, .slice ga ng gc, .slice oa no oc] 26)) (.cells #[.int .i64 vr, .slice b2 n4 d2, .slice b3 n5 d3, .int .i64 tk, .int .i64 tg] 24)
      rw [World.size_alloc] at this
      exact ((below_alloc ((w.alloc (.cells #[.int .i64 ver, .slice a2 n2 c2, .slice a3 n3 c3, .int .i64 tok, .int .i64 tag, .int .i64 vr, .slice b2 n4 d2, .slice b3 n5 d3, .int .i64 tk, .int .i64 tg, .slice ga ng gc, .slice oa no oc] 26)).alloc (.cells #[.int .i64 vr, .slice b2 n4 d2, .slice b3 n5 d3, .int .i64 tk, .int .i64 tg] 24)) (.cells #[.int .i64 ver, .slice a2 n2 c2, .slice a3 n3 c3, .int .i64 tok, .int .i64 tag] 24)).block _ (by simp)).trans this
    rw [← hX]
    obtain ⟨x0, x1, x2, x3, x4, _⟩ := cells5 hA2
    obtain ⟨y0, y1, y2, y3, y4, _⟩ := cells5 hA1
    have HX := Lib.hid hbX
    clear hX hbX hA1 hA2
    by_cases h0 : 50 < n2
    · have t0 : decide ((50 : Int) < (n2 : Int)) = true := decide_eq_true (by omega)
      clear hl h0
      go_wp2_with fail
      go_ret
      exact ⟨rfl, HX.out⟩
    · have t0 : decide ((50 : Int) < (n2 : Int)) = false := decide_eq_false (by omega)
      by_cases h1 : 50 < n3
      · have t1 : decide ((50 : Int) < (n3 : Int)) = true := decide_eq_true (by omega)
        clear hl h0 h1
        go_wp2_with fail
        go_ret
        exact ⟨rfl, HX.out⟩
      · have t1 : decide ((50 : Int) < (n3 : Int)) = false := decide_eq_false (by omega)
        by_cases h2 : 50 < n4
        · have t2 : decide ((50 : Int) < (n4 : Int)) = true := decide_eq_true (by omega)
          clear hl h0 h1 h2
          go_wp2_with fail
          go_ret
          exact ⟨rfl, HX.out⟩
        · have t2 : decide ((50 : Int) < (n4 : Int)) = false := decide_eq_false (by omega)
          by_cases h3 : 50 < n5
          · have t3 : decide ((50 : Int) < (n5 : Int)) = true := decide_eq_true (by omega)
            clear hl h0 h1 h2 h3
            go_wp2_with fail
            go_ret
            exact ⟨rfl, HX.out⟩
          · have t3 : decide ((50 : Int) < (n5 : Int)) = false := decide_eq_false (by omega)
            by_cases h4 : 50 < ng
            · have t4 : decide ((50 : Int) < (ng : Int)) = true := decide_eq_true (by omega)
              clear hl h0 h1 h2 h3 h4
              go_wp2_with fail
              go_ret
              exact ⟨rfl, HX.out⟩
            · have t4 : decide ((50 : Int) < (ng : Int)) = false := decide_eq_false (by omega)
              have t5 : decide ((50 : Int) < (no : Int)) = true := decide_eq_true (by omega)
              clear hl h0 h1 h2 h3 h4
              go_wp2_with fail
              go_ret
              exact ⟨rfl, HX.out⟩
theorem unlike_walk {w : World} {a2 a3 b2 b3 ga oa : Option Addr} {c2 c3 d2 d3 gc oc : Nat} {to fr tp fp zg zo : List Int} {ver tok tag vr tk tg : Int}
    (h : Rd w (.slice a2 to.length c2) to ∧ Rd w (.slice a3 fr.length c3) fr ∧ Rd w (.slice b2 tp.length d2) tp ∧ Rd w (.slice b3 fp.length d3) fp ∧ Rd w (.slice ga zg.length gc) zg ∧ Rd w (.slice oa zo.length oc) zo) :
    Calls Try.prog 3 #[.agg #[.int .i64 ver, .slice a2 to.length c2, .slice a3 fr.length c3, .int .i64 tok, .int .i64 tag, .int .i64 vr, .slice b2 tp.length d2, .slice b3 fp.length d3, .int .i64 tk, .int .i64 tg, .slice ga zg.length gc, .slice oa zo.length oc]] w fun e w' => e = .returned (.bool true) ∧ Below w.heap.size w w' := by
  by_cases hl : 50 < to.length ∨ 50 < fr.length ∨ 50 < tp.length ∨ 50 < fp.length ∨ 50 < zg.length ∨ 50 < zo.length
  · exact unlike_long hl
  · exact unlike_ok h (by omega) (by omega) (by omega) (by omega) (by omega) (by omega)
#print axioms unlike_walk
end Go.Proofs.Ytkmjdpnbakcgcaa
