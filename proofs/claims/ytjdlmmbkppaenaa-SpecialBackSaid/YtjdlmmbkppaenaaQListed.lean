/- special: the statement's own question whether a list is the document's, of two that read alike. -/
import Derived.Test.YtjdlmmbkppaenaaQEqL
namespace Go.Proofs.Ytjdlmmbkppaenaa
open Go Go.RowKit

theorem cells3 {w : World} {M : Nat} {T : TypeId} {c0 c1 c2 : Value} (h : w.heap[M]? = some (.cells #[c0, c1, c2] T (0, 0))) :
    w.cell? ⟨M, 0, none⟩ = some c0 ∧ w.cell? ⟨M, 1, none⟩ = some c1 ∧ w.cell? ⟨M, 2, none⟩ = some c2 ∧ ∀ j, w.frozen? ⟨M, j, none⟩ = false :=
  ⟨(cell_of_row w M 0 _ _ (0, 0) h).trans rfl, (cell_of_row w M 1 _ _ (0, 0) h).trans rfl, (cell_of_row w M 2 _ _ (0, 0) h).trans rfl, fun j => by simp [World.frozen?, h]⟩
set_option maxRecDepth 20000 in
set_option maxHeartbeats 2000000 in
theorem listed_any {w : World} {v2 v3 vi u2 u3 ui : Value} {to fr vs : List Int} (h2 : Rd w v2 to) (h3 : Rd w v3 fr) (hi : Ri w vi vs) (k2 : Rd w u2 to) (k3 : Rd w u3 fr) (ki : Ri w ui vs) (hl : vs.length ≤ 1000) :
    Calls Try.prog 20 #[.agg #[v2, v3, vi], .agg #[u2, u3, ui]] w fun e w' => e = .returned (.bool true) ∧ Below w.heap.size w w' := by
  obtain ⟨a2, d2, rfl⟩ := h2.shape
  obtain ⟨a3, d3, rfl⟩ := h3.shape
  obtain ⟨a4, d4, rfl⟩ := hi.shape
  obtain ⟨b2, e2, rfl⟩ := k2.shape
  obtain ⟨b3, e3, rfl⟩ := k3.shape
  obtain ⟨b4, e4, rfl⟩ := ki.shape
  obtain ⟨W, hW⟩ : ∃ W, (w.alloc (.cells #[.slice a2 to.length d2, .slice a3 fr.length d3, .slice a4 vs.length d4] 30)).alloc (.cells #[.slice b2 to.length e2, .slice b3 fr.length e3, .slice b4 vs.length e4] 25) = W := ⟨_, rfl⟩
  have hB : Below w.heap.size w W := by rw [← hW]; exact (below_alloc w _).trans ((below_alloc _ _).mono (by simp))
  have hL : W.heap[w.heap.size]? = some (.cells #[.slice a2 to.length d2, .slice a3 fr.length d3, .slice a4 vs.length d4] 30 (0, 0)) := by rw [← hW]; exact (Below.heap_alloc _ _ _ (by simp)).trans (heap_alloc_new w _)
  have hR : W.heap[w.heap.size + 1]? = some (.cells #[.slice b2 to.length e2, .slice b3 fr.length e3, .slice b4 vs.length e4] 25 (0, 0)) := by rw [← hW]; exact heap_alloc2_new w _ _
  have HL := Lib.hid hL
  have HR := Lib.hid hR
  have HB := Lib.hid hB
  have H := Lib.hid (And.intro h3 (And.intro k3 (And.intro hi ki)))
  have c1 := same_true (h2.below hB) (k2.below hB)
  clear h2 h3 k2 k3 hB hi ki
  obtain ⟨g0, g1, g2, gf⟩ := cells3 hL
  obtain ⟨m0, m1, m2, mf⟩ := cells3 hR
  clear hL hR
  go_enter Try.func20, Try.ntmps20
  go_wp2_with fail
  clear hW
  refine c1.mono ?_
  rintro e w1 ⟨rfl, b1⟩
  have HL1 := Lib.hid ((b1.block _ (blk_lt' HL.out)).trans HL.out)
  have HR1 := Lib.hid ((b1.block _ (blk_lt' HR.out)).trans HR.out)
  have HB1 := Lib.hid (HB.out.trans (b1.mono HB.out.size))
  have c2 := same_true (H.out.1.below HB1.out) (H.out.2.1.below HB1.out)
  clear c1 b1 g0 g1 g2 gf m0 m1 m2 mf
  obtain ⟨g0, g1, g2, gf⟩ := cells3 HL1.out
  obtain ⟨m0, m1, m2, mf⟩ := cells3 HR1.out
  go_wp2_with fail
  refine c2.mono ?_
  rintro e w2 ⟨rfl, b2⟩
  have HL2 := Lib.hid ((b2.block _ (blk_lt' HL1.out)).trans HL1.out)
  have HR2 := Lib.hid ((b2.block _ (blk_lt' HR1.out)).trans HR1.out)
  have HB2 := Lib.hid (HB1.out.trans (b2.mono HB1.out.size))
  have hi2 := H.out.2.2.1.below HB2.out
  have ki2 := H.out.2.2.2.below HB2.out
  clear c2 b2 g0 g1 g2 gf m0 m1 m2 mf
  obtain ⟨g0, g1, g2, gf⟩ := cells3 HL2.out
  obtain ⟨m0, m1, m2, mf⟩ := cells3 HR2.out
  have hlI : (vs.length : Int) ≤ 1000 := by omega
  rcases hi2.cases with ⟨hv, _⟩ | ⟨b, off, cap, e5, hpos, hbl, hcell⟩
  · subst hv
    clear hi2 ki2
    simp only [List.length_nil] at *
    go_wp2_with fail
    refine wp_loop_rounds 1 ?_
    rw [rounds_succ]
    go_wp2_with fail
    go_ret
    exact ⟨rfl, HB2.out⟩
  rcases ki2.cases with ⟨hv, _⟩ | ⟨c, off', cap', e6, _, hbl', hcell'⟩
  · rw [hv] at hpos; simp at hpos
  simp only [Value.slice.injEq] at e5 e6
  obtain ⟨rfl, _, rfl⟩ := e5
  obtain ⟨rfl, _, rfl⟩ := e6
  have HC := Lib.hid (And.intro hcell hcell')
  clear hi2 ki2 hcell hcell'
  go_wp2_with fail
  go_loopw [5] (fun i wr => ∃ k : Nat, k ≤ vs.length ∧ i = .int .i64 k ∧ ∃ n, wr = w2.drewN n) (fun i _ => vs.length - (intOf i).toNat)
  case atStart => exact ⟨0, by omega, rfl, 0, rfl⟩
  case round =>
    obtain ⟨k, hk, rfl, n, rfl⟩ := hrel
    by_cases hlt : k < vs.length
    · have hlt' : (k : Int) < (vs.length : Int) := by omega
      have x1 := HC.out.1 k hlt
      have x2 := HC.out.2 k hlt
      generalize vs.getD k 0 = x at *
      go_wp2_with fail
      go_quiet (fail)
      go_wp2_with fail
      go_round
      case rel => exact ⟨k + 1, by omega, by go_num, _, rfl⟩
      case measure => simp [intOf]; omega
    · have hge : ¬ (k : Int) < (vs.length : Int) := by omega
      go_wp2_with fail
      go_ret
      exact ⟨rfl, below_drewN HB2.out _⟩
end Go.Proofs.Ytjdlmmbkppaenaa
