/- The bytes of a retry: the document's. -/
import Derived.Test.YtjdlmmbkppaenaaQRetry
namespace Go.Proofs.Ytjdlmmbkppaenaa
open Go Go.RowKit

/-- May a retry without its tag be? -/
def bodyB (ver : Int) (to fr : List Int) (tok : Int) : Bool := (decide (to.length ≤ 20) && decide (fr.length ≤ 20)) && verB ver && termB tok
/-- Its bytes; none, if it may not be. -/
def bodyW (ver : Int) (to fr : List Int) (tok : Int) : List Int := if bodyB ver to fr tok then headBs 240 ver to fr ++ numB tok else []
theorem bodyW_byt {ver tok : Int} {to fr : List Int} (ht : Byt to) (hf : Byt fr) : Byt (bodyW ver to fr tok) := by
  unfold bodyW
  split
  · rename_i h
    simp only [bodyB, Bool.and_eq_true, decide_eq_true_eq] at h
    exact (headBs_byt (by omega) ht hf (by omega) (by omega)).app (numB_byt _)
  · exact Byt.nil
theorem bodyW_len {ver tok : Int} {to fr : List Int} : (bodyW ver to fr tok).length ≤ 100000 := by
  unfold bodyW
  split
  · rename_i h
    simp only [bodyB, Bool.and_eq_true, decide_eq_true_eq] at h
    rw [List.length_append, headBs_len, numB_len]
    split <;> omega
  · simp
theorem retryW_body (ver : Int) (to fr : List Int) (tok tag : Int) : retryW ver to fr tok tag = if bodyW ver to fr tok = [] ∨ numB tag = [] then [] else bodyW ver to fr tok ++ numB tag := by
  simp only [numB_iff]
  unfold retryW bodyW
  have e : retryB ver to fr tok tag = (bodyB ver to fr tok && termB tag) := by
    unfold retryB bodyB
    generalize (decide (to.length ≤ 20) && decide (fr.length ≤ 20)) = a
    cases verB ver <;> cases a <;> cases termB tok <;> cases termB tag <;> rfl
  rw [e]
  cases bodyB ver to fr tok <;> cases termB tag <;> simp [headBs]

set_option maxRecDepth 20000 in
set_option maxHeartbeats 2000000 in
theorem body_any {w : World} {a2 a3 : Option Addr} {c2 c3 : Nat} {to fr : List Int} {ver tok tag : Int} (h2 : Rd w (.slice a2 to.length c2) to) (h3 : Rd w (.slice a3 fr.length c3) fr) :
    Calls Try.prog 33 #[.agg #[.int .i64 ver, .slice a2 to.length c2, .slice a3 fr.length c3, .int .i64 tok, .int .i64 tag]] w fun e w' => ∃ v', e = .returned v' ∧ w'.ownsRow w.heap.size 5 1 v' (bodyW ver to fr tok).length (by8 (bodyW ver to fr tok)) ∧ Below w.heap.size w w' := by
  have hB := below_alloc w (.cells #[.int .i64 ver, .slice a2 to.length c2, .slice a3 fr.length c3, .int .i64 tok, .int .i64 tag] 27)
  have x0 : (w.alloc (.cells #[.int .i64 ver, .slice a2 to.length c2, .slice a3 fr.length c3, .int .i64 tok, .int .i64 tag] 27)).heap[w.heap.size]? = some (.cells #[.int .i64 ver, .slice a2 to.length c2, .slice a3 fr.length c3, .int .i64 tok, .int .i64 tag] 27 (0, 0)) := heap_alloc_new w _
  have HX := Lib.hid x0
  have hn := rnumber_any tok (w.alloc (.cells #[.int .i64 ver, .slice a2 to.length c2, .slice a3 fr.length c3, .int .i64 tok, .int .i64 tag] 27))
  have HN := Lib.hid (numB_len tok)
  have HNB := Lib.hid (numB_byt tok)
  have H2 := Lib.hid h2
  have H3 := Lib.hid h3
  clear x0 h2 h3
  go_enter Try.func33, Try.ntmps33
  go_wp2_with fail
  refine hn.mono ?_
  rintro e w1 ⟨v1, rfl, o1, b1⟩
  have HX1 := Lib.hid ((b1.block w.heap.size (by simp)).trans HX.out)
  have B1 := Lib.hid (hB.trans (b1.mono hB.size))
  have R1 := Rd.of_own o1 HNB.out
  obtain ⟨a1, c1, rfl, _⟩ := R1.1
  have HR1 := Lib.hid R1.1
  have y0 : w1.cell? ⟨w.heap.size, 0, none⟩ = some (.int .i64 ver) := (cell_of_row _ w.heap.size 0 _ _ (0, 0) HX1.out).trans rfl
  have y1 : w1.cell? ⟨w.heap.size, 1, none⟩ = some (.slice a2 to.length c2) := (cell_of_row _ w.heap.size 1 _ _ (0, 0) HX1.out).trans rfl
  have y2 : w1.cell? ⟨w.heap.size, 2, none⟩ = some (.slice a3 fr.length c3) := (cell_of_row _ w.heap.size 2 _ _ (0, 0) HX1.out).trans rfl
  have hlt1 := blk_lt' HX1.out
  clear b1 o1 R1 hn
  by_cases l2 : 20 < to.length
  · have l2' : (20 : Int) < (to.length : Int) := by omega
    have HE : Hid (bodyW ver to fr tok = []) := Lib.hid (by unfold bodyW bodyB; rw [decide_eq_false (p := to.length ≤ 20) (by omega)]; rfl)
    go_wp2_with fail
    go_ret
    exact ⟨_, rfl, by rw [HE.out]; exact World.ownsRow_nil _ _ _ _, B1.out⟩
  have l2' : (to.length : Int) ≤ 20 := by omega
  by_cases l3 : 20 < fr.length
  · have l3' : (20 : Int) < (fr.length : Int) := by omega
    have HE : Hid (bodyW ver to fr tok = []) := Lib.hid (by unfold bodyW bodyB; rw [decide_eq_false (p := fr.length ≤ 20) (by omega), Bool.and_false]; rfl)
    go_wp2_with fail
    go_ret
    exact ⟨_, rfl, by rw [HE.out]; exact World.ownsRow_nil _ _ _ _, B1.out⟩
  have l3' : (fr.length : Int) ≤ 20 := by omega
  by_cases l4 : ver < 1
  · have HE : Hid (bodyW ver to fr tok = []) := Lib.hid (by unfold bodyW bodyB verB; rw [decide_eq_false (p := 0 < ver) (by omega)]; simp)
    go_wp2_with fail
    go_ret
    exact ⟨_, rfl, by rw [HE.out]; exact World.ownsRow_nil _ _ _ _, B1.out⟩
  by_cases l5 : 4294967295 < ver
  · have HE : Hid (bodyW ver to fr tok = []) := Lib.hid (by unfold bodyW bodyB verB; rw [decide_eq_false (p := ver < 4294967296) (by omega)]; simp)
    go_wp2_with fail
    go_ret
    exact ⟨_, rfl, by rw [HE.out]; exact World.ownsRow_nil _ _ _ _, B1.out⟩
  cases ht : termB tok with
  | false =>
    have hz : (numB tok).length = 0 := by rw [HN.out, ht]; rfl
    have hz' : (((numB tok).length : Int) == 0) = true := by rw [hz]; rfl
    have HE : Hid (bodyW ver to fr tok = []) := Lib.hid (by unfold bodyW bodyB; rw [ht, Bool.and_false]; rfl)
    clear hz ht
    go_wp2_with fail
    go_ret
    exact ⟨_, rfl, by rw [HE.out]; exact World.ownsRow_nil _ _ _ _, B1.out⟩
  | true =>
    have hz : (numB tok).length = 4 := by rw [HN.out, ht]; rfl
    have hz' : (((numB tok).length : Int) == 0) = false := by rw [hz]; rfl
    have HZ := Lib.hid hz
    have HE : Hid (bodyW ver to fr tok = headBs 240 ver to fr ++ numB tok) := Lib.hid (by unfold bodyW bodyB verB; rw [ht, decide_eq_true (p := to.length ≤ 20) (by omega), decide_eq_true (p := fr.length ≤ 20) (by omega), decide_eq_true (p := 0 < ver) (by omega), decide_eq_true (p := ver < 4294967296) (by omega)]; rfl)
    have hbe := rhead_any (H2.out.below B1.out) (H3.out.below B1.out) (by omega) (by omega) 240 ver (by decide) (by decide) (by omega) (by omega)
    have HL : Hid (to.length ≤ 20 ∧ fr.length ≤ 20) := Lib.hid (by omega)
    have HS := Lib.hid hlt1
    clear hz ht hlt1
    go_wp2_with (first | (go_at_call 29; refine hbe.mono ?_; rintro e w2 ⟨v2, rfl, o2, b2⟩; have O2 := Lib.hid o2; have B2 := Lib.hid b2; clear o2 b2 hbe) | (at_builtin; refine wpList_append_bytes (.tmp 38) (.tmp 39) 22 rfl rfl info5 Try.underlying22 w1.heap.size _ _ _ rfl O2.out _ _ rfl (HR1.out.below B2.out) (by rw [headBs_len, HZ.out]; have := HL.out; omega) B2.out.size ?_; intro v4 w4 o4 b4; have O4 := Lib.hid o4; have B4 := Lib.hid (B2.out.trans b4); clear o4 b4))
    go_ret
    exact ⟨_, rfl, by rw [HE.out, List.length_append]; exact own_mono O4.out B1.out.size, B1.out.trans (B4.out.mono B1.out.size)⟩
end Go.Proofs.Ytjdlmmbkppaenaa
