/- The bytes of a retry: the program's. -/
import Derived.Test.YtkmjdpnbakcgcaaQRList
namespace Go.Proofs.Ytkmjdpnbakcgcaa
open Go Go.RowKit

/-- May a term have that number? -/
def termB (h : Int) : Bool := decide (1 ≤ h) && decide (h ≤ 65536)
theorem numB_iff (h : Int) : numB h = [] ↔ termB h = false := by
  unfold numB termB
  by_cases h1 : 1 ≤ h ∧ h ≤ 65536
  · rw [if_pos h1, decide_eq_true h1.1, decide_eq_true h1.2]; simp
  · rw [if_neg h1]; simp; omega
theorem numB_len (h : Int) : (numB h).length = if termB h then 4 else 0 := by
  unfold numB termB
  by_cases h1 : 1 ≤ h ∧ h ≤ 65536
  · rw [if_pos h1, decide_eq_true h1.1, decide_eq_true h1.2]; rfl
  · rw [if_neg h1, if_neg]
    · rfl
    · simp; omega
/-- May a retry be? -/
def retryB (ver : Int) (to fr : List Int) (tok tag : Int) : Bool := verB ver && (decide (to.length ≤ 20) && decide (fr.length ≤ 20)) && termB tok && termB tag
/-- A retry's bytes; none, if it may not be. -/
def retryW (ver : Int) (to fr : List Int) (tok tag : Int) : List Int := if retryB ver to fr tok tag then headBs 240 ver to fr ++ numB tok ++ numB tag else []
theorem retryW_byt {ver tok tag : Int} {to fr : List Int} (ht : Byt to) (hf : Byt fr) : Byt (retryW ver to fr tok tag) := by
  unfold retryW
  split
  · rename_i h
    simp only [retryB, Bool.and_eq_true, decide_eq_true_eq] at h
    exact ((headBs_byt (by omega) ht hf (by omega) (by omega)).app (numB_byt _)).app (numB_byt _)
  · exact Byt.nil

theorem isterm_any (w : World) (h : Int) : Calls Try.prog 36 #[.int .i64 h] w fun e w' => e = .returned (.bool (termB h)) ∧ Below w.heap.size w w' := by
  have hn := inumber_any h w
  have hl := numB_len h
  generalize numB h = N at hn hl
  generalize termB h = c at hl
  have HL := Lib.hid hl
  clear hl
  go_enter Try.func36, Try.ntmps36
  go_wp2_with fail
  refine hn.mono ?_
  rintro e w1 ⟨v, rfl, hr, hb⟩
  obtain ⟨ao, cap, rfl, _⟩ := hr
  clear hn
  cases c
  · have h0 : (N.length : Int) ≤ 0 := by have := HL.out; simp at this; simp [this]
    go_wp2_with fail
    go_ret
    exact ⟨ret_bool (decide_eq_false (by omega)), hb⟩
  · have h0 : (0 : Int) < (N.length : Int) := by have := HL.out; simp at this; omega
    go_wp2_with fail
    go_ret
    exact ⟨ret_bool (decide_eq_true (by omega)), hb⟩
set_option maxRecDepth 20000 in
set_option maxHeartbeats 2000000 in
theorem rightretry_any {w : World} {a2 a3 : Option Addr} {c2 c3 : Nat} {to fr : List Int} {ver tok tag : Int} :
    Calls Try.prog 28 #[.agg #[.int .i64 ver, .slice a2 to.length c2, .slice a3 fr.length c3, .int .i64 tok, .int .i64 tag]] w fun e w' => e = .returned (.bool (retryB ver to fr tok tag)) ∧ Below w.heap.size w w' := by
  have hB := below_alloc w (.cells #[.int .i64 ver, .slice a2 to.length c2, .slice a3 fr.length c3, .int .i64 tok, .int .i64 tag] 32)
  have x0 : (w.alloc (.cells #[.int .i64 ver, .slice a2 to.length c2, .slice a3 fr.length c3, .int .i64 tok, .int .i64 tag] 32)).heap[w.heap.size]? = some (.cells #[.int .i64 ver, .slice a2 to.length c2, .slice a3 fr.length c3, .int .i64 tok, .int .i64 tag] 32 (0, 0)) := heap_alloc_new w _
  have HX := Lib.hid x0
  have hv := isv_any (w.alloc (.cells #[.int .i64 ver, .slice a2 to.length c2, .slice a3 fr.length c3, .int .i64 tok, .int .i64 tag] 32)) ver
  have hn := names_any (w.alloc (.cells #[.int .i64 ver, .slice a2 to.length c2, .slice a3 fr.length c3, .int .i64 tok, .int .i64 tag] 32)) a2 a3 to.length c2 fr.length c3
  have h1 := isterm_any (w.alloc (.cells #[.int .i64 ver, .slice a2 to.length c2, .slice a3 fr.length c3, .int .i64 tok, .int .i64 tag] 32)) tok
  have h2 := fun w1 => isterm_any w1 tag
  unfold retryB
  generalize (decide (to.length ≤ 20) && decide (fr.length ≤ 20)) = nb at hn
  generalize verB ver = vb at hv
  generalize termB tok = tb at h1
  generalize termB tag = gb at h2
  clear x0
  cases vb with
  | false =>
    clear hn h1 h2
    simp only [Bool.false_and]
    go_enter Try.func28, Try.ntmps28
    go_wp2_with (go_at_call 33; refine hv.mono ?_; rintro e w' ⟨rfl, rfl⟩)
    go_ret
    exact ⟨rfl, hB⟩
  | true =>
    cases nb with
    | false =>
      clear h1 h2
      simp only [Bool.and_false, Bool.false_and]
      go_enter Try.func28, Try.ntmps28
      go_wp2_with (first | (go_at_call 33; refine hv.mono ?_; rintro e w' ⟨rfl, rfl⟩) | (go_at_call 34; refine hn.mono ?_; rintro e w' ⟨rfl, rfl⟩))
      go_ret
      exact ⟨rfl, hB⟩
    | true =>
      simp only [Bool.true_and]
      cases tb
      all_goals
        go_enter Try.func28, Try.ntmps28
        go_wp2_with (first | (go_at_call 33; refine hv.mono ?_; rintro e w' ⟨rfl, rfl⟩) | (go_at_call 34; refine hn.mono ?_; rintro e w' ⟨rfl, rfl⟩) | (go_at_call 36; refine h1.mono ?_; rintro e w1 ⟨rfl, b1⟩; have HX1 := Lib.hid ((b1.block w.heap.size (by simp)).trans HX.out); have y4 : w1.cell? ⟨w.heap.size, 4, none⟩ = some (.int .i64 tag) := (cell_of_row _ w.heap.size 4 _ _ (0, 0) HX1.out).trans rfl; clear h1) | (go_at_call 36; refine (h2 _).mono ?_; rintro e w2 ⟨rfl, b2⟩))
        go_ret
        first | exact ⟨rfl, hB.trans (b1.mono hB.size)⟩ | exact ⟨rfl, (hB.trans (b1.mono hB.size)).trans (b2.mono (Nat.le_trans hB.size b1.size))⟩
set_option maxRecDepth 20000 in
set_option maxHeartbeats 2000000 in
theorem writeretry_any {w : World} {a2 a3 : Option Addr} {c2 c3 : Nat} {to fr : List Int} {ver tok tag : Int} (h2 : Rd w (.slice a2 to.length c2) to) (h3 : Rd w (.slice a3 fr.length c3) fr) :
    Calls Try.prog 19 #[.agg #[.int .i64 ver, .slice a2 to.length c2, .slice a3 fr.length c3, .int .i64 tok, .int .i64 tag]] w fun e w' => ∃ v', e = .returned v' ∧ Rd w' v' (retryW ver to fr tok tag) ∧ Below w.heap.size w w' := by
  have hB := below_alloc w (.cells #[.int .i64 ver, .slice a2 to.length c2, .slice a3 fr.length c3, .int .i64 tok, .int .i64 tag] 32)
  have x0 : (w.alloc (.cells #[.int .i64 ver, .slice a2 to.length c2, .slice a3 fr.length c3, .int .i64 tok, .int .i64 tag] 32)).heap[w.heap.size]? = some (.cells #[.int .i64 ver, .slice a2 to.length c2, .slice a3 fr.length c3, .int .i64 tok, .int .i64 tag] 32 (0, 0)) := heap_alloc_new w _
  have HX := Lib.hid x0
  have hr := rightretry_any (w := w.alloc (.cells #[.int .i64 ver, .slice a2 to.length c2, .slice a3 fr.length c3, .int .i64 tok, .int .i64 tag] 32)) (a2 := a2) (c2 := c2) (a3 := a3) (c3 := c3) (to := to) (fr := fr) (ver := ver) (tok := tok) (tag := tag)
  have hbt := retryW_byt (ver := ver) (tok := tok) (tag := tag) h2.byt h3.byt
  have HBT := Lib.hid hbt
  clear x0 hbt
  cases hb : retryB ver to fr tok tag with
  | false =>
    have HE : Hid (retryW ver to fr tok tag = []) := Lib.hid (by unfold retryW; rw [hb]; rfl)
    rw [hb] at hr
    clear hb h2 h3
    go_enter Try.func19, Try.ntmps19
    go_wp2_with (go_at_call 28; refine hr.mono ?_; rintro e w1 ⟨rfl, b1⟩)
    go_ret
    exact ⟨_, rfl, by rw [HE.out]; exact Rd.nil _, hB.trans (b1.mono hB.size)⟩
  | true =>
    have HE : Hid (retryW ver to fr tok tag = headBs 240 ver to fr ++ numB tok ++ numB tag) := Lib.hid (by unfold retryW; rw [hb]; rfl)
    rw [hb] at hr
    simp only [retryB, Bool.and_eq_true, decide_eq_true_eq, verB] at hb
    obtain ⟨⟨⟨⟨hv0, hv1⟩, l2, l3⟩, t1⟩, t2⟩ := hb
    have H2 := Lib.hid h2
    have H3 := Lib.hid h3
    have HL2 := Lib.hid l2
    have HL3 := Lib.hid l3
    have HN1 : Hid ((numB tok).length = 4) := Lib.hid (by rw [numB_len, t1]; rfl)
    have HN2 : Hid ((numB tag).length = 4) := Lib.hid (by rw [numB_len, t2]; rfl)
    clear h2 h3 l2 l3 t1 t2
    go_enter Try.func19, Try.ntmps19
    go_wp2_with fail
    refine hr.mono ?_
    rintro e w1 ⟨rfl, b1⟩
    have HX1 := Lib.hid ((b1.block w.heap.size (by simp)).trans HX.out)
    have B1 := Lib.hid (hB.trans (b1.mono hB.size))
    have y0 : w1.cell? ⟨w.heap.size, 0, none⟩ = some (.int .i64 ver) := (cell_of_row _ w.heap.size 0 _ _ (0, 0) HX1.out).trans rfl
    have y1 : w1.cell? ⟨w.heap.size, 1, none⟩ = some (.slice a2 to.length c2) := (cell_of_row _ w.heap.size 1 _ _ (0, 0) HX1.out).trans rfl
    have y2 : w1.cell? ⟨w.heap.size, 2, none⟩ = some (.slice a3 fr.length c3) := (cell_of_row _ w.heap.size 2 _ _ (0, 0) HX1.out).trans rfl
    have hbe := begin_any (H2.out.below B1.out) (H3.out.below B1.out) HL2.out HL3.out 240 ver (by decide) (by decide) (by omega) hv1
    have hlt1 := blk_lt' HX1.out
    clear b1 hr
    go_wp2_with fail
    refine hbe.mono ?_
    rintro e w2 ⟨v2, rfl, o2, b2⟩
    have HX2 := Lib.hid ((b2.block w.heap.size hlt1).trans HX1.out)
    have B2 := Lib.hid (B1.out.trans (b2.mono B1.out.size))
    have hlt2 := blk_lt' HX2.out
    have O2 := Lib.hid (own_mono o2 (show w.heap.size + 1 ≤ w1.heap.size from hlt1))
    have z3 : w2.cell? ⟨w.heap.size, 3, none⟩ = some (.int .i64 tok) := (cell_of_row _ w.heap.size 3 _ _ (0, 0) HX2.out).trans rfl
    have hi1 := inumber_any tok w2
    clear b2 o2 hbe y0 y1 y2
    go_wp2_with fail
    refine hi1.mono ?_
    rintro e w3 ⟨v3, rfl, r3, b3⟩
    have R3 := Lib.hid r3
    have O3 := Lib.hid (own_below O2.out b3)
    have HX3 := Lib.hid ((b3.block w.heap.size hlt2).trans HX2.out)
    have B3 := Lib.hid (B2.out.trans (b3.mono B2.out.size))
    have hlt3 := blk_lt' HX3.out
    clear hi1 b3 r3 z3
    go_wp2_with (at_builtin; refine wpList_append_bytes (.tmp 14) (.tmp 17) 22 rfl rfl info5 Try.underlying22 (w.heap.size + 1) _ _ _ rfl O3.out _ _ rfl R3.out (by rw [headBs_len, HN1.out]; have := HL2.out; have := HL3.out; omega) hlt3 ?_; intro v4 w4 o4 b4; have HX4 := Lib.hid ((b4.block w.heap.size (by omega)).trans HX3.out); have B4 := Lib.hid (B3.out.trans (b4.mono (by omega))); have z4 : w4.cell? ⟨w.heap.size, 4, none⟩ = some (.int .i64 tag) := (cell_of_row _ w.heap.size 4 _ _ (0, 0) HX4.out).trans rfl; have O4 := Lib.hid o4; have hlt4 := blk_lt' HX4.out; clear o4 b4)
    have hi2 := inumber_any tag w4
    refine hi2.mono ?_
    rintro e w5 ⟨v5, rfl, r5, b5⟩
    have R5 := Lib.hid r5
    have O5 := Lib.hid (own_below O4.out b5)
    have B5 := Lib.hid (B4.out.trans (b5.mono B4.out.size))
    have hlt5 : w.heap.size + 1 ≤ w5.heap.size := Nat.le_trans hlt4 b5.size
    clear hi2 b5 r5 z4
    go_wp2_with (at_builtin; refine wpList_append_bytes (.tmp 19) (.tmp 22) 22 rfl rfl info5 Try.underlying22 (w.heap.size + 1) _ _ _ rfl O5.out _ _ rfl R5.out (by rw [headBs_len, HN1.out, HN2.out]; have := HL2.out; have := HL3.out; omega) hlt5 ?_; intro v6 w6 o6 b6; have B6 := Lib.hid (B5.out.trans (b6.mono (by omega))); have O6 := Lib.hid o6; clear o6 b6)
    go_ret
    exact ⟨_, rfl, by rw [HE.out]; exact (Rd.of_own O6.out (by have := HBT.out; rw [HE.out] at this; exact this)).1, B6.out⟩
end Go.Proofs.Ytkmjdpnbakcgcaa
