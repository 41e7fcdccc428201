/- The bytes of a list of versions: the program's. -/
import Derived.Test.YtkmjdpnbakcgcaaQHead
import Derived.Test.YtkmjdpnbakcgcaaQInt
namespace Go.Proofs.Ytkmjdpnbakcgcaa
open Go Go.RowKit

theorem blk_lt' {w : World} {b : Nat} {o : Obj} (h : w.heap[b]? = some o) : b < w.heap.size := (Array.getElem?_eq_some_iff.1 h).1
/-- May a list be? -/
def listB (to fr vs : List Int) : Bool := (decide (to.length ≤ 20) && decide (fr.length ≤ 20)) && decide (1 ≤ vs.length) && decide (vs.length ≤ 16) && vs.all verB
/-- The versions' bytes. -/
def versBs : List Int → List Int
  | [] => []
  | v :: r => big v 4 ++ versBs r
theorem versBs_app (a b : List Int) : versBs (a ++ b) = versBs a ++ versBs b := by
  induction a with
  | nil => rfl
  | cons x r ih => simp [versBs, ih]
theorem versBs_len (a : List Int) : (versBs a).length = 4 * a.length := by
  induction a with
  | nil => rfl
  | cons x r ih => simp [versBs, big_len, ih]; omega
theorem versBs_byt (a : List Int) : Byt (versBs a) := by
  induction a with
  | nil => exact Byt.nil
  | cons x r ih => exact (big_byt _ _).app ih
/-- A list's bytes; none, if it may not be. -/
def listW (to fr vs : List Int) : List Int := if listB to fr vs then headBs 128 0 to fr ++ versBs vs else []
theorem listW_byt {to fr vs : List Int} (ht : Byt to) (hf : Byt fr) : Byt (listW to fr vs) := by
  unfold listW
  split
  · rename_i h
    simp only [listB, Bool.and_eq_true, decide_eq_true_eq] at h
    exact (headBs_byt (by omega) ht hf (by omega) (by omega)).app (versBs_byt _)
  · exact Byt.nil

set_option maxRecDepth 20000 in
set_option maxHeartbeats 2000000 in
theorem rightlist_any {w : World} {a2 a3 ai : Option Addr} {c2 c3 ci : Nat} {to fr vs : List Int} (hi : Ri w (.slice ai vs.length ci) vs) (hl : vs.length ≤ 100000) :
    Calls Try.prog 24 #[.agg #[.slice a2 to.length c2, .slice a3 fr.length c3, .slice ai vs.length ci]] w fun e w' => e = .returned (.bool (listB to fr vs)) ∧ Below w.heap.size w w' := by
  have hB := below_alloc w (.cells #[.slice a2 to.length c2, .slice a3 fr.length c3, .slice ai vs.length ci] 52)
  have hn := names_any (w.alloc (.cells #[.slice a2 to.length c2, .slice a3 fr.length c3, .slice ai vs.length ci] 52)) a2 a3 to.length c2 fr.length c3
  have hc := contains_any (hi.below hB) hl
  unfold listB
  generalize (decide (to.length ≤ 20) && decide (fr.length ≤ 20)) = nb at hn
  generalize vs.all verB = cb at hc
  clear hi
  cases nb with
  | false =>
    clear hc
    simp only [Bool.false_and]
    go_enter Try.func24, Try.ntmps24
    go_wp2_with (go_at_call 34; refine hn.mono ?_; rintro e w' ⟨rfl, rfl⟩)
    go_ret
    exact ⟨rfl, hB⟩
  | true =>
    by_cases h1 : 1 ≤ vs.length
    · have h1' : (1 : Int) ≤ (vs.length : Int) := by omega
      by_cases h2 : vs.length ≤ 16
      · have h2' : (vs.length : Int) ≤ 16 := by omega
        rw [decide_eq_true h1, decide_eq_true h2]
        simp only [Bool.true_and]
        clear h1 h2
        go_enter Try.func24, Try.ntmps24
        go_wp2_with (first | (go_at_call 34; refine hn.mono ?_; rintro e w' ⟨rfl, rfl⟩) | (go_at_call 35; refine hc.mono ?_; rintro e w' ⟨rfl, rfl⟩))
        go_ret
        exact ⟨ret_bool (by simp), hB⟩
      · have h2' : ¬ (vs.length : Int) ≤ 16 := by omega
        rw [decide_eq_false h2]
        simp only [Bool.and_false, Bool.false_and]
        clear h1 h2 hc
        go_enter Try.func24, Try.ntmps24
        go_wp2_with (go_at_call 34; refine hn.mono ?_; rintro e w' ⟨rfl, rfl⟩)
        go_ret
        exact ⟨rfl, hB⟩
    · have h1' : ¬ (1 : Int) ≤ (vs.length : Int) := by omega
      rw [decide_eq_false h1]
      simp only [Bool.and_false, Bool.false_and]
      clear h1 hc
      go_enter Try.func24, Try.ntmps24
      go_wp2_with (go_at_call 34; refine hn.mono ?_; rintro e w' ⟨rfl, rfl⟩)
      go_ret
      exact ⟨rfl, hB⟩

theorem vers_take {vs : List Int} {k : Nat} (h : k < vs.length) : versBs (vs.take (k + 1)) = versBs (vs.take k) ++ big (vs.getD k 0) 4 := by
  rw [List.take_succ_eq_append_getElem h, versBs_app]
  simp [List.getD, h, versBs]
set_option maxRecDepth 20000 in
set_option maxHeartbeats 2000000 in
theorem writelist_no {w : World} {a2 a3 ai : Option Addr} {c2 c3 ci : Nat} {to fr vs : List Int} (hi : Ri w (.slice ai vs.length ci) vs) (hl : vs.length ≤ 100000) (hno : listB to fr vs = false) :
    Calls Try.prog 16 #[.agg #[.slice a2 to.length c2, .slice a3 fr.length c3, .slice ai vs.length ci]] w fun e w' => e = .returned (.slice none 0 0) ∧ Below w.heap.size w w' := by
  have hB := below_alloc w (.cells #[.slice a2 to.length c2, .slice a3 fr.length c3, .slice ai vs.length ci] 52)
  have hr := rightlist_any (a2 := a2) (c2 := c2) (a3 := a3) (c3 := c3) (to := to) (fr := fr) (hi.below hB) hl
  rw [hno] at hr
  clear hi hno
  go_enter Try.func16, Try.ntmps16
  go_wp2_with (go_at_call 24; refine hr.mono ?_; rintro e w1 ⟨rfl, b1⟩)
  go_ret
  exact ⟨rfl, hB.trans (b1.mono hB.size)⟩
set_option maxRecDepth 20000 in
set_option maxHeartbeats 4000000 in
theorem writelist_yes {w : World} {a2 a3 : Option Addr} {c2 c3 ci b off : Nat} {to fr vs : List Int} (h2 : Rd w (.slice a2 to.length c2) to) (h3 : Rd w (.slice a3 fr.length c3) fr) (hi : Ri w (.slice (some ⟨b, off, none⟩) vs.length ci) vs)
    (hcell : ∀ j, j < vs.length → w.cell? ⟨b, off + j, none⟩ = some (.int .i64 (vs.getD j 0))) (hyes : listB to fr vs = true) :
    Calls Try.prog 16 #[.agg #[.slice a2 to.length c2, .slice a3 fr.length c3, .slice (some ⟨b, off, none⟩) vs.length ci]] w fun e w' => ∃ v', e = .returned v' ∧ w'.ownsRow w.heap.size 5 1 v' (headBs 128 0 to fr ++ versBs vs).length (by8 (headBs 128 0 to fr ++ versBs vs)) ∧ Below w.heap.size w w' := by
  have hB := below_alloc w (.cells #[.slice a2 to.length c2, .slice a3 fr.length c3, .slice (some ⟨b, off, none⟩) vs.length ci] 52)
  have hs := hyes
  simp only [listB, Bool.and_eq_true, decide_eq_true_eq] at hs
  obtain ⟨⟨⟨⟨l2, l3⟩, l4⟩, l5⟩, hall⟩ := hs
  have hr := rightlist_any (a2 := a2) (c2 := c2) (a3 := a3) (c3 := c3) (to := to) (fr := fr) (hi.below hB) (by omega)
  rw [hyes] at hr
  have x0 : (w.alloc (.cells #[.slice a2 to.length c2, .slice a3 fr.length c3, .slice (some ⟨b, off, none⟩) vs.length ci] 52)).heap[w.heap.size]? = some (.cells #[.slice a2 to.length c2, .slice a3 fr.length c3, .slice (some ⟨b, off, none⟩) vs.length ci] 52 (0, 0)) := heap_alloc_new w _
  have HX := Lib.hid x0
  have H2 := Lib.hid h2
  have H3 := Lib.hid h3
  have HC := Lib.hid hcell
  have HA := Lib.hid hall
  have l5' : (vs.length : Int) ≤ 16 := by omega
  have HL2 := Lib.hid l2
  have HL3 := Lib.hid l3
  clear hi hyes x0 h2 h3 hcell hall l2 l3
  go_enter Try.func16, Try.ntmps16
  go_wp2_with fail
  refine hr.mono ?_
  rintro e w1 ⟨rfl, b1⟩
  have HX1 := Lib.hid ((b1.block w.heap.size (by simp)).trans HX.out)
  have B1 := Lib.hid (hB.trans (b1.mono hB.size))
  have y0 : w1.cell? ⟨w.heap.size, 0, none⟩ = some (.slice a2 to.length c2) := (cell_of_row _ w.heap.size 0 _ _ (0, 0) HX1.out).trans rfl
  have y1 : w1.cell? ⟨w.heap.size, 1, none⟩ = some (.slice a3 fr.length c3) := (cell_of_row _ w.heap.size 1 _ _ (0, 0) HX1.out).trans rfl
  have hbe := begin_any (H2.out.below B1.out) (H3.out.below B1.out) HL2.out HL3.out 128 0 (by decide) (by decide) (by decide) (by decide)
  have s1 := B1.out.size
  clear b1 hr
  go_wp2_with (go_at_call 25; refine hbe.mono ?_; rintro e w2 ⟨v2, rfl, o2, b2⟩; have HX2 := Lib.hid ((b2.block w.heap.size (blk_lt' HX1.out)).trans HX1.out); have B2 := Lib.hid (B1.out.trans (b2.mono s1)); have y2 : w2.cell? ⟨w.heap.size, 2, none⟩ = some (.slice (some ⟨b, off, none⟩) vs.length ci) := (cell_of_row _ w.heap.size 2 _ _ (0, 0) HX2.out).trans rfl; have O2 := Lib.hid o2; clear b2 o2 hbe)
  go_loopw [3, 17] (fun u i wr => ∃ k : Nat, k ≤ vs.length ∧ i = .int .i64 k ∧ wr.ownsRow w.heap.size 5 1 u (headBs 128 0 to fr ++ versBs (vs.take k)).length (by8 (headBs 128 0 to fr ++ versBs (vs.take k))) ∧ Below w.heap.size w wr) (fun _ i _ => vs.length - (intOf i).toNat)
  case atStart => exact ⟨0, by omega, rfl, by simpa [versBs] using own_mono O2.out s1, B2.out⟩
  case round =>
    obtain ⟨k, hk, rfl, hown, hbel⟩ := hrel
    have hk' : (k : Int) ≤ (vs.length : Int) := by omega
    have hsz := hbel.size
    clear y0 y1 y2
    by_cases hlt : k < vs.length
    · have hlt' : (k : Int) < (vs.length : Int) := by omega
      have hx : wr.cell? ⟨b, off + k, none⟩ = some (.int .i64 (vs.getD k 0)) := by rw [hbel.cell (p := ⟨b, off + k, none⟩) (cell_lt (HC.out k hlt))]; exact HC.out k hlt
      have hv : verB (vs.getD k 0) = true := by
        have : vs.getD k 0 = vs[k] := by simp [hlt]
        rw [this]; exact List.all_eq_true.1 HA.out _ (List.getElem_mem hlt)
      simp only [verB, Bool.and_eq_true, decide_eq_true_eq] at hv
      obtain ⟨hv0, hv1⟩ := hv
      have HT := Lib.hid (vers_take hlt)
      have hln : (headBs 128 0 to fr ++ versBs (vs.take k)).length ≤ 100000 := by have h2 := HL2.out; have h3 := HL3.out; rw [List.length_append, headBs_len, versBs_len, List.length_take]; omega
      generalize vs.getD k 0 = x at hx hv0 hv1 HT
      have hap := fappend_any hown hsz hln x (by omega) hv1 4 (by decide)
      clear hln hown
      go_wp2_with (go_at_call 26; refine hap.mono ?_; rintro e w3 ⟨v3, rfl, o3, b3⟩)
      go_roundw
      case rel => exact ⟨k + 1, by omega, by go_num, by rw [HT.out, ← List.append_assoc, List.length_append, big_len]; exact o3, hbel.trans b3⟩
      case measure => simp [intOf]; omega
    · obtain rfl : k = vs.length := by omega
      rw [List.take_of_length_le (Nat.le_refl _)] at hown
      have HO := Lib.hid hown
      clear hown
      go_wp2_with fail
      go_ret
      exact ⟨_, rfl, HO.out, hbel⟩
end Go.Proofs.Ytkmjdpnbakcgcaa
