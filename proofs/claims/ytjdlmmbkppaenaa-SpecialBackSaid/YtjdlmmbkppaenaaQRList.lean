/- The bytes of a list of versions: the document's; both, told as bytes. -/
import Derived.Test.YtjdlmmbkppaenaaQList
namespace Go.Proofs.Ytjdlmmbkppaenaa
open Go Go.RowKit

/-- A list's value. -/
abbrev listV (a2 : Option Addr) (n2 c2 : Nat) (a3 : Option Addr) (n3 c3 : Nat) (ai : Option Addr) (ni ci : Nat) : Value := .agg #[.slice a2 n2 c2, .slice a3 n3 c3, .slice ai ni ci]
theorem writelist_any {w : World} {a2 a3 ai : Option Addr} {c2 c3 ci : Nat} {to fr vs : List Int} (h2 : Rd w (.slice a2 to.length c2) to) (h3 : Rd w (.slice a3 fr.length c3) fr) (hi : Ri w (.slice ai vs.length ci) vs) (hl : vs.length ≤ 100000) :
    Calls Try.prog 9 #[.agg #[.slice a2 to.length c2, .slice a3 fr.length c3, .slice ai vs.length ci]] w fun e w' => ∃ v', e = .returned v' ∧ Rd w' v' (listW to fr vs) ∧ Below w.heap.size w w' := by
  cases hb : listB to fr vs with
  | false =>
    have e : listW to fr vs = [] := by unfold listW; rw [hb]; rfl
    rw [e]
    exact (writelist_no hi hl hb).mono fun e w' ⟨h, hb⟩ => ⟨_, h, Rd.nil _, hb⟩
  | true =>
    have e : listW to fr vs = headBs 128 0 to fr ++ versBs vs := by unfold listW; rw [hb]; rfl
    have hbt := listW_byt (to := to) (fr := fr) (vs := vs) h2.byt h3.byt
    rw [e] at hbt ⊢
    rcases hi.cases with ⟨rfl, _⟩ | ⟨b, off, cap, e2, _, _, h5⟩
    · simp [listB] at hb
    · simp only [Value.slice.injEq] at e2
      obtain ⟨rfl, _, rfl⟩ := e2
      exact (writelist_yes h2 h3 hi h5 hb).mono fun e w' ⟨v, h, ho, hb⟩ => ⟨v, h, (Rd.of_own ho hbt).1, hb⟩

/-- Are a list's sizes right? -/
def sizesB (to fr vs : List Int) : Bool := (decide (to.length ≤ 20) && decide (fr.length ≤ 20)) && decide (1 ≤ vs.length) && decide (vs.length ≤ 16)
theorem listB_sizes (to fr vs : List Int) : listB to fr vs = (sizesB to fr vs && vs.all verB) := rfl
set_option maxRecDepth 20000 in
set_option maxHeartbeats 2000000 in
theorem rwl_no {w : World} {a2 a3 ai : Option Addr} {c2 c3 ci : Nat} {to fr vs : List Int} (hno : sizesB to fr vs = false) :
    Calls Try.prog 11 #[.agg #[.slice a2 to.length c2, .slice a3 fr.length c3, .slice ai vs.length ci]] w fun e w' => e = .returned (.slice none 0 0) ∧ Below w.heap.size w w' := by
  have hB := below_alloc w (.cells #[.slice a2 to.length c2, .slice a3 fr.length c3, .slice ai vs.length ci] 25)
  unfold sizesB at hno
  by_cases l2 : 20 < to.length
  · have l2' : (20 : Int) < (to.length : Int) := by omega
    clear hno
    go_enter Try.func11, Try.ntmps11
    go_wp2_with fail
    go_ret
    exact ⟨rfl, hB⟩
  have l2' : (to.length : Int) ≤ 20 := by omega
  by_cases l3 : 20 < fr.length
  · have l3' : (20 : Int) < (fr.length : Int) := by omega
    clear hno
    go_enter Try.func11, Try.ntmps11
    go_wp2_with fail
    go_ret
    exact ⟨rfl, hB⟩
  have l3' : (fr.length : Int) ≤ 20 := by omega
  by_cases l4 : vs.length < 1
  · have l4' : (vs.length : Int) < 1 := by omega
    clear hno
    go_enter Try.func11, Try.ntmps11
    go_wp2_with fail
    go_ret
    exact ⟨rfl, hB⟩
  have l4' : (1 : Int) ≤ (vs.length : Int) := by omega
  have l5 : (16 : Int) < (vs.length : Int) := by
    simp only [Bool.and_eq_false_iff, decide_eq_false_iff_not] at hno
    omega
  clear hno
  go_enter Try.func11, Try.ntmps11
  go_wp2_with fail
  go_ret
  exact ⟨rfl, hB⟩
set_option maxRecDepth 20000 in
set_option maxHeartbeats 4000000 in
theorem rwl_yes {w : World} {a2 a3 : Option Addr} {c2 c3 ci b off : Nat} {to fr vs : List Int} (h2 : Rd w (.slice a2 to.length c2) to) (h3 : Rd w (.slice a3 fr.length c3) fr)
    (hcell : ∀ j, j < vs.length → w.cell? ⟨b, off + j, none⟩ = some (.int .i64 (vs.getD j 0))) (hyes : sizesB to fr vs = true) (hbt : Byt (listW to fr vs)) :
    Calls Try.prog 11 #[.agg #[.slice a2 to.length c2, .slice a3 fr.length c3, .slice (some ⟨b, off, none⟩) vs.length ci]] w fun e w' => ∃ v', e = .returned v' ∧ Rd w' v' (listW to fr vs) ∧ Below w.heap.size w w' := by
  have hB := below_alloc w (.cells #[.slice a2 to.length c2, .slice a3 fr.length c3, .slice (some ⟨b, off, none⟩) vs.length ci] 25)
  have hs := hyes
  simp only [sizesB, Bool.and_eq_true, decide_eq_true_eq] at hs
  obtain ⟨⟨⟨l2, l3⟩, l4⟩, l5⟩ := hs
  have x0 : (w.alloc (.cells #[.slice a2 to.length c2, .slice a3 fr.length c3, .slice (some ⟨b, off, none⟩) vs.length ci] 25)).heap[w.heap.size]? = some (.cells #[.slice a2 to.length c2, .slice a3 fr.length c3, .slice (some ⟨b, off, none⟩) vs.length ci] 25 (0, 0)) := heap_alloc_new w _
  have HX := Lib.hid x0
  have hhe := rhead_any (h2.below hB) (h3.below hB) l2 l3 128 0 (by decide) (by decide) (by decide) (by decide)
  have HC := Lib.hid hcell
  have HBT := Lib.hid hbt
  have HS := Lib.hid hyes
  have l2' : (to.length : Int) ≤ 20 := by omega
  have l3' : (fr.length : Int) ≤ 20 := by omega
  have l4' : (1 : Int) ≤ (vs.length : Int) := by omega
  have l5' : (vs.length : Int) ≤ 16 := by omega
  have HL := Lib.hid (And.intro l2 l3)
  clear hyes x0 h2 h3 hcell l2 l3 l4 hbt
  go_enter Try.func11, Try.ntmps11
  go_wp2_with fail
  refine hhe.mono ?_
  rintro e w2 ⟨v2, rfl, o2, b2⟩
  have HX2 := Lib.hid ((b2.block w.heap.size (by simp)).trans HX.out)
  have B2 := Lib.hid (hB.trans (b2.mono hB.size))
  have O2 := Lib.hid o2
  have s2 := B2.out.size
  have hlt2 := blk_lt' HX2.out
  clear b2 o2 hhe
  go_wp2_with fail
  go_loopw [3, 4] (fun u i wr => ∃ k : Nat, k ≤ vs.length ∧ i = .int .i64 k ∧ (vs.take k).all verB = true ∧ wr.ownsRow (w.heap.size + 1) 5 1 u (headBs 128 0 to fr ++ versBs (vs.take k)).length (by8 (headBs 128 0 to fr ++ versBs (vs.take k))) ∧ Below (w.heap.size + 1) w2 wr) (fun _ i _ => vs.length - (intOf i).toNat)
  case atStart => exact ⟨0, by omega, rfl, by simp, by simpa [versBs] using O2.out, Below.refl _ _⟩
  case round =>
    obtain ⟨k, hk, rfl, hal, hown, hbel⟩ := hrel
    have hk' : (k : Int) ≤ (vs.length : Int) := by omega
    have hbw : Below w.heap.size w wr := B2.out.trans (hbel.mono (by omega))
    have HXr := Lib.hid ((hbel.block w.heap.size (by omega)).trans HX2.out)
    have y2 : wr.cell? ⟨w.heap.size, 2, none⟩ = some (.slice (some ⟨b, off, none⟩) vs.length ci) := (cell_of_row _ w.heap.size 2 _ _ (0, 0) HXr.out).trans rfl
    have hsz : w.heap.size + 1 ≤ wr.heap.size := Nat.le_trans hlt2 hbel.size
    by_cases hlt : k < vs.length
    · have hlt' : (k : Int) < (vs.length : Int) := by omega
      have hx : wr.cell? ⟨b, off + k, none⟩ = some (.int .i64 (vs.getD k 0)) := by rw [hbw.cell (p := ⟨b, off + k, none⟩) (cell_lt (HC.out k hlt))]; exact HC.out k hlt
      have HT := Lib.hid (vers_take hlt)
      have HA := Lib.hid (all_take (p := verB) hlt)
      have HAL := Lib.hid hal
      have hm : verB (vs.getD k 0) = false → listW to fr vs = [] := fun h => by
        have : vs.all verB = false := by
          rw [Bool.eq_false_iff]
          intro hc
          have hmem : vs.getD k 0 ∈ vs := by
            have : vs.getD k 0 = vs[k] := by simp [hlt]
            rw [this]; exact List.getElem_mem hlt
          rw [List.all_eq_true.1 hc _ hmem] at h
          cases h
        unfold listW
        rw [listB_sizes, this, Bool.and_false]
        rfl
      have HM := Lib.hid hm
      have hln : (headBs 128 0 to fr ++ versBs (vs.take k)).length ≤ 100000 := by have h := HL.out; rw [List.length_append, headBs_len, versBs_len, List.length_take]; omega
      clear hal hm
      generalize vs.getD k 0 = x at hx HT HM HA
      by_cases c1 : x < 1
      · have HE := Lib.hid (HM.out (by unfold verB; rw [decide_eq_false (p := 0 < x) (by omega)]; rfl))
        clear hown hln HM
        go_wp2_with fail
        go_ret
        exact ⟨_, rfl, by rw [HE.out]; exact Rd.nil _, hbw⟩
      by_cases c2 : 4294967295 < x
      · have HE := Lib.hid (HM.out (by unfold verB; rw [decide_eq_false (p := x < 4294967296) (by omega), Bool.and_false]))
        clear hown hln HM
        go_wp2_with fail
        go_ret
        exact ⟨_, rfl, by rw [HE.out]; exact Rd.nil _, hbw⟩
      have HV : Hid (verB x = true) := Lib.hid (by unfold verB; rw [decide_eq_true (p := 0 < x) (by omega), decide_eq_true (p := x < 4294967296) (by omega)]; rfl)
      have hbg := refbig_any (w := wr) x (by omega) (by omega) 4 (by decide)
      have HO := Lib.hid hown
      have HLN := Lib.hid hln
      clear hown hln HM
      go_wp2_with (first | (go_at_call 30; refine hbg.mono ?_; rintro e w3 ⟨v3, rfl, o3, b3⟩; have O4 := Lib.hid (own_below HO.out b3); have R3 := Lib.hid (Rd.of_own o3 (big_byt _ _)).1; have B3 := Lib.hid (hbel.trans (b3.mono hsz)); have s3 := Nat.le_trans hsz b3.size; clear o3 b3) | (at_builtin; refine wpList_append_bytes (.tmp 53) (.tmp 59) 22 rfl rfl info5 Try.underlying22 (w.heap.size + 1) _ _ _ rfl O4.out _ _ rfl R3.out (by have := HLN.out; rw [big_len]; omega) s3 ?_; intro v5 w5 o5 b5; have B5 := Lib.hid (B3.out.trans b5); clear b5))
      go_roundw
      case rel => exact ⟨k + 1, by omega, by go_num, by rw [HA.out, HAL.out, HV.out]; rfl, by rw [HT.out, ← List.append_assoc]; simpa only [List.length_append] using o5, B5.out⟩
      case measure => simp [intOf]; omega
    · obtain rfl : k = vs.length := by omega
      rw [List.take_of_length_le (Nat.le_refl _)] at hown hal
      have HE : Hid (listW to fr vs = headBs 128 0 to fr ++ versBs vs) := Lib.hid (by unfold listW; rw [listB_sizes, HS.out, hal]; rfl)
      have HO := Lib.hid hown
      clear hown hal
      go_wp2_with fail
      go_ret
      exact ⟨_, rfl, by rw [HE.out]; exact (Rd.of_own HO.out (by have := HBT.out; rw [HE.out] at this; exact this)).1, hbw⟩
theorem rwritelist_any {w : World} {a2 a3 ai : Option Addr} {c2 c3 ci : Nat} {to fr vs : List Int} (h2 : Rd w (.slice a2 to.length c2) to) (h3 : Rd w (.slice a3 fr.length c3) fr) (hi : Ri w (.slice ai vs.length ci) vs) :
    Calls Try.prog 11 #[.agg #[.slice a2 to.length c2, .slice a3 fr.length c3, .slice ai vs.length ci]] w fun e w' => ∃ v', e = .returned v' ∧ Rd w' v' (listW to fr vs) ∧ Below w.heap.size w w' := by
  cases hb : sizesB to fr vs with
  | false =>
    have e : listW to fr vs = [] := by unfold listW; rw [listB_sizes, hb]; rfl
    rw [e]
    exact (rwl_no hb).mono fun e w' ⟨h, hb⟩ => ⟨_, h, Rd.nil _, hb⟩
  | true =>
    rcases hi.cases with ⟨rfl, _⟩ | ⟨b, off, cap, e2, _, _, h5⟩
    · simp [sizesB] at hb
    · simp only [Value.slice.injEq] at e2
      obtain ⟨rfl, _, rfl⟩ := e2
      exact rwl_yes h2 h3 h5 hb (listW_byt h2.byt h3.byt)
end Go.Proofs.Ytjdlmmbkppaenaa
