/- What both sides tell of a sealed thing's bytes: its number and its content's length. -/
import Derived.Test.YthgegjdmmjjffaaIdSame
namespace Go.Proofs.Ythgegjdmmjjffaa
open Go Go.RowKit

/-- A piece of what reads reads. -/
theorem Rd.sub {k : IntKind} {w : World} {b off n cap : Nat} {zs : List Int} (h : Rd k w (.slice (some ⟨b, off, none⟩) n cap) zs) (i j : Nat) (hij : i ≤ j) (hj : j ≤ zs.length) (hc : i < cap) :
    Rd k w (.slice (some ⟨b, off + i, none⟩) (j - i) (cap - i)) ((zs.take j).drop i) := by
  obtain ⟨ao, cap', hv, h1, h2, h3, hcell⟩ := h
  simp only [Value.slice.injEq] at hv
  obtain ⟨rfl, rfl, rfl⟩ := hv
  have hl : ((zs.take j).drop i).length = j - i := by simp; omega
  refine ⟨some ⟨b, off + i, none⟩, cap - i, by rw [hl], by omega, by omega, (fun h => by cases h), fun a ha q hq => ?_⟩
  cases ha
  rw [hl] at hq
  have := hcell _ rfl (i + q) (by omega)
  rw [Addr.add_lit] at this ⊢
  rw [show off + i + q = off + (i + q) by omega, this]
  simp [List.getD, show i + q < j by omega, show i + q < zs.length by omega]

def Good (zs : List Int) : Prop := 16 ≤ zs.length ∧ zs.length ≤ 1216 ∧ numd (zs.take 4) ≠ 0 ∧ allZero (zs.drop 4) = true
instance (zs : List Int) : Decidable (Good zs) := by unfold Good; infer_instance
/-- The number and the length that bytes say; zeros: they say none. -/
def unwd (zs : List Int) : Int × Int := if Good zs then (numd (zs.take 4), (zs.length : Int) - 16) else (0, 0)
theorem unwd_yes {zs : List Int} (h : Good zs) : unwd zs = (numd (zs.take 4), (zs.length : Int) - 16) := if_pos h
theorem unwd_no {zs : List Int} (h : ¬ Good zs) : unwd zs = (0, 0) := if_neg h

set_option maxRecDepth 20000 in
set_option maxHeartbeats 800000 in
theorem unwrap_any {w : World} {v : Value} {zs : List Int} (h : Rd .u8 w v zs) (hb : Byts zs) :
    Calls Try.prog 42 #[v] w fun e w' => e = .returned (.tuple #[.int .i64 (unwd zs).1, .int .i64 (unwd zs).2, .bool (decide ((unwd zs).1 ≠ 0))]) ∧ w = w' := by
  have hlm := h.len
  have e1 : wrap64 ((zs.length : Int) - 4) = (zs.length : Int) - 4 := by unfold wrap64; omega
  have e2 : wrap64 ((zs.length : Int) - 4 - 12) = (zs.length : Int) - 4 - 12 := by unfold wrap64; omega
  by_cases hs : zs.length < 16
  · rw [unwd_no (fun g => by have := g.1; omega), show decide (((0 : Int), (0 : Int)).1 ≠ 0) = false from rfl]
    obtain ⟨ao, cap, rfl, _⟩ := h
    have t1 : decide ((zs.length : Int) - 4 - 12 < 0) = true := decide_eq_true (by omega)
    clear hs hb hlm
    go_enter Try.func42, Try.ntmps42
    go_wp2
    go_ret3
    exact ⟨rfl, rfl⟩
  · have t1 : decide ((zs.length : Int) - 4 - 12 < 0) = false := decide_eq_false (by omega)
    by_cases hs2 : 1216 < zs.length
    · rw [unwd_no (fun g => by have := g.2.1; omega), show decide (((0 : Int), (0 : Int)).1 ≠ 0) = false from rfl]
      obtain ⟨ao, cap, rfl, _⟩ := h
      have t2 : decide ((1200 : Int) < (zs.length : Int) - 4 - 12) = true := decide_eq_true (by omega)
      clear hs hs2 hb hlm
      go_enter Try.func42, Try.ntmps42
      go_wp2
      go_ret3
      exact ⟨rfl, rfl⟩
    · have t2 : decide ((1200 : Int) < (zs.length : Int) - 4 - 12) = false := decide_eq_false (by omega)
      rcases h.cases with ⟨h0, _⟩ | ⟨b, off, cap, rfl, _, hlc, hcap, _, hcell⟩
      · rw [h0] at hs; simp at hs
      clear hcell
      have h4 := h.sub 0 4 (by omega) (by omega) (by omega)
      have hN := h.sub 4 zs.length (by omega) (Nat.le_refl _) (by omega)
      simp only [Nat.add_zero, Nat.sub_zero, List.drop_zero, List.take_length] at h4 hN
      have hn := numbered_any h4 (hb.take 4)
      have hz := contains_any hN
      have HG : Hid (Good zs ↔ numd (zs.take 4) ≠ 0 ∧ allZero (zs.drop 4) = true) := Lib.hid ⟨fun g => ⟨g.2.2.1, g.2.2.2⟩, fun g => ⟨by omega, by omega, g.1, g.2⟩⟩
      have HU1 : Hid (Good zs → unwd zs = (numd (zs.take 4), (zs.length : Int) - 16)) := Lib.hid unwd_yes
      have HU2 : Hid (¬ Good zs → unwd zs = (0, 0)) := Lib.hid unwd_no
      have HS : Hid (16 ≤ zs.length) := Lib.hid (by omega)
      have hc4 : (4 : Int) ≤ (cap : Int) := by omega
      have hc4' : (4 : Int) ≤ (zs.length : Int) := by omega
      have hne4 : ¬ cap = 4 := by omega
      generalize numd (zs.take 4) = N at *
      generalize allZero (zs.drop 4) = Z at *
      clear h h4 hN hb hs hs2 hlm
      by_cases hN0 : N = 0
      · have HU := HU2.out (fun g => (HG.out.1 g).1 hN0)
        rw [HU, show decide (((0 : Int), (0 : Int)).1 ≠ 0) = false from rfl]
        subst hN0
        rw [show decide ((0 : Int) ≠ 0) = false from rfl] at hn
        clear HU hz HG HU1 HU2
        go_enter Try.func42, Try.ntmps42
        go_wp2_with (go_at_call 44; refine hn.mono ?_; rintro e w' ⟨rfl, rfl⟩)
        go_ret3
        exact ⟨rfl, rfl⟩
      · rw [decide_eq_true hN0] at hn
        cases Z with
        | false =>
          have HU := HU2.out (fun g => by cases (HG.out.1 g).2)
          rw [HU, show decide (((0 : Int), (0 : Int)).1 ≠ 0) = false from rfl]
          clear HU HG HU1 HU2 hN0
          go_enter Try.func42, Try.ntmps42
          go_wp2_with (first | (go_at_call 44; refine hn.mono ?_; rintro e w' ⟨rfl, rfl⟩) | (go_at_call 74; refine hz.mono ?_; rintro e w' ⟨rfl, rfl⟩))
          go_ret3
          exact ⟨rfl, rfl⟩
        | true =>
          have HU := HU1.out (HG.out.2 ⟨hN0, rfl⟩)
          rw [HU, decide_eq_true hN0]
          have HE : Hid ((zs.length : Int) - 4 - 12 = (zs.length : Int) - 16) := Lib.hid (by omega)
          clear HU HG HU1 HU2 hN0
          go_enter Try.func42, Try.ntmps42
          go_wp2_with (first | (go_at_call 44; refine hn.mono ?_; rintro e w' ⟨rfl, rfl⟩) | (go_at_call 74; refine hz.mono ?_; rintro e w' ⟨rfl, rfl⟩))
          go_ret3
          exact ⟨congrArg (fun z => Ending.returned (Value.tuple #[.int .i64 N, .int .i64 z, .bool true])) HE.out, rfl⟩

set_option maxRecDepth 20000 in
set_option maxHeartbeats 1000000 in
theorem runwrap_any {w : World} {v : Value} {zs : List Int} (h : Rd .u8 w v zs) (hb : Byts zs) :
    Calls Try.prog 43 #[v] w fun e w' => e = .returned (.tuple #[.int .i64 (unwd zs).1, .int .i64 (unwd zs).2]) ∧ Below w.heap.size w w' := by
  have hlm := h.len
  by_cases hs : zs.length < 16
  · rw [unwd_no (fun g => by have := g.1; omega)]
    obtain ⟨ao, cap, rfl, _⟩ := h
    have t1 : decide ((zs.length : Int) < 16) = true := decide_eq_true (by omega)
    clear hs hb hlm
    go_enter Try.func43, Try.ntmps43
    go_wp2
    go_ret2
    exact ⟨rfl, Below.refl _ _⟩
  · have t1 : decide ((zs.length : Int) < 16) = false := decide_eq_false (by omega)
    by_cases hs2 : 1216 < zs.length
    · rw [unwd_no (fun g => by have := g.2.1; omega)]
      obtain ⟨ao, cap, rfl, _⟩ := h
      have t2 : decide ((1216 : Int) < (zs.length : Int)) = true := decide_eq_true (by omega)
      clear hs hs2 hb hlm
      go_enter Try.func43, Try.ntmps43
      go_wp2
      go_ret2
      exact ⟨rfl, Below.refl _ _⟩
    · have t2 : decide ((1216 : Int) < (zs.length : Int)) = false := decide_eq_false (by omega)
      rcases h.cases with ⟨h0, _⟩ | ⟨b, off, cap, rfl, _, hlc, hcap, _, hcell⟩
      · rw [h0] at hs; simp at hs
      clear hcell
      have h4 : ∀ {w'}, Below w.heap.size w w' → Rd .u8 w' (.slice (some ⟨b, off, none⟩) 4 cap) (zs.take 4) := fun hb => by
        have := (h.below hb).sub 0 4 (by omega) (by omega) (by omega)
        simpa using this
      have hn := fun w' (hw : Below w.heap.size w w') => rnumbered_any (h4 hw) (hb.take 4)
      have HG : Hid (Good zs ↔ numd (zs.take 4) ≠ 0 ∧ allZero (zs.drop 4) = true) := Lib.hid ⟨fun g => ⟨g.2.2.1, g.2.2.2⟩, fun g => ⟨by omega, by omega, g.1, g.2⟩⟩
      have HU1 : Hid (Good zs → unwd zs = (numd (zs.take 4), (zs.length : Int) - 16)) := Lib.hid unwd_yes
      have HU2 : Hid (¬ Good zs → unwd zs = (0, 0)) := Lib.hid unwd_no
      have HS : Hid (16 ≤ zs.length ∧ zs.length ≤ 1216) := Lib.hid (by omega)
      have hc4 : (4 : Int) ≤ (cap : Int) := by omega
      generalize numd (zs.take 4) = N at *
      clear h4 hb hs hs2 hlm
      by_cases hN0 : N = 0
      · have HU := HU2.out (fun g => (HG.out.1 g).1 hN0)
        rw [HU]
        subst hN0
        have hn0 := hn w (Below.refl _ w)
        clear HU HG HU1 HU2 h hn
        go_enter Try.func43, Try.ntmps43
        go_wp2_with (go_at_call 45; refine hn0.mono ?_; rintro e w' ⟨rfl, hb1⟩)
        go_ret2
        exact ⟨rfl, hb1⟩
      · have hn0 := hn w (Below.refl _ w)
        have tN : (N == 0) = false := beq_eq_false_iff_ne.2 hN0
        have HN0 := Lib.hid hN0
        have HN := Lib.hid hn
        have HH := Lib.hid h
        clear hN0 hn h
        go_enter Try.func43, Try.ntmps43
        go_wp2_with (go_at_call 45; refine hn0.mono ?_; rintro e w1 ⟨rfl, hb1⟩)
        clear hn0
        go_loopw [4] (fun i wr => ∃ k : Nat, 4 ≤ k ∧ k ≤ zs.length ∧ i = .int .i64 k ∧ allZero ((zs.take k).drop 4) = true ∧ Below w.heap.size w wr) (fun i _ => zs.length - (intOf i).toNat)
        case atStart => exact ⟨4, Nat.le_refl _, by have := HS.out; omega, rfl, by simp [allZero], hb1⟩
        case round =>
          obtain ⟨k, hk4, hk, rfl, ht, hbr⟩ := hrel
          by_cases hlt : k < zs.length
          · rcases (HH.out.below hbr).cases with ⟨h0, _⟩ | ⟨b1, o1, c1, ee, _, _, _, _, hc1⟩
            · rw [h0] at hlt; simp at hlt
            simp only [Value.slice.injEq, Option.some.injEq, Addr.mk.injEq, and_true, true_and] at ee
            obtain ⟨⟨rfl, rfl⟩, rfl⟩ := ee
            have g1 := hc1 k hlt
            have hi : (k : Int) < (zs.length : Int) := by omega
            have HX : Hid (allZero ((zs.take (k + 1)).drop 4) = (zs.getD k 0 == 0)) := Lib.hid (by
              unfold allZero at ht ⊢
              rw [List.take_succ_eq_append_getElem hlt, List.drop_append_of_le_length (by simp; omega), List.all_append, ht]
              simp [hlt])
            have HA : Hid ((zs.getD k 0 == 0) = false → allZero (zs.drop 4) = false) := Lib.hid (by
              intro hz
              unfold allZero
              rw [List.all_eq_false]
              refine ⟨zs[k], List.mem_drop_iff_getElem.2 ⟨k - 4, by omega, by simp [show 4 + (k - 4) = k by omega]⟩, ?_⟩
              simpa [hlt] using hz)
            clear hc1 ht
            generalize zs.getD k 0 = x at *
            by_cases hx : x = 0
            · subst hx
              go_wp2
              go_roundw
              case rel => exact ⟨k + 1, by omega, by omega, by go_num, HX.out, hbr⟩
              case measure => simp [intOf]; omega
            · have hz : (x != 0) = true := bne_iff_ne.2 hx
              have HE : Hid (unwd zs = (0, 0)) := Lib.hid (HU2.out (fun g => by rw [HA.out (beq_eq_false_iff_ne.2 hx)] at HG; exact absurd (HG.out.1 g).2 (by simp)))
              clear hx
              go_wp2
              go_ret2
              exact ⟨by rw [HE.out]; rfl, hbr⟩
          · have he : allZero (zs.drop 4) = true := by
              rw [List.take_of_length_le (by omega)] at ht
              exact ht
            have HU := Lib.hid (HU1.out (HG.out.2 ⟨HN0.out, he⟩))
            have hn9 := HN.out wr hbr
            have e1 : wrap64 ((zs.length : Int) - 16) = (zs.length : Int) - 16 := by have := HS.out; unfold wrap64; omega
            clear he ht
            go_wp2_with (go_at_call 45; refine hn9.mono ?_; rintro e w9 ⟨rfl, hb9⟩)
            go_ret2
            exact ⟨by rw [HU.out]; rfl, hbr.trans (hb9.mono hbr.size)⟩
#print axioms unwrap_any
#print axioms runwrap_any
end Go.Proofs.Ythgegjdmmjjffaa
