/- law 6: FrameKinds, FrameAgain, FrameJoins: the walks. -/
import Derived.Test.YtocfkkppalpamaaDoorGRd10
import Derived.Test.YtocfkkppalpamaaDoorGAwk
namespace Go.Proofs.YtocfkkppalpamaaDoor
open Go Go.RowKit

theorem plain_inG {W : World} {r : Reach} {b : Nat} {a : Option Addr} {len cap : Nat} (h : Value.okWide Tryd.prog W r b 26 (.slice a len cap)) : Plain (.slice a len cap) := by
  unfold Value.okWide at h
  rw [Tryd.underlying26] at h
  simp only [Cell.okWide, Tryd.underlying26, Cell.ok] at h
  cases a with
  | none =>
    split at h
    all_goals first
      | (rename_i e1 e2; cases e1; cases e2; exact .inl rfl)
      | (exfalso; simp_all; done)
  | some x =>
    obtain ⟨b, off, spot⟩ := x
    have hs : spot = none := h.2.2.2.1
    subst hs
    exact .inr ⟨_, _, _, _, rfl⟩
theorem gRead_one (z : Int) : gRead [z] = if z = 0 then some [⟨0, 1, [], 0, [], 0⟩] else if z = 1 then some [⟨1, 0, [], 0, [], 0⟩] else if z = 30 then some [⟨30, 0, [], 0, [], 0⟩] else none := by
  have hv : gVar [z] 1 = none := by simp [gVar, rd]
  have hg : gTerm [z] 1 = none := by simp [gTerm, gBytes]
  have ha : gAck [z] 1 = none := by simp [gAck, hv]
  unfold gRead
  simp only [List.length_singleton, gAll, gFrame, List.drop_zero]
  unfold gBody
  by_cases h0 : z = 0
  · subst h0; simp [zeros]
  by_cases h1 : z = 1
  · subst h1; simp
  by_cases h30 : z = 30
  · subst h30; simp
  by_cases h2 : z = 2
  · subst h2; simp [ha]
  by_cases h6 : z = 6
  · subst h6; simp [hv]
  by_cases h7 : z = 7
  · subst h7; simp [hg]
  by_cases h8 : z = 8
  · subst h8; simp [hv]
  by_cases h28 : z = 28
  · subst h28; simp [hv]
  simp [h0, h1, h30, h2, h6, h7, h8, h28]
theorem stand_len : ∀ (l : List Fv), standF l → l.length ≤ (wrAll l).length := by
  intro l
  induction l with
  | nil => intro _; simp
  | cons f r ih =>
    rintro ⟨h1, _, h3⟩
    have := ih h3
    have := wrF_pos h1
    simp only [wrAll, List.length_append, List.length_cons]
    omega
set_option maxRecDepth 20000 in
set_option maxHeartbeats 4000000 in
theorem gkinds_walk {w : World} {z : Int} (hz : 0 ≤ z ∧ z ≤ 255) (ht : Tab w) : Calls Tryd.prog 8 #[.int .u8 z] w fun e w' => e = .returned (.bool true) ∧ Below w.heap.size w w' := by
  have hr0 : Rd (w.alloc (.cells (by8 [z]).toArray 5)) (.slice (some ⟨w.heap.size, 0, none⟩) 1 1) [z] := Rd.lit w [z] (by simp) (byt_one hz)
  have hrd := gread_any hr0 (.inr ⟨_, _, _, _, rfl⟩) (by simp)
  have HBA := Lib.hid (below_alloc w (.cells (by8 [z]).toArray 5))
  have HT := Lib.hid ht
  have hone := gRead_one z
  clear hr0 ht
  by_cases hal : z = 0 ∨ z = 1 ∨ z = 30
  · have HS : Hid (∃ x, gRead [z] = some [x]) := Lib.hid (by
      rw [hone]
      rcases hal with rfl | rfl | rfl
      · exact ⟨_, rfl⟩
      · exact ⟨_, rfl⟩
      · exact ⟨_, rfl⟩)
    clear hone hz
    rcases hal with rfl | rfl | rfl
    all_goals
      go_enter Tryd.func8, Tryd.ntmps8
      go_wp2_with fail
      refine hrd.mono ?_
      rintro e w1 ⟨v1, L, n, rfl, hfl, hb1, hc⟩
      have hnL : n = 0 ∧ L.length = 1 := by
        obtain ⟨x, hx⟩ := HS.out
        rw [hx] at hc
        rcases hc with ⟨_, h, _⟩ | ⟨_, _, h, _⟩ | ⟨h, _, h2⟩
        · simp at h
        · cases h
        · refine ⟨h, ?_⟩
          have := congrArg (Option.map List.length) h2
          simpa using this.symm
      obtain ⟨rfl, hL⟩ := hnL
      obtain ⟨a1, c1, rfl⟩ := hfl.shape
      rw [hL] at *
      have HB := Lib.hid (HBA.out.trans (hb1.mono HBA.out.size))
      clear hfl hb1 hc hrd
      go_wp2_with (go_at_call 17; refine (gawake_any (HT.out.below HB.out)).mono ?_; rintro e w2 ⟨rfl, hb2⟩)
      go_ret
      exact ⟨rfl, HB.out.trans (hb2.mono HB.out.size)⟩
  · have h0 : (z == 0) = false := beq_eq_false_iff_ne.2 (by omega)
    have h1 : (z == 1) = false := beq_eq_false_iff_ne.2 (by omega)
    have h30 : (z == 30) = false := beq_eq_false_iff_ne.2 (by omega)
    have HS : Hid (gRead [z] = none) := Lib.hid (by
      rw [hone, if_neg (by omega), if_neg (by omega), if_neg (by omega)])
    clear hone hz hal
    go_enter Tryd.func8, Tryd.ntmps8
    go_wp2_with fail
    refine hrd.mono ?_
    rintro e w1 ⟨v1, L, n, rfl, hfl, hb1, hc⟩
    have hnL : n = 3 ∧ L.length = 0 := by
      rw [HS.out] at hc
      rcases hc with ⟨_, h, _⟩ | ⟨h, _, _, h2⟩ | ⟨h, _, h2⟩
      · simp at h
      · exact ⟨h, by rw [h2]; rfl⟩
      · cases h2
    obtain ⟨rfl, hL⟩ := hnL
    obtain ⟨a1, c1, rfl⟩ := hfl.shape
    rw [hL] at *
    have HB := Lib.hid (HBA.out.trans (hb1.mono HBA.out.size))
    clear hfl hb1 hc hrd
    go_wp2_with (go_at_call 17; refine (gawake_any (HT.out.below HB.out)).mono ?_; rintro e w2 ⟨rfl, hb2⟩)
    go_ret
    exact ⟨rfl, HB.out.trans (hb2.mono HB.out.size)⟩
set_option maxRecDepth 20000 in
set_option maxHeartbeats 4000000 in
theorem gagain_walk {w : World} {v : Value} {zs : List Int} (hr : Rd w v zs) (hp : Plain v) (ht : Tab w) (hw : 1 < w.heap.size) : Calls Tryd.prog 6 #[v] w fun e w' => e = .returned (.bool true) ∧ Below w.heap.size w w' := by
  have hln := hr.len
  obtain ⟨ao, cap, rfl⟩ := hr.shape
  have HR := Lib.hid hr
  have HT := Lib.hid ht
  by_cases h13 : 1300 < zs.length
  · have h13' : (1300 : Int) < (zs.length : Int) := by omega
    clear hr hp ht hw h13
    go_enter Tryd.func6, Tryd.ntmps6
    go_wp2_with fail
    go_ret
    exact ⟨rfl, Below.refl _ _⟩
  · have h13' : ¬ (1300 : Int) < (zs.length : Int) := by omega
    have hrd := gread_any hr hp (by omega)
    clear hr hp ht h13
    go_enter Tryd.func6, Tryd.ntmps6
    go_wp2_with fail
    refine hrd.mono ?_
    rintro e w1 ⟨v1, L, n, rfl, hfl, hb1, hc⟩
    obtain ⟨a1, c1, rfl⟩ := hfl.shape
    have HB := Lib.hid hb1
    have hno : (n = 3 ∨ n = 4) ∧ L.length = 0 ∨ n = 0 ∧ zs.length ≤ 1200 ∧ gRead zs = some (L.map Fe.f) := by
      rcases hc with ⟨h, _, h2⟩ | ⟨h, _, _, h2⟩ | ⟨h, h1, h2⟩
      · exact .inl ⟨.inr h, by rw [h2]; rfl⟩
      · exact .inl ⟨.inl h, by rw [h2]; rfl⟩
      · exact .inr ⟨h, h1, h2⟩
    clear hc hrd
    rcases hno with ⟨hn, hL⟩ | ⟨rfl, hl12, hg⟩
    · rw [hL] at *
      clear hfl hb1
      rcases hn with rfl | rfl
      all_goals
        go_wp2_with (go_at_call 17; refine (gawake_any (HT.out.below HB.out)).mono ?_; rintro e w2 ⟨rfl, hb2⟩)
        go_ret
        exact ⟨rfl, HB.out.trans (hb2.mono HB.out.size)⟩
    · obtain ⟨hz, hst, hne⟩ := gread_again HR.out.byt hl12 hg
      have hLl : L.length ≤ 1200 := by
        have := stand_len _ hst
        rw [← hz] at this
        simp at this; omega
      have hmay : mayP L := ⟨fun e => hne (by rw [e]; rfl), hst⟩
      have hW := gwrite_any hfl (by omega) (HT.out.below hb1) (by have := hb1.size; omega)
      have HZ := Lib.hid hz
      have HM := Lib.hid hmay
      have HL12 := Lib.hid hl12
      clear hz hst hne hmay hfl hg hb1
      go_wp2_with fail
      refine hW.mono ?_
      rintro e w2 ⟨u, xs, m, rfl, ⟨hu, _⟩, hb2, hc⟩
      have hxm : xs = zs ∧ m = 0 := by
        rw [← HZ.out] at hc
        rcases hc with ⟨h, _⟩ | ⟨_, h, _⟩ | ⟨_, _, h, h2⟩
        · exact absurd HM.out h
        · exact absurd HL12.out (by omega)
        · exact ⟨h, h2⟩
      obtain ⟨rfl, rfl⟩ := hxm
      have HB2 := Lib.hid (HB.out.trans (hb2.mono HB.out.size))
      have hsm := same_true hu.rd (HR.out.below HB2.out)
      obtain ⟨a2, c2, rfl⟩ := hu.rd.shape
      clear hW hu hb2 hc
      go_wp2_with (first
        | (go_at_call 16; refine hsm.mono ?_; rintro e w3 ⟨rfl, hb3⟩; have HB3 := Lib.hid (HB2.out.trans (hb3.mono HB2.out.size)))
        | (go_at_call 17; refine (gawake_any (HT.out.below HB3.out)).mono ?_; rintro e w4 ⟨rfl, hb4⟩))
      go_ret
      exact ⟨rfl, HB3.out.trans (hb4.mono HB3.out.size)⟩
#print axioms gkinds_walk
#print axioms gagain_walk
end Go.Proofs.YtocfkkppalpamaaDoor
