/- stream.Next. -/
import Derived.Test.YtfgjlfcadpmkhaaSPut2
import Derived.Test.YtfgjlfcadpmkhaaSFirst
namespace Go.Proofs.Ytfgjlfcadpmkhaa
open Go Go.RowKit
variable {gs : List Nat}

/-- What stands at what is taken. -/
def frontB (t : Nat) (E : Int → Option (List Int)) : List Int := (E t).getD []
/-- The pieces behind a message's taking. -/
def nextE (t : Nat) (E : Int → Option (List Int)) (n : Nat) : Int → Option (List Int) := fun k =>
  if k = ((t + n : Nat) : Int) then (if (frontB t E).drop n = [] then none else some ((frontB t E).drop n)) else if k = (t : Int) then none else E k
theorem Rd.offBox {w : World} {v : Value} {zs : List Int} {g : Nat} {x : Int} {mo : Option Nat} {ty : TypeId} {fr : Nat × Nat} (h : Rd w v zs) (hg : w.heap[g]? = some (.cells #[.int .i64 x, .map mo] ty fr)) : Fa g v zs := by
  obtain ⟨ao, cap, hv, _, _, _, _, hc⟩ := h
  intro a n c e hz hb
  rw [e] at hv
  cases hv
  have h0 := hc a rfl 0 (List.length_pos_iff.2 hz)
  have e2 : (a.add 0).block = a.block := by unfold Addr.add; split <;> rfl
  unfold World.cell? at h0
  rw [e2, hb, hg] at h0
  simp only at h0
  split at h0
  · cases h0
  · have : (a.add 0).off = 0 ∨ (a.add 0).off = 1 ∨ 2 ≤ (a.add 0).off := by omega
    rcases this with h1 | h1 | h1
    · rw [h1] at h0; simp at h0
    · rw [h1] at h0; simp at h0
    · rw [Array.getElem?_eq_none (by simpa using h1)] at h0; cases h0
theorem vals_next {w w' : World} {t n : Nat} {f : Int → Option Value} {E : Int → Option (List Int)} {u : Value} (hV : Vals gs w f E) (hu : ∀ g ∈ gs, Fa g u ((frontB t E).drop n)) (hk : ∀ v l, Rd w v l → Rd w' v l) (hr : Rd w u ((frontB t E).drop n)) (hp : Plain u) (hz : (frontB t E).drop n ≠ []) (hn0 : 0 < n) :
    Vals gs w' (fun j => if j = ((t : Int) + (n : Int)) then some u else if j = (t : Int) then none else f j) (nextE t E n) := by
  refine ⟨fun k => ?_, fun k v l h1 h2 => ?_, fun k v l h1 h2 g hg => ?_⟩
  · unfold nextE
    by_cases h1 : k = (t : Int) + (n : Int)
    · simp [h1, hz]
    · by_cases h2 : k = (t : Int)
      · rw [if_neg (show ¬ k = ((t + n : Nat) : Int) by omega), if_pos h2, if_neg h1, if_pos h2]; simp
      · have h3 : k ≠ ((t + n : Nat) : Int) := by omega
        simp only [h1, h2, h3, if_false]
        exact hV.none k
  · unfold nextE at h2
    by_cases h3 : k = (t : Int) + (n : Int)
    · rw [if_pos h3] at h1
      rw [if_pos (by omega), if_neg hz] at h2
      cases h1
      cases h2
      exact ⟨hk _ _ hr, hp⟩
    · rw [if_neg h3] at h1
      rw [if_neg (by omega)] at h2
      by_cases h4 : k = (t : Int)
      · rw [if_pos h4] at h1; cases h1
      · rw [if_neg h4] at h1 h2
        exact ⟨hk _ _ (hV.rd k v l h1 h2).1, (hV.rd k v l h1 h2).2⟩
  · unfold nextE at h2
    by_cases h3 : k = (t : Int) + (n : Int)
    · rw [if_pos h3] at h1
      rw [if_pos (by omega), if_neg hz] at h2
      cases h1
      cases h2
      exact hu g hg
    · rw [if_neg h3] at h1
      rw [if_neg (by omega)] at h2
      by_cases h4 : k = (t : Int)
      · rw [if_pos h4] at h1; cases h1
      · rw [if_neg h4] at h1 h2
        exact hV.off k v l h1 h2 g hg
theorem vals_next0 {w w' : World} {t n : Nat} {f : Int → Option Value} {E : Int → Option (List Int)} (hV : Vals gs w f E) (hk : ∀ v l, Rd w v l → Rd w' v l) (hP : Pcs t E) (hz : (frontB t E).drop n = []) (hn : n ≤ (frontB t E).length) (hn0 : 0 < n) :
    Vals gs w' (fun j => if j = (t : Int) then none else f j) (nextE t E n) := by
  have hE : E ((t + n : Nat) : Int) = none := by
    cases h : E ((t + n : Nat) : Int) with
    | none => rfl
    | some l =>
      exfalso
      have hex : ∃ l0, E t = some l0 := by
        cases h0 : E t with
        | none => unfold frontB at hn; rw [h0] at hn; simp at hn; omega
        | some l0 => exact ⟨l0, rfl⟩
      obtain ⟨l0, h0⟩ := hex
      have e0 : frontB t E = l0 := by unfold frontB; rw [h0]; rfl
      have := hP.gap t l0 _ l h0 h (by omega)
      have h5 : ((frontB t E).drop n).length = 0 := by rw [hz]; rfl
      simp only [List.length_drop, e0] at h5
      rw [e0] at hn
      omega
  refine ⟨fun k => ?_, fun k v l h1 h2 => ?_, fun k v l h1 h2 g hg => ?_⟩
  · unfold nextE
    by_cases h1 : k = ((t + n : Nat) : Int)
    · have h2 : k ≠ (t : Int) := by omega
      rw [if_pos h1, if_pos hz, if_neg h2]
      simp only [true_iff]
      rw [h1]
      exact (hV.none _).1 hE
    · by_cases h2 : k = (t : Int)
      · rw [if_neg h1, if_pos h2, if_pos h2]; simp
      · simp only [h1, h2, if_false]
        exact hV.none k
  · unfold nextE at h2
    by_cases h3 : k = ((t + n : Nat) : Int)
    · rw [if_pos h3, if_pos hz] at h2; cases h2
    · rw [if_neg h3] at h2
      by_cases h4 : k = (t : Int)
      · rw [if_pos h4] at h1; cases h1
      · rw [if_neg h4] at h1 h2
        exact ⟨hk _ _ (hV.rd k v l h1 h2).1, (hV.rd k v l h1 h2).2⟩
  · unfold nextE at h2
    by_cases h3 : k = ((t + n : Nat) : Int)
    · rw [if_pos h3, if_pos hz] at h2; cases h2
    · rw [if_neg h3] at h2
      by_cases h4 : k = (t : Int)
      · rw [if_pos h4] at h1; cases h1
      · rw [if_neg h4] at h1 h2
        exact hV.off k v l h1 h2 g hg
theorem pcs_next {t n : Nat} {E : Int → Option (List Int)} (hP : Pcs t E) (hn : n ≤ (frontB t E).length) (hn0 : 0 < n) : Pcs (t + n) (nextE t E n) := by
  have hf : ∀ l, E t = some l → frontB t E = l := fun l h => by unfold frontB; rw [h]; rfl
  have hlen : (t : Int) + (frontB t E).length ≤ t + 4096 := by
    cases hE : E t with
    | none => unfold frontB; rw [hE]; simp only [Option.getD_none, List.length_nil]; omega
    | some l => rw [hf l hE]; exact (hP.lo _ _ hE).2.2
  have hex : ∃ l, E t = some l := by
    cases hE : E t with
    | none => unfold frontB at hn; rw [hE] at hn; simp at hn; omega
    | some l => exact ⟨l, rfl⟩
  obtain ⟨l0, hl0⟩ := hex
  have h0 := hf l0 hl0
  have hoth : ∀ s l, E s = some l → s ≠ (t : Int) → (t : Int) + (frontB t E).length < s := fun s l h hne => by
    have h1 := (hP.lo s l h).1
    rw [h0]
    exact hP.gap t l0 s l hl0 h (by omega)
  refine ⟨fun s l h => ?_, fun s l s' l' h h' hlt => ?_⟩
  · unfold nextE at h
    by_cases h1 : s = ((t + n : Nat) : Int)
    · rw [if_pos h1] at h
      by_cases h2 : (frontB t E).drop n = []
      · rw [if_pos h2] at h; cases h
      · rw [if_neg h2] at h
        cases h
        refine ⟨by omega, h2, ?_⟩
        simp only [List.length_drop]
        omega
    · rw [if_neg h1] at h
      by_cases h2 : s = (t : Int)
      · rw [if_pos h2] at h; cases h
      · rw [if_neg h2] at h
        have := hP.lo s l h
        have h3 := hoth s l h h2
        exact ⟨by omega, this.2.1, by omega⟩
  · unfold nextE at h h'
    by_cases h1 : s = ((t + n : Nat) : Int)
    · rw [if_pos h1] at h
      by_cases h2 : (frontB t E).drop n = []
      · rw [if_pos h2] at h; cases h
      · rw [if_neg h2] at h
        cases h
        rw [if_neg (by omega)] at h'
        by_cases h3 : s' = (t : Int)
        · omega
        · rw [if_neg h3] at h'
          have := hoth s' l' h' h3
          simp only [List.length_drop]
          omega
    · rw [if_neg h1] at h
      by_cases h2 : s = (t : Int)
      · rw [if_pos h2] at h; cases h
      · rw [if_neg h2] at h
        have h3 := hoth s l h h2
        by_cases h4 : s' = ((t + n : Nat) : Int)
        · omega
        · rw [if_neg h4] at h'
          by_cases h5 : s' = (t : Int)
          · omega
          · rw [if_neg h5] at h'
            exact hP.gap s l s' l' h h' hlt
theorem lookNil (w : World) (k : Int) : (Instr.lookup 24 (.map none) (.int .i64 k) false).run Try.prog w = .ok (.slice none 0 0) w := by kernel_rfl
def NextPost (gs : List Nat) (w : World) (B : Nat) (mo : Option Nat) (t N : Nat) (E : Int → Option (List Int)) (e : Ending) (w' : World) : Prop :=
  (firstE (frontB t E) ≠ 0 ∧ e = .returned (.tuple #[.slice none 0 0, .int .i64 (firstE (frontB t E))]) ∧ Below w.heap.size w w') ∨
  (firstE (frontB t E) = 0 ∧ ∃ v mb, mo = some mb ∧ e = .returned (.tuple #[v, .int .i64 0]) ∧ Rd w' v ((frontB t E).take (headN (frontB t E) + 4)) ∧ Plain v ∧
    St gs w' B mo (t + (headN (frontB t E) + 4)) (N + 1) (nextE t E (headN (frontB t E) + 4)) ∧ Chg [B, mb] w w')

set_option maxRecDepth 20000 in
set_option maxHeartbeats 4000000 in
theorem next_any {w : World} {B t N : Nat} {mo : Option Nat} {E : Int → Option (List Int)} (hN : N ≤ 1000000) (h : St gs w B mo t N E) (ht : t ≤ 1999990000) :
    Calls Try.prog 4 #[.pointer (some ⟨B, 0, none⟩)] w (NextPost gs w B mo t N E) := by
  obtain ⟨c0, c1, cf⟩ := h.cells
  have HS := Lib.hid h
  have HN := Lib.hid hN
  have hwf := wf_of (k := (t : Int)) (by omega) (by omega)
  have hlook : ∃ ao cap, (∀ n, (Instr.lookup 24 (.map mo) (.int .i64 t) false).run Try.prog (w.drewN n) = .ok (.slice ao (frontB t E).length cap) (w.drewN n)) ∧ Rd w (.slice ao (frontB t E).length cap) (frontB t E) ∧ Plain (.slice ao (frontB t E).length cap) ∧ ∀ g ∈ gs, Fa g (.slice ao (frontB t E).length cap) (frontB t E) := by
    rcases h.mp with ⟨rfl, hE⟩ | ⟨mb, f, rfl, hM, hV⟩
    · refine ⟨none, 0, fun n => ?_, ?_, .inl ?_, fun g _ a n c e => by cases e⟩
      · have e : frontB t E = [] := by unfold frontB; rw [hE]; rfl
        rw [e]
        exact lookNil _ _
      all_goals (have e : frontB t E = [] := by unfold frontB; rw [hE]; rfl)
      · rw [e]; exact Rd.nil w
      · rw [e]; rfl
    · cases hE : E t with
      | none =>
        have e : frontB t E = [] := by unfold frontB; rw [hE]; rfl
        rw [e]
        refine ⟨none, 0, fun n => ?_, Rd.nil w, .inl rfl, fun g _ a n c e => by cases e⟩
        have := (hM.below (below_drewN w n)).look hwf
        rw [(hV.none t).1 hE] at this
        exact this
      | some l =>
        have e : frontB t E = l := by unfold frontB; rw [hE]; rfl
        rw [e]
        obtain ⟨u, hu, hr, hp⟩ := hV.back hE
        obtain ⟨ao, cap, rfl⟩ := hr.shape
        refine ⟨ao, cap, fun n => ?_, hr, hp, hV.off t _ l hu hE⟩
        have := (hM.below (below_drewN w n)).look hwf
        rw [hu] at this
        exact this
  obtain ⟨ao, cap, hlk, hrd, hpl, hoff⟩ := hlook
  have HOF := Lib.hid hoff
  clear hoff
  have HR := Lib.hid hrd
  have HP := Lib.hid hpl
  have HF := Lib.hid (fun n => first_any (hrd.below (below_drewN w n)) hpl)
  clear hN h hrd hpl
  generalize hzs : frontB t E = zs at *
  have HZS := Lib.hid hzs
  clear hzs
  go_enter Try.func4, Try.ntmps4
  go_wp2_with fail
  go_quiet (fail)
  obtain ⟨W0, hW0⟩ : ∃ W0, w.drewN nq = W0 := ⟨_, rfl⟩
  have hb0 := below_drewN w nq
  have hf0 := HF.out nq
  rw [hW0] at hb0 hf0 ⊢
  have HB0 := Lib.hid hb0
  have HF0 := Lib.hid hf0
  clear hb0 hf0 hW0 hlk HF
  go_wp2_with fail
  refine HF0.out.mono ?_
  rintro e w1 ⟨hb1, hcase⟩
  have HB1 := Lib.hid (HB0.out.trans (hb1.mono HB0.out.size))
  rcases hcase with ⟨hne, rfl⟩ | ⟨heq, rfl⟩
  · have hne' : (firstE zs != 0) = true := by simpa using hne
    have HNE := Lib.hid hne
    clear hb1 hne
    go_wp2_with fail
    go_ret2
    refine .inl ⟨by rw [HZS.out]; exact HNE.out, by rw [HZS.out]; rfl, HB1.out⟩
  · obtain ⟨hl4, hn2, hnl⟩ := first_ok heq
    obtain ⟨n, hn⟩ : ∃ n, headN zs + 4 = n := ⟨_, rfl⟩
    rw [hn] at hnl ⊢
    have HEQ := Lib.hid heq
    have HNEQ := Lib.hid hn
    have hmo : ∃ mb f, mo = some mb ∧ MapS w mb N f ∧ Vals gs w f E := by
      rcases HS.out.mp with ⟨_, hE⟩ | h
      · exfalso
        have := HZS.out
        unfold frontB at this
        rw [hE] at this
        subst this
        simp at hl4
      · exact h
    obtain ⟨mb, f, rfl, hM, hV⟩ := hmo
    have HM0 := Lib.hid hM
    have HV0 := Lib.hid hV
    have HM1 := Lib.hid (hM.below HB1.out)
    have HV1 := Lib.hid (hV.below HB1.out)
    have HBX := Lib.hid (row_keep HB1.out HS.out.box)
    have HNB := Lib.hid (HM1.out.not_cells HBX.out)
    have HBL := Lib.hid (Nat.lt_of_lt_of_le HS.out.lt HB1.out.size)
    have d0 := (cell_of_row w1 B 0 _ 26 (0, 0) HBX.out).trans rfl
    have d1 := (cell_of_row w1 B 1 _ 26 (0, 0) HBX.out).trans rfl
    have wt : IntKind.i64.wrap ((t : Int) + (n : Int)) = ((t + n : Nat) : Int) := wrap_nat (by omega) (by omega)
    obtain ⟨a1, hs1, hr1, hp1, hf1⟩ := part_lf HR.out HP.out n hnl
    have HF1 := Lib.hid (fun g hg => hf1 g (HOF.out g hg))
    clear hf1
    have HR1 := Lib.hid hr1
    have HP1 := Lib.hid hp1
    clear hb1 c0 c1 cf heq hn hM hV hr1 hp1
    go_wp2_with fail
    go_still_tail 8, (by kernel_rfl)
    refine wpList_delS rfl (.tmp 30) (.tmp 34) rfl (w := w1.drew) (HM1.out.below (below_drewN w1 1)) hwf rfl rfl ?_
    intro w2 hm2 hg2
    have HM2 := Lib.hid hm2
    have HC2 := Lib.hid (((Chg.of_below (S := [B, mb]) HB1.out).trans (Chg.of_below (below_drewN w1 1))).trans (Chg.grown (S := [B, mb]) hg2 (fun b hb => by cases hb; simp)))
    have hbx2 := (hg2.block B HBL.out (fun e => HNB.out (by cases e; rfl))).trans HBX.out
    have d0 := (cell_of_row w2 B 0 _ 26 (0, 0) hbx2).trans rfl
    have d1 := (cell_of_row w2 B 1 _ 26 (0, 0) hbx2).trans rfl
    have cf := unfrozen hbx2
    have hbx3 := heap_setCell_same w2 B 0 _ 26 (.int .i64 ((t : Int) + (n : Int))) hbx2
    have hM3 := hm2.keep (Below.heap_setCell w2 ⟨B, 0, none⟩ (.int .i64 ((t : Int) + (n : Int))) mb (fun e => HNB.out e.symm))
    have hC3 : Chg [B, mb] w (w2.setCell ⟨B, 0, none⟩ (.int .i64 ((t : Int) + (n : Int)))) := HC2.out.trans (Chg.set _ _ _ (by simp))
    have HW3 := Lib.hid (And.intro hbx3 (And.intro hM3 hC3))
    clear hm2 hg2 hbx2 hbx3 hM3 hC3
    by_cases hnz : n < zs.length
    · have hgt : decide (0 < zs.length - n) = true := decide_eq_true (by omega)
      go_wp2_with fail
      obtain ⟨W3, hW3⟩ : ∃ W3, w2.setCell ⟨B, 0, none⟩ (.int .i64 ((t : Int) + (n : Int))) = W3 := ⟨_, rfl⟩
      rw [hW3] at HW3 ⊢
      have hbx3 := HW3.out.1
      have HM3 := Lib.hid HW3.out.2.1
      have d0 := (cell_of_row W3 B 0 _ 26 (0, 0) hbx3).trans rfl
      have d1 := (cell_of_row W3 B 1 _ 26 (0, 0) hbx3).trans rfl
      have hwf2 := wf_of (k := (t : Int) + (n : Int)) (by omega) (by have := HNEQ.out; omega)
      have HBX3 := Lib.hid hbx3
      clear hbx3 hW3
      go_still_tail 9, (by kernel_rfl)
      refine wpList_updS rfl (.tmp 54) (.tmp 58) (.tmp 59) rfl (w := W3.drew) (HM3.out.below (below_drewN W3 1)) (by have := HN.out; unfold maxLen; omega) hwf2 a1 _ _ rfl rfl rfl ?_
      intro w4 hm4 hg4
      have HM4 := Lib.hid hm4
      have HC4 := Lib.hid ((HW3.out.2.2.trans (Chg.of_below (below_drewN W3 1))).trans (Chg.grown (S := [B, mb]) hg4 (fun b hb => by cases hb; simp)))
      have hBL3 : B < W3.heap.size := (Array.getElem?_eq_some_iff.1 HBX3.out).1
      have HBX4 := Lib.hid ((hg4.block B hBL3 (fun e => HNB.out (by cases e; rfl))).trans HBX3.out)
      clear hm4 hg4
      go_wp2_with fail
      go_ret2
      have hk : ∀ v l, Rd w v l → Rd w4 v l := fun v l h => h.chg HC4.out (fun g hg => by
        rcases List.mem_cons.1 hg with e | e
        · rw [e]; exact h.offBox HS.out.box
        · rw [List.mem_singleton.1 e]; exact h.offMap HM0.out)
      have hz := HZS.out
      have hn := HNEQ.out
      have hdz : (frontB t E).drop n ≠ [] := fun e => by
        have h5 : ((frontB t E).drop n).length = 0 := by rw [e]; rfl
        rw [hz, List.length_drop] at h5
        omega
      refine .inr ⟨by rw [hz]; exact HEQ.out, _, mb, rfl, rfl, ?_, .inr ?_, ?_, HC4.out⟩
      · rw [hz, hn]; exact hk _ _ (HR.out.front n hnl (by omega))
      · rcases HP.out with e | ⟨b, off, m, c, e⟩
        · simp only [Value.slice.injEq] at e; omega
        · cases e; exact ⟨_, _, _, _, rfl⟩
      · rw [hz, hn]
        exact ⟨HBX4.out, .inr ⟨mb, _, rfl, HM4.out, vals_next HV0.out (by rw [hz]; exact HF1.out) hk (by rw [hz]; exact HR1.out) HP1.out hdz (by omega)⟩, pcs_next HS.out.pcs (by rw [hz]; exact hnl) (by omega), by omega, fun g hg => Nat.lt_of_lt_of_le (HS.out.gl g hg) (by first | exact HC4.out.size | exact HW3.out.2.2.size)⟩
    · have hgt : decide (0 < zs.length - n) = false := decide_eq_false (by omega)
      go_wp2_with fail
      go_ret2
      have hk : ∀ v l, Rd w v l → Rd (w2.setCell ⟨B, 0, none⟩ (.int .i64 ((t : Int) + (n : Int)))) v l := fun v l h => h.chg HW3.out.2.2 (fun g hg => by
        rcases List.mem_cons.1 hg with e | e
        · rw [e]; exact h.offBox HS.out.box
        · rw [List.mem_singleton.1 e]; exact h.offMap HM0.out)
      have hz := HZS.out
      have hn := HNEQ.out
      have hdz : (frontB t E).drop n = [] := List.drop_eq_nil_of_le (by rw [hz]; omega)
      refine .inr ⟨by rw [hz]; exact HEQ.out, _, mb, rfl, rfl, ?_, .inr ?_, ?_, HW3.out.2.2⟩
      · rw [hz, hn]; exact hk _ _ (HR.out.front n hnl (by omega))
      · rcases HP.out with e | ⟨b, off, m, c, e⟩
        · simp only [Value.slice.injEq] at e; omega
        · cases e; exact ⟨_, _, _, _, rfl⟩
      · rw [hz, hn]
        exact ⟨HW3.out.1, .inr ⟨mb, _, rfl, HW3.out.2.1.mono (by omega), vals_next0 HV0.out hk HS.out.pcs hdz (by rw [hz]; exact hnl) (by omega)⟩, pcs_next HS.out.pcs (by rw [hz]; exact hnl) (by omega), by omega, fun g hg => Nat.lt_of_lt_of_le (HS.out.gl g hg) (by first | exact HC4.out.size | exact HW3.out.2.2.size)⟩
#print axioms next_any
end Go.Proofs.Ytfgjlfcadpmkhaa
