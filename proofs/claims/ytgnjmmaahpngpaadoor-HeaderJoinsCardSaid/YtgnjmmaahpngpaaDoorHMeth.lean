/- header's reader: its methods, one by one. -/
import Derived.Test.YtgnjmmaahpngpaaDoorHStep
namespace Go.Proofs.YtgnjmmaahpngpaaDoor
open Go Go.RowKit

theorem fix_range {zs : List Int} {n t t' : Nat} {v : Int} (hb : Byt zs) (h7 : n ≤ 4) (e : pFix zs n t = .ok (v, t')) : 0 ≤ v ∧ v < 4294967296 ∧ (n = 1 → v ≤ 255) := by
  unfold pFix at e
  by_cases hl : (zs.drop t).length < n
  · rw [if_pos hl] at e; cases e
  rw [if_neg hl] at e
  cases e
  have h := bigv_bd ((hb.drop t).take n)
  have hlen : ((zs.drop t).take n).length = n := by rw [List.length_take]; omega
  rw [hlen] at h
  have : n = 0 ∨ n = 1 ∨ n = 2 ∨ n = 3 ∨ n = 4 := by omega
  rcases this with rfl | rfl | rfl | rfl | rfl <;> exact ⟨h.1, by have := h.2; omega, fun _ => by have := h.2; omega⟩

/-- name: behind the byte of its length. -/
theorem name_okW {w0 w : World} {zs : List Int} {X : Nat × Obj} {R B : Nat} {s : Ps} (h : Hs w0 zs X R B s w) (hz : Byt zs) {l : List Int} {t' : Nat} (e : pName zs s.t = .ok (l, t')) :
    Calls Tryd.prog 47 #[.pointer (some ⟨R, 0, none⟩)] w fun e w' => ∃ v, e = .returned v ∧ Ra (R + 1) w' v l ∧ Hs w0 zs X R B { s with t := t' } w' := by
  obtain ⟨vt, vf, vk, c0, _, _, _, _, _, _, _, _, _, _⟩ := h.cells
  unfold pName at e
  cases hf : pFix zs 1 s.t with
  | error k => rw [hf] at e; cases e
  | ok x =>
    obtain ⟨n, t1⟩ := x
    rw [hf] at e
    have hr := fix_range hz (by decide) hf
    have hc := hfixed_ok h 1 (by decide) (by decide) hf
    have HE := Lib.hid e
    have hr0 := hr.1
    clear e h hf hr
    go_enter Tryd.func47, Tryd.ntmps47
    go_wp2_with fail
    refine hc.mono ?_
    rintro e w1 ⟨rfl, h1⟩
    have ha := atMost_ok h1 20 n hr0 HE.out
    clear h1 hc
    go_wp2_with fail
    refine ha.mono ?_
    rintro e w2 ⟨v, rfl, hv, h2⟩
    go_wp2_with fail
    go_ret
    exact ⟨_, rfl, hv, h2⟩
theorem name_errW {w0 w : World} {zs : List Int} {X : Nat × Obj} {R B : Nat} {s : Ps} (h : Hs w0 zs X R B s w) {k : Int} (e : pName zs s.t = .error k) :
    Calls Tryd.prog 47 #[.pointer (some ⟨R, 0, none⟩)] w fun e w' => e = errPanic k ∧ Below w0.heap.size w0 w' := by
  obtain ⟨vt, vf, vk, c0, _, _, _, _, _, _, _, _, _, _⟩ := h.cells
  have H := Lib.hid h
  unfold pName at e
  cases hf : pFix zs 1 s.t with
  | error k' =>
    rw [hf] at e
    cases e
    have hc := hfixed_err h 1 hf
    clear h hf
    go_enter Tryd.func47, Tryd.ntmps47
    go_wp2_with fail
    refine hc.mono ?_
    rintro e w1 ⟨he, hb⟩
    rw [errPanic] at he
    subst he
    go_wp2_with fail
    exact ⟨rfl, rfl, out_err H hb⟩
  | ok x =>
    obtain ⟨n, t1⟩ := x
    rw [hf] at e
    have hc := hfixed_ok h 1 (by decide) (by decide) hf
    have HE := Lib.hid e
    clear e h hf
    go_enter Tryd.func47, Tryd.ntmps47
    go_wp2_with fail
    refine hc.mono ?_
    rintro e w1 ⟨rfl, h1⟩
    have hc2 := atMost_err h1 20 n HE.out
    have H1 := Lib.hid h1
    clear h1 hc
    go_wp2_with fail
    refine hc2.mono ?_
    rintro e w2 ⟨he, hb⟩
    rw [errPanic] at he
    subst he
    go_wp2_with fail
    exact ⟨rfl, rfl, out_err H1 hb⟩

set_option maxRecDepth 20000 in
theorem does_to (zs : List Int) (hz : Byt zs) : DoesAt zs 39 pTo := by
  intro w0 w X R B s h
  cases hn : pName zs s.t with
  | error k' =>
    refine ⟨fun s' e => by (unfold pTo at e; rw [hn] at e; cases e), fun k e => ?_⟩
    have hk : k' = k := by unfold pTo at e; rw [hn] at e; cases e; rfl
    subst hk
    have hc := name_errW h hn
    clear e h hn
    go_enter Tryd.func39, Tryd.ntmps39
    go_wp2_with fail
    refine hc.mono ?_
    rintro e w1 ⟨he, hb⟩
    rw [errPanic] at he
    subst he
    go_wp2_with fail
    exact ⟨rfl, rfl, hb⟩
  | ok x =>
    obtain ⟨l, t'⟩ := x
    refine ⟨fun s' e => ?_, fun k e => by (unfold pTo at e; rw [hn] at e; cases e)⟩
    have hc := name_okW h hz hn
    unfold pTo at e
    rw [hn] at e
    cases e
    clear h hn
    go_enter Tryd.func39, Tryd.ntmps39
    go_wp2_with fail
    refine hc.mono ?_
    rintro e w1 ⟨v, rfl, hv, h1⟩
    have h2 := h1.setto hv
    obtain ⟨ao, n, cap, rfl⟩ := hv.rd.shape3
    obtain ⟨vt, vf, vk, _, _, _, d3, d4, d5, _, _, _, _, df⟩ := h1.cells
    have H2 := Lib.hid h2
    clear h1 h2 hv hc
    go_wp2_with fail
    go_end0
    exact ⟨rfl, H2.out⟩

set_option maxRecDepth 20000 in
theorem does_from (zs : List Int) (hz : Byt zs) : DoesAt zs 40 pFrom := by
  intro w0 w X R B s h
  cases hn : pName zs s.t with
  | error k' =>
    refine ⟨fun s' e => by (unfold pFrom at e; rw [hn] at e; cases e), fun k e => ?_⟩
    have hk : k' = k := by unfold pFrom at e; rw [hn] at e; cases e; rfl
    subst hk
    have hc := name_errW h hn
    clear e h hn
    go_enter Tryd.func40, Tryd.ntmps40
    go_wp2_with fail
    refine hc.mono ?_
    rintro e w1 ⟨he, hb⟩
    rw [errPanic] at he
    subst he
    go_wp2_with fail
    exact ⟨rfl, rfl, hb⟩
  | ok x =>
    obtain ⟨l, t'⟩ := x
    refine ⟨fun s' e => ?_, fun k e => by (unfold pFrom at e; rw [hn] at e; cases e)⟩
    have hc := name_okW h hz hn
    unfold pFrom at e
    rw [hn] at e
    cases e
    clear h hn
    go_enter Tryd.func40, Tryd.ntmps40
    go_wp2_with fail
    refine hc.mono ?_
    rintro e w1 ⟨v, rfl, hv, h1⟩
    have h2 := h1.setfr hv
    obtain ⟨ao, n, cap, rfl⟩ := hv.rd.shape3
    obtain ⟨vt, vf, vk, _, _, _, d3, d4, d5, _, _, _, _, df⟩ := h1.cells
    have H2 := Lib.hid h2
    clear h1 h2 hv hc
    go_wp2_with fail
    go_end0
    exact ⟨rfl, H2.out⟩

set_option maxRecDepth 20000 in
theorem does_token (zs : List Int) (hz : Byt zs) : DoesAt zs 41 pToken := by
  intro w0 w X R B s h
  obtain ⟨vt, vf, vk, c0, _, _, _, _, _, _, _, _, _, _⟩ := h.cells
  have H := Lib.hid h
  cases hn : pVar zs s.t with
  | error k' =>
    refine ⟨fun s' e => by (unfold pToken pTok at e; rw [hn] at e; cases e), fun k e => ?_⟩
    have hk : k' = k := by unfold pToken pTok at e; rw [hn] at e; cases e; rfl
    subst hk
    have hc := hnumber_err h hz hn
    clear e h hn
    go_enter Tryd.func41, Tryd.ntmps41
    go_wp2_with fail
    refine hc.mono ?_
    rintro e w1 ⟨he, hb⟩
    rw [errPanic] at he
    subst he
    go_wp2_with fail
    exact ⟨rfl, rfl, out_err H hb⟩
  | ok x =>
    obtain ⟨n, t1⟩ := x
    obtain ⟨⟨hn0, _⟩, hc⟩ := hnumber_ok h hz hn
    cases hm : pMost zs 64 n t1 with
    | error k' =>
      refine ⟨fun s' e => by (unfold pToken pTok at e; rw [hn] at e; simp only at e; rw [hm] at e; cases e), fun k e => ?_⟩
      have hk : k' = k := by unfold pToken pTok at e; rw [hn] at e; simp only at e; rw [hm] at e; cases e; rfl
      subst hk
      have HM := Lib.hid hm
      clear e h hn hm
      go_enter Tryd.func41, Tryd.ntmps41
      go_wp2_with fail
      refine hc.mono ?_
      rintro e w1 ⟨rfl, h1⟩
      have hc2 := atMost_err h1 64 n HM.out
      have H1 := Lib.hid h1
      clear h1 hc
      go_wp2_with fail
      refine hc2.mono ?_
      rintro e w2 ⟨he, hb⟩
      rw [errPanic] at he
      subst he
      go_wp2_with fail
      exact ⟨rfl, rfl, out_err H1 hb⟩
    | ok x =>
      obtain ⟨l, t'⟩ := x
      refine ⟨fun s' e => ?_, fun k e => by (unfold pToken pTok at e; rw [hn] at e; simp only at e; rw [hm] at e; cases e)⟩
      unfold pToken pTok at e
      rw [hn] at e
      simp only at e
      rw [hm] at e
      cases e
      have HM := Lib.hid hm
      clear h hn hm
      go_enter Tryd.func41, Tryd.ntmps41
      go_wp2_with fail
      refine hc.mono ?_
      rintro e w1 ⟨rfl, h1⟩
      have hc2 := atMost_ok h1 64 n hn0 HM.out
      clear h1 hc
      go_wp2_with fail
      refine hc2.mono ?_
      rintro e w2 ⟨v, rfl, hv, h2⟩
      have h3 := h2.settk hv
      obtain ⟨ao, n, cap, rfl⟩ := hv.rd.shape3
      obtain ⟨vt, vf, vk, _, _, _, d3, d4, d5, _, _, _, _, df⟩ := h2.cells
      have H3 := Lib.hid h3
      clear h2 h3 hv hc2
      go_wp2_with fail
      go_end0
      exact ⟨rfl, H3.out⟩

set_option maxRecDepth 20000 in
theorem does_version (zs : List Int) (hz : Byt zs) : DoesAt zs 38 pVersion := by
  intro w0 w X R B s h
  obtain ⟨vt, vf, vk, c0, _, _, _, _, _, _, _, _, _, _⟩ := h.cells
  have H := Lib.hid h
  cases hn : pFix zs 4 s.t with
  | error k' =>
    refine ⟨fun s' e => by (unfold pVersion at e; rw [hn] at e; cases e), fun k e => ?_⟩
    have hk : k' = k := by unfold pVersion at e; rw [hn] at e; cases e; rfl
    subst hk
    have hc := hfixed_err h 4 hn
    clear e h hn
    go_enter Tryd.func38, Tryd.ntmps38
    go_wp2_with fail
    refine hc.mono ?_
    rintro e w1 ⟨he, hb⟩
    rw [errPanic] at he
    subst he
    go_wp2_with fail
    exact ⟨rfl, rfl, out_err H hb⟩
  | ok x =>
    obtain ⟨n, t1⟩ := x
    have hc := hfixed_ok h 4 (by decide) (by decide) hn
    have hr := fix_range hz (by decide) hn
    have hbd : (decide (0 < n) && decide (n < 4294967296)) = decide (0 < n) := by simp [hr.2.1]
    have HB := Lib.hid hbd
    by_cases h0 : 0 < n
    · refine ⟨fun s' e => ?_, fun k e => by (unfold pVersion at e; rw [hn] at e; simp only at e; rw [if_pos h0] at e; cases e)⟩
      unfold pVersion at e
      rw [hn] at e
      simp only at e
      rw [if_pos h0] at e
      cases e
      have H0 := Lib.hid h0
      clear h hn hbd hr h0
      go_enter Tryd.func38, Tryd.ntmps38
      go_wp2_with fail
      refine hc.mono ?_
      rintro e w1 ⟨rfl, h1⟩
      have h2 := h1.setv n
      obtain ⟨vt, vf, vk, _, _, d2, _, _, _, _, _, _, _, df⟩ := h1.cells
      obtain ⟨vt, vf, vk, _, _, g2, _, _, _, _, _, _, _, gf⟩ := h2.cells
      have H2 := Lib.hid h2
      clear h1 h2 hc
      go_wp2_with fail
      refine (isver_any _ n).mono ?_
      rw [HB.out, decide_eq_true H0.out]
      rintro e w2 ⟨rfl, rfl⟩
      go_wp2_with fail
      refine (want_yes _ _).mono ?_
      rintro e w2 ⟨rfl, rfl⟩
      go_wp2_with fail
      go_end0
      exact ⟨rfl, H2.out⟩
    · refine ⟨fun s' e => by (unfold pVersion at e; rw [hn] at e; simp only at e; rw [if_neg h0] at e; cases e), fun k e => ?_⟩
      unfold pVersion at e
      rw [hn] at e
      simp only at e
      rw [if_neg h0] at e
      cases e
      have H0 := Lib.hid h0
      clear h hn hbd hr h0
      go_enter Tryd.func38, Tryd.ntmps38
      go_wp2_with fail
      refine hc.mono ?_
      rintro e w1 ⟨rfl, h1⟩
      have h2 := h1.setv n
      obtain ⟨vt, vf, vk, _, _, d2, _, _, _, _, _, _, _, df⟩ := h1.cells
      obtain ⟨vt, vf, vk, _, _, g2, _, _, _, _, _, _, _, gf⟩ := h2.cells
      have H2 := Lib.hid h2
      clear h1 h2 hc
      go_wp2_with fail
      refine (isver_any _ n).mono ?_
      rw [HB.out, decide_eq_false (show ¬ 0 < n by have := H0.out; omega)]
      rintro e w2 ⟨rfl, rfl⟩
      go_wp2_with fail
      refine (want_no _ _).mono ?_
      rintro e w2 ⟨he, rfl⟩
      rw [errPanic] at he
      subst he
      go_wp2_with fail
      exact ⟨rfl, rfl, H2.out.fq.bel⟩

set_option maxRecDepth 20000 in
theorem does_length (zs : List Int) (hz : Byt zs) : DoesAt zs 42 pLength := by
  intro w0 w X R B s h
  obtain ⟨vt, vf, vk, c0, _, _, _, _, _, _, _, c8, _, _⟩ := h.cells
  have H := Lib.hid h
  cases hn : pVar zs s.t with
  | error k' =>
    refine ⟨fun s' e => by (unfold pLength at e; rw [hn] at e; cases e), fun k e => ?_⟩
    have hk : k' = k := by unfold pLength at e; rw [hn] at e; cases e; rfl
    subst hk
    have hc := hnumber_err h hz hn
    clear e h hn
    go_enter Tryd.func42, Tryd.ntmps42
    go_wp2_with fail
    refine hc.mono ?_
    rintro e w1 ⟨he, hb⟩
    rw [errPanic] at he
    subst he
    go_wp2_with fail
    exact ⟨rfl, rfl, out_err H hb⟩
  | ok x =>
    obtain ⟨n, t1⟩ := x
    obtain ⟨⟨hn0, hn1⟩, hc⟩ := hnumber_ok h hz hn
    have hlz : zs.length ≤ 1000000 := by have := h.fq.sum; simp only [List.length_drop] at this; omega
    by_cases hw : n < s.h.w
    · refine ⟨fun s' e => by (unfold pLength at e; rw [hn] at e; simp only at e; rw [if_pos hw] at e; cases e), fun k e => ?_⟩
      unfold pLength at e
      rw [hn] at e
      simp only at e
      rw [if_pos hw] at e
      cases e
      have hd : decide (s.h.w ≤ n) = false := decide_eq_false (by omega)
      clear h hn hw
      go_enter Tryd.func42, Tryd.ntmps42
      go_wp2_with fail
      refine hc.mono ?_
      rintro e w1 ⟨rfl, h1⟩
      obtain ⟨vt, vf, vk, _, _, _, _, _, _, _, _, d8, _, df⟩ := h1.cells
      have H1 := Lib.hid h1
      clear h1 hc
      go_wp2_with fail
      refine (want_no _ _).mono ?_
      rintro e w2 ⟨he, rfl⟩
      rw [errPanic] at he
      subst he
      go_wp2_with fail
      exact ⟨rfl, rfl, H1.out.fq.bel⟩
    · have hd : decide (s.h.w ≤ n) = true := decide_eq_true (by omega)
      by_cases hl : (zs.length : Int) - t1 < n
      · refine ⟨fun s' e => by (unfold pLength at e; rw [hn] at e; simp only at e; rw [if_neg hw, if_pos hl] at e; cases e), fun k e => ?_⟩
        unfold pLength at e
        rw [hn] at e
        simp only at e
        rw [if_neg hw, if_pos hl] at e
        cases e
        have HL := Lib.hid hl
        clear h hn hw hl
        go_enter Tryd.func42, Tryd.ntmps42
        go_wp2_with fail
        refine hc.mono ?_
        rintro e w1 ⟨rfl, h1⟩
        obtain ⟨vt, vf, vk, d0, _, _, _, _, _, _, _, d8, _, df⟩ := h1.cells
        have H1 := Lib.hid h1
        have hq := left_q h1.fq
        have ht := h1.tl
        simp only at hq ht
        have hd2 : decide (n ≤ ((zs.drop t1).length : Int)) = false := decide_eq_false (by have := HL.out; simp only [List.length_drop]; omega)
        generalize (zs.drop t1).length = N at *
        clear h1 hc ht
        go_wp2_with fail
        refine (want_yes _ _).mono ?_
        rintro e w2 ⟨rfl, rfl⟩
        go_wp2_with fail
        refine hq.mono ?_
        rintro e w2 ⟨rfl, rfl⟩
        go_wp2_with fail
        refine (want_no _ _).mono ?_
        rintro e w2 ⟨he, rfl⟩
        rw [errPanic] at he
        subst he
        go_wp2_with fail
        exact ⟨rfl, rfl, H1.out.fq.bel⟩
      · refine ⟨fun s' e => ?_, fun k e => by (unfold pLength at e; rw [hn] at e; simp only at e; rw [if_neg hw, if_neg hl] at e; cases e)⟩
        unfold pLength at e
        rw [hn] at e
        simp only at e
        rw [if_neg hw, if_neg hl] at e
        cases e
        have HL := Lib.hid hl
        clear h hn hw hl
        go_enter Tryd.func42, Tryd.ntmps42
        go_wp2_with fail
        refine hc.mono ?_
        rintro e w1 ⟨rfl, h1⟩
        obtain ⟨vt, vf, vk, d0, _, _, _, _, _, _, _, d8, d9, df⟩ := h1.cells
        have H1 := Lib.hid h1
        have hq := left_q h1.fq
        have hk := taken_q h1.fq
        have ht := h1.tl
        simp only at hq ht hk
        have hd2 : decide (n ≤ ((zs.drop t1).length : Int)) = true := decide_eq_true (by have := HL.out; simp only [List.length_drop]; omega)
        have hsum : (t1 : Int) + n ≤ 2000000 := by have := HL.out; omega
        have HS := Lib.hid (h1.sete ((t1 : Int) + n))
        generalize (zs.drop t1).length = N at *
        clear h1 hc ht
        go_wp2_with fail
        refine (want_yes _ _).mono ?_
        rintro e w2 ⟨rfl, rfl⟩
        go_wp2_with fail
        refine hq.mono ?_
        rintro e w2 ⟨rfl, rfl⟩
        go_wp2_with fail
        refine (want_yes _ _).mono ?_
        rintro e w2 ⟨rfl, rfl⟩
        go_wp2_with fail
        refine hk.mono ?_
        rintro e w2 ⟨rfl, rfl⟩
        go_wp2_with fail
        go_end0
        exact ⟨rfl, HS.out⟩
#print axioms does_to
#print axioms does_length
end Go.Proofs.YtgnjmmaahpngpaaDoor
