/- The document's Take: tk of the bytes, its rows told in the world where the bytes came in. -/
import Derived.Test.YtefcjggmlhoebaaDoorHlEq
import Derived.Test.YtefcjggmlhoebaaDoorRefTake
import Derived.Deep.QuietTactic
import Derived.BigQuiet
namespace Go.Proofs.YtefcjggmlhoebaaDoor
open Go Go.RowKit

def TookJ (w0 w : World) (r : List Int × List Int × Int) (e : Ending) (w' : World) : Prop :=
  ∃ v1 v2 m, e = .returned (.tuple #[v1, v2, .int .i64 r.2.2]) ∧ (Rd w0 v1 r.1 ∧ Plain v1) ∧ (Rd w0 v2 r.2.1 ∧ Plain v2) ∧ w' = w.drewN m
set_option maxHeartbeats 1000000 in
theorem jtake_any {w0 w : World} {v : Value} {zs : List Int} (h : Rd w0 v zs) (hb0 : Below w0.heap.size w0 w) (hz : zs.length ≤ 100000) :
    Calls Tryd.prog 64 #[v] w (TookJ w0 w (tk zs)) := by
  have hr := refread_any (h.below hb0)
  have hbyt := h.byt
  obtain ⟨hN0, hok, hE⟩ := rd_bd zs hbyt
  generalize hrd : rd zs = r at *
  obtain ⟨N, S, E⟩ := r
  simp only at hr hN0 hok hE
  rcases h.cases with ⟨rfl, ao, cap, rfl, hcap⟩ | ⟨b, off, cap, rfl, hpos, hlc, hcap, _, _⟩
  · obtain ⟨rfl, rfl, rfl⟩ : N = 0 ∧ S = 0 ∧ E = 2 := by
      have : rd [] = (0, 0, 2) := rfl
      rw [this] at hrd
      simp only [Prod.mk.injEq] at hrd
      exact ⟨hrd.1.symm, hrd.2.1.symm, hrd.2.2.symm⟩
    have HT := Lib.hid (tk_err [] 0 0 2 hrd (by decide))
    clear hrd h hok hE
    go_enter Tryd.func64, Tryd.ntmps64
    go_wp2_with (go_at_call 47; refine hr.mono ?_; rintro e w' ⟨rfl, rfl⟩)
    go_ret3
    rw [HT.out]
    exact ⟨_, _, 0, rfl, ⟨Rd.nil _, .inl rfl⟩, ⟨Rd.nil _, .inl rfl⟩, rfl⟩
  · rcases hE with rfl | hE
    · obtain ⟨hs1, hs2, hs3⟩ := hok rfl
      obtain ⟨m, rfl⟩ := Int.eq_ofNat_of_zero_le hN0
      obtain ⟨s, rfl⟩ := Int.eq_ofNat_of_zero_le (show 0 ≤ S by omega)
      have hs1' : 1 ≤ s := by omega
      have hs2' : s ≤ zs.length := by omega
      clear hok hs1 hs2 hN0 hs3
      by_cases hle : s + m ≤ zs.length
      · have HT := Lib.hid (tk_ok zs m s hrd hle)
        clear hrd
        have gB : ∀ ao, (s < cap → ao = some ⟨b, off + s, none⟩) → ao ≠ none → Rd w0 (.slice ao (zs.length - s) (cap - s)) (zs.drop s) := fun ao h1 h2 => h.drop hs2' ao h1 h2
        have hlB : (zs.drop s).length = zs.length - s := by simp
        by_cases hcs : cap = s
        · obtain rfl : s = zs.length := by omega
          obtain rfl : m = 0 := by omega
          subst hcs
          have g1 := gB (some ⟨b, off, none⟩) (by omega) (by simp)
          simp only [Nat.sub_self] at g1
          have e : List.drop zs.length zs = [] := List.drop_eq_nil_of_le (Nat.le_refl _)
          rw [e] at g1 HT
          have gA : Rd w0 (.slice (some ⟨b, off, none⟩) 0 0) ([] : List Int) := g1
          clear g1 gB h hlB e
          go_enter Tryd.func64, Tryd.ntmps64
          go_wp2_with (go_at_call 47; refine hr.mono ?_; rintro e w' ⟨rfl, rfl⟩)
          go_quiet (fail)
          go_wp2
          go_ret3
          rw [HT.out]
          exact ⟨_, _, _, rfl, ⟨gA, .inr ⟨_, _, _, _, rfl⟩⟩, ⟨gA, .inr ⟨_, _, _, _, rfl⟩⟩, rfl⟩
        · have g1 := gB (some ⟨b, off + s, none⟩) (fun _ => rfl) (by simp)
          have gA := g1.take m (by omega)
          have hsm : IntKind.i64.wrap ((s : Int) + (m : Int)) = (s : Int) + (m : Int) := wraps_i64 _ (by omega) (by omega)
          by_cases hcm : cap = s + m
          · have gC := g1.drop (k := m) (by omega) (some ⟨b, off, none⟩) (by omega) (by simp)
            generalize List.take m (List.drop s zs) = ZA at *
            generalize List.drop m (List.drop s zs) = ZC at *
            clear g1 gB h hlB
            subst hcm
            go_enter Tryd.func64, Tryd.ntmps64
            go_wp2_with (go_at_call 47; refine hr.mono ?_; rintro e w' ⟨rfl, rfl⟩)
            go_quiet (fail)
            go_wp2
            go_ret3
            rw [HT.out]
            have gA' : Rd w0 (.slice (some ⟨b, off + s, none⟩) (s + m - s) m) ZA := by
              rw [Nat.add_sub_cancel_left] at gA ⊢; exact gA
            have gC' : Rd w0 (.slice (some ⟨b, off, none⟩) (zs.length - (s + m)) (s + m - (s + m))) ZC := by
              rw [show zs.length - (s + m) = zs.length - s - m by omega, show s + m - (s + m) = s + m - s - m by omega]; exact gC
            exact ⟨_, _, _, rfl, ⟨gA', .inr ⟨_, _, _, _, rfl⟩⟩, ⟨gC', .inr ⟨_, _, _, _, rfl⟩⟩, rfl⟩
          · have gC := g1.drop (k := m) (by omega) (some ⟨b, off + s + m, none⟩) (fun _ => rfl) (by simp)
            generalize List.take m (List.drop s zs) = ZA at *
            generalize List.drop m (List.drop s zs) = ZC at *
            clear g1 gB h hlB
            go_enter Tryd.func64, Tryd.ntmps64
            go_wp2_with (go_at_call 47; refine hr.mono ?_; rintro e w' ⟨rfl, rfl⟩)
            go_quiet (fail)
            go_wp2
            go_ret3
            rw [HT.out]
            have gA' : Rd w0 (.slice (some ⟨b, off + s, none⟩) (s + m - s) (cap - s)) ZA := by
              rw [Nat.add_sub_cancel_left]; exact gA
            have gC' : Rd w0 (.slice (some ⟨b, off + (s + m), none⟩) (zs.length - (s + m)) (cap - (s + m))) ZC := by
              rw [show off + (s + m) = off + s + m by omega, show zs.length - (s + m) = zs.length - s - m by omega, show cap - (s + m) = cap - s - m by omega]; exact gC
            exact ⟨_, _, _, rfl, ⟨gA', .inr ⟨_, _, _, _, rfl⟩⟩, ⟨gC', .inr ⟨_, _, _, _, rfl⟩⟩, rfl⟩
      · have HT := Lib.hid (tk_short zs m s hrd (by omega))
        clear hrd
        have hlt : (zs.length : Int) - (s : Int) < (m : Int) := by omega
        go_enter Tryd.func64, Tryd.ntmps64
        go_wp2_with (go_at_call 47; refine hr.mono ?_; rintro e w' ⟨rfl, rfl⟩)
        go_ret3
        rw [HT.out]
        exact ⟨_, _, 0, rfl, ⟨Rd.nil _, .inl rfl⟩, ⟨Rd.nil _, .inl rfl⟩, rfl⟩
    · have HT := Lib.hid (tk_err zs N S E hrd (by omega))
      clear hrd hok
      rcases hE with rfl | rfl
      all_goals
        go_enter Tryd.func64, Tryd.ntmps64
        go_wp2_with (go_at_call 47; refine hr.mono ?_; rintro e w' ⟨rfl, rfl⟩)
        go_ret3
        rw [HT.out]
        exact ⟨_, _, 0, rfl, ⟨Rd.nil _, .inl rfl⟩, ⟨Rd.nil _, .inl rfl⟩, rfl⟩
#print axioms jtake_any
/-- tk by places. -/
theorem tk_give {zs : List Int} (hb : Byt zs) {t : Nat} : (hGive zs t = none ∧ (tk (zs.drop t)).2.2 ≠ 0) ∨ ∃ p t', hGive zs t = some (p, t') ∧ tk (zs.drop t) = (p, zs.drop t', 0) ∧ t < t' ∧ t' ≤ zs.length := by
  unfold hGive gVar
  rcases rd_size (hb.drop t) with ⟨h1, hn, k, hk, _, _, hl⟩ | ⟨_, _, h1⟩
  · rw [if_pos h1]
    simp only
    obtain ⟨n, hnn⟩ : ∃ n : Nat, (rd (zs.drop t)).1 = n := ⟨(rd (zs.drop t)).1.toNat, by omega⟩
    have hrd : rd (zs.drop t) = ((n : Int), (k : Int), 0) := Prod.ext hnn (Prod.ext hk h1)
    rw [hrd]
    simp only [Int.toNat_natCast]
    unfold gBytes
    rw [← List.drop_drop]
    by_cases h2 : ((zs.drop t).drop k).length < n
    · left
      rw [if_pos h2]
      rw [tk_short _ _ _ hrd (by simp only [List.length_drop] at h2 hl ⊢; omega)]
      exact ⟨rfl, by decide⟩
    · right
      rw [if_neg h2]
      have hle : k + n ≤ (zs.drop t).length := by simp only [List.length_drop] at h2 hl ⊢; omega
      refine ⟨_, _, rfl, ?_, ?_, ?_⟩
      · rw [tk_ok _ _ _ hrd hle]
        simp only [List.drop_drop]
      · have := (rd_size (hb.drop t)); rcases this with ⟨_, _, k', hk', h3, _⟩ | ⟨_, _, h3⟩
        · have : k' = k := by rw [hk] at hk'; omega
          omega
        · omega
      · simp only [List.length_drop] at hle; omega
  · left
    have hne : (rd (zs.drop t)).2.2 ≠ 0 := by omega
    rw [if_neg hne]
    exact ⟨rfl, by rw [tk_err (zs.drop t) (rd (zs.drop t)).1 (rd (zs.drop t)).2.1 (rd (zs.drop t)).2.2 rfl hne]; exact hne⟩
set_option maxRecDepth 20000 in
set_option maxHeartbeats 2000000 in
theorem jgive_any {w0 w : World} {I : Nat} {zs : List Int} {s : JS} (h : Jq w0 w I zs s) (hbt : Byt zs) (hz : zs.length ≤ 100000) :
    Calls Tryd.prog 45 #[.pointer (some ⟨I, 0, none⟩)] w fun e w' => ∃ v, e = .returned v ∧ (Rd w0 v (jGive zs s).1 ∧ Plain v) ∧ Jq w0 w' I zs (jGive zs s).2 ∧ But I w w' := by
  obtain ⟨ao, n, cap, hn, hr, hp, hlc, hcap, c0, c1, cf⟩ := h.cells
  have hT := jtake_any hr h.bel (by simp; omega)
  have HQ := Lib.hid h
  obtain ⟨t, b⟩ := s
  simp only at hn hr c1 hT
  have htl : t ≤ zs.length := h.tl
  have hJd : ∀ m (s' : JS), Jq w0 w I zs s' → Jq w0 (w.drewN m) I zs s' := fun m s' hj => ⟨(But.drewN (B := I) m).below hj.bel hj.lo, hj.lo, hj.tl, hj.sz, hj.box⟩
  unfold jGive
  cases b with
  | true =>
    rw [if_pos rfl]
    have HS : Hid (∀ m, Jq w0 ((w.drewN m).setCell ⟨I, 1, none⟩ (.bool true)) I zs ⟨t, true⟩) := Lib.hid fun m => ((hJd m _ HQ.out).setb true).to rfl
    generalize tk (zs.drop t) = q at *
    obtain ⟨q1, q2, q3⟩ := q
    clear h hr hp hn hlc
    go_enter Tryd.func45, Tryd.ntmps45
    go_wp2_with fail
    refine hT.mono ?_
    rintro e w1 ⟨v1, v2, m, rfl, ⟨hv1, _⟩, ⟨hv2, _⟩, rfl⟩
    obtain ⟨_, _, _, _, _, _, _, _, d0, d1, df⟩ := (hJd m _ HQ.out).cells
    obtain ⟨a1, k1, rfl⟩ := hv1.shape
    obtain ⟨a2, k2, rfl⟩ := hv2.shape
    simp only at d1
    clear hT hv1 hv2 d0
    go_wp2_with fail
    go_ret
    exact ⟨_, rfl, ⟨Rd.nil w0, .inl rfl⟩, HS.out m, (But.drewN m).trans (But.set _ _ _ _)⟩
  | false =>
    rw [if_neg (by simp)]
    rcases tk_give hbt (t := t) with ⟨hg, hk⟩ | ⟨p, t', hg, hk, _, ht'⟩
    · rw [hg]
      have HS : Hid (∀ m, Jq w0 ((w.drewN m).setCell ⟨I, 1, none⟩ (.bool true)) I zs ⟨t, true⟩) := Lib.hid fun m => ((hJd m _ HQ.out).setb true).to rfl
      generalize tk (zs.drop t) = q at *
      obtain ⟨q1, q2, q3⟩ := q
      simp only at hk
      have hk2 : (q3 != 0) = true := by simp [hk]
      clear h hr hp hn hlc hg hk
      go_enter Tryd.func45, Tryd.ntmps45
      go_wp2_with fail
      refine hT.mono ?_
      rintro e w1 ⟨v1, v2, m, rfl, ⟨hv1, _⟩, ⟨hv2, _⟩, rfl⟩
      obtain ⟨_, _, _, _, _, _, _, _, d0, d1, df⟩ := (hJd m _ HQ.out).cells
      obtain ⟨a1, k1, rfl⟩ := hv1.shape
      obtain ⟨a2, k2, rfl⟩ := hv2.shape
      simp only at d1
      clear hT hv1 hv2 d0
      go_wp2_with fail
      go_ret
      exact ⟨_, rfl, ⟨Rd.nil w0, .inl rfl⟩, HS.out m, (But.drewN m).trans (But.set _ _ _ _)⟩
    · rw [hg]
      rw [hk] at hT
      have HT' := Lib.hid ht'
      clear h hr hp hn hlc hg hk
      go_enter Tryd.func45, Tryd.ntmps45
      go_wp2_with fail
      refine hT.mono ?_
      rintro e w1 ⟨v1, v2, m, rfl, hv1, hv2, rfl⟩
      have HJ := Lib.hid (hJd m _ HQ.out)
      obtain ⟨_, _, _, _, _, _, _, _, d0, d1, df⟩ := HJ.out.cells
      have HV1 := Lib.hid hv1
      have HV2 := Lib.hid hv2
      obtain ⟨a1, k1, rfl⟩ := hv1.1.shape
      obtain ⟨a2, k2, rfl⟩ := hv2.1.shape
      simp only at d1
      clear hT hv1 hv2 d0
      go_wp2_with fail
      go_ret
      exact ⟨_, rfl, HV1.out, HJ.out.setr t' HT'.out _ (by have h9 := HV2.out.1; rw [List.length_drop] at h9; exact h9) (by have h9 := HV2.out.2; rw [List.length_drop] at h9; exact h9), (But.drewN m).trans (But.set _ _ _ _)⟩
#print axioms jgive_any
end Go.Proofs.YtefcjggmlhoebaaDoor
