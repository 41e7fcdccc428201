/- The document's answers Take and Give: tk of the bytes, in the same memory; the bytes behind their length, in new memory. Nothing that was there is written. -/
import Derived.Test.YtmglhlfjddgllaaDoorRefRead
import Derived.Test.YtmglhlfjddgllaaDoorTake
import Derived.Test.YtmglhlfjddgllaaDoorBytes
import Derived.Deep.QuietTactic
import Derived.BigQuiet
namespace Go.Proofs.YtmglhlfjddgllaaDoor
open Go Go.RowKit

set_option maxHeartbeats 800000 in
theorem refgive_any {w : World} {vp : Value} {zp : List Int} (hp : Rd w vp zp) (h2 : zp.length ≤ 1000) :
    Calls Tryd.prog 46 #[vp] w fun e w' => ∃ v', e = .returned v' ∧ w'.ownsRow w.heap.size 5 1 v' ((enc zp.length).length + zp.length) (by8 (enc zp.length ++ zp)) ∧ Below w.heap.size w w' := by
  have hp' := hp
  obtain ⟨ab, cb, rfl, _⟩ := hp'
  have hl8 := enc_len zp.length
  go_enter Tryd.func46, Tryd.ntmps46
  go_wp2_with fail
  refine (bytes_any (zp.length : Int)).mono ?_
  rintro e w1 ⟨v1, rfl, hown1, hb1⟩
  have gp := hp.below hb1
  have s1 := hb1.size
  go_wp2_with (at_builtin; refine wpList_append_bytes (.tmp 5) (.tmp 6) 22 rfl rfl info5 Tryd.underlying22 w.heap.size _ _ _ rfl hown1 _ zp rfl gp (by omega) s1 ?_; intro v2 w2 hown2 hb2)
  go_ret
  exact ⟨_, rfl, hown2, hb1.trans hb2⟩

set_option maxHeartbeats 1000000 in
theorem reftake_any {w : World} {v : Value} {zs : List Int} (h : Rd w v zs) (hz : zs.length ≤ 100000) :
    Calls Tryd.prog 37 #[v] w fun e w' => Took w (tk zs) e w' := by
  have hr := refread_any h
  have hbyt := h.byt
  obtain ⟨hN0, hok, hE⟩ := rd_bd zs hbyt
  generalize hrd : rd zs = r at *
  obtain ⟨N, S, E⟩ := r
  simp only at hr hN0 hok hE
  rcases h.cases with ⟨rfl, ao, cap, rfl, hcap⟩ | ⟨b, off, cap, rfl, hpos, hlc, hcap, _, _⟩
  · obtain ⟨rfl, rfl, rfl⟩ : N = 0 ∧ S = 0 ∧ E = 2 := by
      have : rd [] = (0, 0, 2) := rfl
      rw [this] at hrd
      simp only [Prod.mk.injEq] at hrd
      exact ⟨hrd.1.symm, hrd.2.1.symm, hrd.2.2.symm⟩
    have HT := Lib.hid (tk_err [] 0 0 2 hrd (by decide))
    clear hrd h hok hE
    go_enter Tryd.func37, Tryd.ntmps37
    go_wp2_with (go_at_call 36; refine hr.mono ?_; rintro e w' ⟨rfl, rfl⟩)
    go_ret3
    rw [HT.out]
    exact ⟨_, _, rfl, Rd.nil _, Rd.nil _, Below.refl _ _⟩
  · rcases hE with rfl | hE
    · obtain ⟨hs1, hs2, hs3⟩ := hok rfl
      obtain ⟨m, rfl⟩ := Int.eq_ofNat_of_zero_le hN0
      obtain ⟨s, rfl⟩ := Int.eq_ofNat_of_zero_le (show 0 ≤ S by omega)
      have hs1' : 1 ≤ s := by omega
      have hs2' : s ≤ zs.length := by omega
      clear hok hs1 hs2 hN0 hs3
      by_cases hle : s + m ≤ zs.length
      · have HT := Lib.hid (tk_ok zs m s hrd hle)
        clear hrd
        have gB : ∀ ao, (s < cap → ao = some ⟨b, off + s, none⟩) → ao ≠ none → Rd w (.slice ao (zs.length - s) (cap - s)) (zs.drop s) := fun ao h1 h2 => h.drop hs2' ao h1 h2
        have hlB : (zs.drop s).length = zs.length - s := by simp
        by_cases hcs : cap = s
        · obtain rfl : s = zs.length := by omega
          obtain rfl : m = 0 := by omega
          subst hcs
          have g1 := gB (some ⟨b, off, none⟩) (by omega) (by simp)
          simp only [Nat.sub_self] at g1
          have e : List.drop zs.length zs = [] := List.drop_eq_nil_of_le (Nat.le_refl _)
          rw [e] at g1 HT
          have gA : Rd w (.slice (some ⟨b, off, none⟩) 0 0) ([] : List Int) := g1
          clear g1 gB h hlB e
          go_enter Tryd.func37, Tryd.ntmps37
          go_wp2_with (go_at_call 36; refine hr.mono ?_; rintro e w' ⟨rfl, rfl⟩)
          go_quiet (fail)
          go_wp2
          go_ret3
          rw [HT.out]
          exact ⟨_, _, rfl, gA.below (below_drewN (Below.refl _ _) _), gA.below (below_drewN (Below.refl _ _) _), below_drewN (Below.refl _ _) _⟩
        · have g1 := gB (some ⟨b, off + s, none⟩) (fun _ => rfl) (by simp)
          have gA := g1.take m (by omega)
          have hsm : IntKind.i64.wrap ((s : Int) + (m : Int)) = (s : Int) + (m : Int) := wraps_i64 _ (by omega) (by omega)
          by_cases hcm : cap = s + m
          · have gC := g1.drop (k := m) (by omega) (some ⟨b, off, none⟩) (by omega) (by simp)
            generalize List.take m (List.drop s zs) = ZA at *
            generalize List.drop m (List.drop s zs) = ZC at *
            clear g1 gB h hlB
            subst hcm
            go_enter Tryd.func37, Tryd.ntmps37
            go_wp2_with (go_at_call 36; refine hr.mono ?_; rintro e w' ⟨rfl, rfl⟩)
            go_quiet (fail)
            go_wp2
            go_ret3
            rw [HT.out]
            have gA' : Rd w (.slice (some ⟨b, off + s, none⟩) (s + m - s) m) ZA := by
              rw [Nat.add_sub_cancel_left] at gA ⊢; exact gA
            have gC' : Rd w (.slice (some ⟨b, off, none⟩) (zs.length - (s + m)) (s + m - (s + m))) ZC := by
              rw [show zs.length - (s + m) = zs.length - s - m by omega, show s + m - (s + m) = s + m - s - m by omega]; exact gC
            exact ⟨_, _, rfl, gA'.below (below_drewN (Below.refl _ _) _), gC'.below (below_drewN (Below.refl _ _) _), below_drewN (Below.refl _ _) _⟩
          · have gC := g1.drop (k := m) (by omega) (some ⟨b, off + s + m, none⟩) (fun _ => rfl) (by simp)
            generalize List.take m (List.drop s zs) = ZA at *
            generalize List.drop m (List.drop s zs) = ZC at *
            clear g1 gB h hlB
            go_enter Tryd.func37, Tryd.ntmps37
            go_wp2_with (go_at_call 36; refine hr.mono ?_; rintro e w' ⟨rfl, rfl⟩)
            go_quiet (fail)
            go_wp2
            go_ret3
            rw [HT.out]
            have gA' : Rd w (.slice (some ⟨b, off + s, none⟩) (s + m - s) (cap - s)) ZA := by
              rw [Nat.add_sub_cancel_left]; exact gA
            have gC' : Rd w (.slice (some ⟨b, off + (s + m), none⟩) (zs.length - (s + m)) (cap - (s + m))) ZC := by
              rw [show off + (s + m) = off + s + m by omega, show zs.length - (s + m) = zs.length - s - m by omega, show cap - (s + m) = cap - s - m by omega]; exact gC
            exact ⟨_, _, rfl, gA'.below (below_drewN (Below.refl _ _) _), gC'.below (below_drewN (Below.refl _ _) _), below_drewN (Below.refl _ _) _⟩
      · have HT := Lib.hid (tk_short zs m s hrd (by omega))
        clear hrd
        have hlt : (zs.length : Int) - (s : Int) < (m : Int) := by omega
        go_enter Tryd.func37, Tryd.ntmps37
        go_wp2_with (go_at_call 36; refine hr.mono ?_; rintro e w' ⟨rfl, rfl⟩)
        go_ret3
        rw [HT.out]
        exact ⟨_, _, rfl, Rd.nil _, Rd.nil _, Below.refl _ _⟩
    · have HT := Lib.hid (tk_err zs N S E hrd (by omega))
      clear hrd hok
      rcases hE with rfl | rfl
      all_goals
        go_enter Tryd.func37, Tryd.ntmps37
        go_wp2_with (go_at_call 36; refine hr.mono ?_; rintro e w' ⟨rfl, rfl⟩)
        go_ret3
        rw [HT.out]
        exact ⟨_, _, rfl, Rd.nil _, Rd.nil _, Below.refl _ _⟩
#print axioms reftake_any
end Go.Proofs.YtmglhlfjddgllaaDoor
