/- The document's answers Take and Give: tk of the bytes, in the same memory; the bytes behind their length, in new memory. Nothing that was there is written. -/
import Derived.Test.YtefcjggmlhoebaaDoorVal
import Derived.Test.YtefcjggmlhoebaaDoorRefRead
import Derived.Test.YtefcjggmlhoebaaDoorGPure
import Derived.Deep.RegionWith
import Derived.RegionTactic
import Derived.BigRegion
import Derived.Test.YtefcjggmlhoebaaDoorHApp
import Derived.Deep.QuietTactic
import Derived.BigQuiet
namespace Go.Proofs.YtefcjggmlhoebaaDoor
open Go Go.RowKit

/-- The bytes behind their length, what stands behind them, an error's number. -/
def tk (zs : List Int) : List Int × List Int × Int :=
  if (rd zs).2.2 ≠ 0 then ([], [], (rd zs).2.2)
  else if (zs.length : Int) - (rd zs).2.1 < (rd zs).1 then ([], [], 2)
  else ((zs.drop (rd zs).2.1.toNat).take (rd zs).1.toNat, (zs.drop (rd zs).2.1.toNat).drop (rd zs).1.toNat, 0)

theorem val_nonneg (zs : List Int) (h : Byt zs) : 0 ≤ val zs := by
  cases zs with
  | nil => simp [val]
  | cons x r => exact (vf_bd (x % 64) (by omega) (by omega) r (fun z hz => h z (by simp [hz]))).1
theorem rd_bd (zs : List Int) (h : Byt zs) : (0 ≤ (rd zs).1) ∧ ((rd zs).2.2 = 0 → 1 ≤ (rd zs).2.1 ∧ (rd zs).2.1 ≤ zs.length ∧ (rd zs).1 < 4611686018427387904) ∧ ((rd zs).2.2 = 0 ∨ (rd zs).2.2 = 2 ∨ (rd zs).2.2 = 3) := by
  cases zs with
  | nil => exact ⟨by decide, by decide, by decide⟩
  | cons z r =>
    simp only [rd]
    split
    · exact ⟨by simp, by simp, by simp⟩
    · rename_i hlt
      split
      · rename_i hs
        refine ⟨val_nonneg _ (h.take _), fun _ => ⟨?_, ?_, ?_⟩, by simp⟩
        · rcases fs_cases z (h z (by simp)) with ⟨_, e⟩ | ⟨_, e⟩ | ⟨_, e⟩ | ⟨_, e⟩ <;> simp only [e] <;> omega
        · simp only; omega
        · simp only
          rcases sz_cases (val ((z :: r).take (fs z))) with ⟨h0, _⟩ | ⟨_, h1, _⟩
          · rw [h0] at hs
            rcases fs_cases z (h z (by simp)) with ⟨_, e⟩ | ⟨_, e⟩ | ⟨_, e⟩ | ⟨_, e⟩ <;> rw [e] at hs <;> omega
          · exact h1
      · exact ⟨by simp, by simp, by simp⟩

theorem Rd.drop {w : World} {b off n cap k : Nat} {zs : List Int} (h : Rd w (.slice (some ⟨b, off, none⟩) n cap) zs) (hk : k ≤ zs.length) (ao : Option Addr) (hao : k < cap → ao = some ⟨b, off + k, none⟩) (hao2 : ao ≠ none) :
    Rd w (.slice ao (n - k) (cap - k)) (zs.drop k) := by
  obtain ⟨ao', cap', hv, h1, h2, h3, h4, hc⟩ := h
  simp only [Value.slice.injEq] at hv
  obtain ⟨rfl, rfl, rfl⟩ := hv
  have hl : (zs.drop k).length = zs.length - k := by simp
  refine ⟨ao, cap - k, by rw [hl], by omega, by omega, fun h => absurd h hao2, h4.drop k, fun a ha j hj => ?_⟩
  rw [hl] at hj
  rw [hao (by omega)] at ha
  cases ha
  have := hc _ rfl (k + j) (by omega)
  rw [Addr.add_lit] at this ⊢
  rw [Nat.add_assoc, this]
  simp [List.getD]

theorem tk_err (zs : List Int) (N S E : Int) (h : rd zs = (N, S, E)) (hE : E ≠ 0) : tk zs = ([], [], E) := by
  simp [tk, h, hE]
theorem tk_short (zs : List Int) (N S : Int) (h : rd zs = (N, S, 0)) (hl : (zs.length : Int) - S < N) : tk zs = ([], [], 2) := by
  simp [tk, h, hl]
theorem tk_ok (zs : List Int) (m s : Nat) (h : rd zs = ((m : Int), (s : Int), 0)) (hl : s + m ≤ zs.length) : tk zs = ((zs.drop s).take m, (zs.drop s).drop m, 0) := by
  have : ¬ (zs.length : Int) - s < m := by omega
  simp [tk, h, this]

/-- What Take leaves. -/
def Took (w : World) (r : List Int × List Int × Int) (e : Ending) (w' : World) : Prop :=
  ∃ v1 v2, e = .returned (.tuple #[v1, v2, .int .i64 r.2.2]) ∧ Rd w' v1 r.1 ∧ Rd w' v2 r.2.1 ∧ Below w.heap.size w w'

end Go.Proofs.YtefcjggmlhoebaaDoor
namespace Go.Proofs.YtefcjggmlhoebaaDoor
open Go Go.RowKit

set_option maxHeartbeats 800000 in
theorem refgive_any {w : World} {vp : Value} {zp : List Int} (hp : Rd w vp zp) (h2 : zp.length ≤ 1000) :
    Calls Tryd.prog 33 #[vp] w fun e w' => ∃ v', e = .returned v' ∧ w'.ownsRow w.heap.size 5 1 v' ((enc zp.length).length + zp.length) (by8 (enc zp.length ++ zp)) ∧ Below w.heap.size w w' := by
  have hp' := hp
  obtain ⟨ab, cb, rfl, _⟩ := hp'
  have hl8 := enc_len zp.length
  go_enter Tryd.func33, Tryd.ntmps33
  go_wp2_with fail
  refine (bytes_any (zp.length : Int)).mono ?_
  rintro e w1 ⟨v1, rfl, hown1, hb1⟩
  have gp := hp.below hb1
  have s1 := hb1.size
  go_wp2_with (at_builtin; refine wpList_append_bytes (.tmp 5) (.tmp 6) 22 rfl rfl info5 Tryd.underlying22 w.heap.size _ _ _ rfl hown1 _ zp rfl gp (by omega) s1 ?_; intro v2 w2 hown2 hb2)
  go_ret
  exact ⟨_, rfl, hown2, hb1.trans hb2⟩

set_option maxHeartbeats 1000000 in
theorem reftake_any {w : World} {v : Value} {zs : List Int} (h : Rd w v zs) (hz : zs.length ≤ 100000) :
    Calls Tryd.prog 64 #[v] w fun e w' => Took w (tk zs) e w' := by
  have hr := refread_any h
  have hbyt := h.byt
  obtain ⟨hN0, hok, hE⟩ := rd_bd zs hbyt
  generalize hrd : rd zs = r at *
  obtain ⟨N, S, E⟩ := r
  simp only at hr hN0 hok hE
  rcases h.cases with ⟨rfl, ao, cap, rfl, hcap⟩ | ⟨b, off, cap, rfl, hpos, hlc, hcap, _, _⟩
  · obtain ⟨rfl, rfl, rfl⟩ : N = 0 ∧ S = 0 ∧ E = 2 := by
      have : rd [] = (0, 0, 2) := rfl
      rw [this] at hrd
      simp only [Prod.mk.injEq] at hrd
      exact ⟨hrd.1.symm, hrd.2.1.symm, hrd.2.2.symm⟩
    have HT := Lib.hid (tk_err [] 0 0 2 hrd (by decide))
    clear hrd h hok hE
    go_enter Tryd.func64, Tryd.ntmps64
    go_wp2_with (go_at_call 47; refine hr.mono ?_; rintro e w' ⟨rfl, rfl⟩)
    go_ret3
    rw [HT.out]
    exact ⟨_, _, rfl, Rd.nil _, Rd.nil _, Below.refl _ _⟩
  · rcases hE with rfl | hE
    · obtain ⟨hs1, hs2, hs3⟩ := hok rfl
      obtain ⟨m, rfl⟩ := Int.eq_ofNat_of_zero_le hN0
      obtain ⟨s, rfl⟩ := Int.eq_ofNat_of_zero_le (show 0 ≤ S by omega)
      have hs1' : 1 ≤ s := by omega
      have hs2' : s ≤ zs.length := by omega
      clear hok hs1 hs2 hN0 hs3
      by_cases hle : s + m ≤ zs.length
      · have HT := Lib.hid (tk_ok zs m s hrd hle)
        clear hrd
        have gB : ∀ ao, (s < cap → ao = some ⟨b, off + s, none⟩) → ao ≠ none → Rd w (.slice ao (zs.length - s) (cap - s)) (zs.drop s) := fun ao h1 h2 => h.drop hs2' ao h1 h2
        have hlB : (zs.drop s).length = zs.length - s := by simp
        by_cases hcs : cap = s
        · obtain rfl : s = zs.length := by omega
          obtain rfl : m = 0 := by omega
          subst hcs
          have g1 := gB (some ⟨b, off, none⟩) (by omega) (by simp)
          simp only [Nat.sub_self] at g1
          have e : List.drop zs.length zs = [] := List.drop_eq_nil_of_le (Nat.le_refl _)
          rw [e] at g1 HT
          have gA : Rd w (.slice (some ⟨b, off, none⟩) 0 0) ([] : List Int) := g1
          clear g1 gB h hlB e
          go_enter Tryd.func64, Tryd.ntmps64
          go_wp2_with (go_at_call 47; refine hr.mono ?_; rintro e w' ⟨rfl, rfl⟩)
          go_quiet (fail)
          go_wp2
          go_ret3
          rw [HT.out]
          exact ⟨_, _, rfl, gA.below (below_drewN (Below.refl _ _) _), gA.below (below_drewN (Below.refl _ _) _), below_drewN (Below.refl _ _) _⟩
        · have g1 := gB (some ⟨b, off + s, none⟩) (fun _ => rfl) (by simp)
          have gA := g1.take m (by omega)
          have hsm : IntKind.i64.wrap ((s : Int) + (m : Int)) = (s : Int) + (m : Int) := wraps_i64 _ (by omega) (by omega)
          by_cases hcm : cap = s + m
          · have gC := g1.drop (k := m) (by omega) (some ⟨b, off, none⟩) (by omega) (by simp)
            generalize List.take m (List.drop s zs) = ZA at *
            generalize List.drop m (List.drop s zs) = ZC at *
            clear g1 gB h hlB
            subst hcm
            go_enter Tryd.func64, Tryd.ntmps64
            go_wp2_with (go_at_call 47; refine hr.mono ?_; rintro e w' ⟨rfl, rfl⟩)
            go_quiet (fail)
            go_wp2
            go_ret3
            rw [HT.out]
            have gA' : Rd w (.slice (some ⟨b, off + s, none⟩) (s + m - s) m) ZA := by
              rw [Nat.add_sub_cancel_left] at gA ⊢; exact gA
            have gC' : Rd w (.slice (some ⟨b, off, none⟩) (zs.length - (s + m)) (s + m - (s + m))) ZC := by
              rw [show zs.length - (s + m) = zs.length - s - m by omega, show s + m - (s + m) = s + m - s - m by omega]; exact gC
            exact ⟨_, _, rfl, gA'.below (below_drewN (Below.refl _ _) _), gC'.below (below_drewN (Below.refl _ _) _), below_drewN (Below.refl _ _) _⟩
          · have gC := g1.drop (k := m) (by omega) (some ⟨b, off + s + m, none⟩) (fun _ => rfl) (by simp)
            generalize List.take m (List.drop s zs) = ZA at *
            generalize List.drop m (List.drop s zs) = ZC at *
            clear g1 gB h hlB
            go_enter Tryd.func64, Tryd.ntmps64
            go_wp2_with (go_at_call 47; refine hr.mono ?_; rintro e w' ⟨rfl, rfl⟩)
            go_quiet (fail)
            go_wp2
            go_ret3
            rw [HT.out]
            have gA' : Rd w (.slice (some ⟨b, off + s, none⟩) (s + m - s) (cap - s)) ZA := by
              rw [Nat.add_sub_cancel_left]; exact gA
            have gC' : Rd w (.slice (some ⟨b, off + (s + m), none⟩) (zs.length - (s + m)) (cap - (s + m))) ZC := by
              rw [show off + (s + m) = off + s + m by omega, show zs.length - (s + m) = zs.length - s - m by omega, show cap - (s + m) = cap - s - m by omega]; exact gC
            exact ⟨_, _, rfl, gA'.below (below_drewN (Below.refl _ _) _), gC'.below (below_drewN (Below.refl _ _) _), below_drewN (Below.refl _ _) _⟩
      · have HT := Lib.hid (tk_short zs m s hrd (by omega))
        clear hrd
        have hlt : (zs.length : Int) - (s : Int) < (m : Int) := by omega
        go_enter Tryd.func64, Tryd.ntmps64
        go_wp2_with (go_at_call 47; refine hr.mono ?_; rintro e w' ⟨rfl, rfl⟩)
        go_ret3
        rw [HT.out]
        exact ⟨_, _, rfl, Rd.nil _, Rd.nil _, Below.refl _ _⟩
    · have HT := Lib.hid (tk_err zs N S E hrd (by omega))
      clear hrd hok
      rcases hE with rfl | rfl
      all_goals
        go_enter Tryd.func64, Tryd.ntmps64
        go_wp2_with (go_at_call 47; refine hr.mono ?_; rintro e w' ⟨rfl, rfl⟩)
        go_ret3
        rw [HT.out]
        exact ⟨_, _, rfl, Rd.nil _, Rd.nil _, Below.refl _ _⟩
#print axioms reftake_any
end Go.Proofs.YtefcjggmlhoebaaDoor
