/- The function Take answers tk of the bytes, in new slices, and writes nothing that was there. -/
import Derived.Test.YtmglhlfjddgllaaDoorVal
import Derived.Test.YtmglhlfjddgllaaDoorClone
import Derived.Deep.RegionWith
import Derived.RegionTactic
import Derived.BigRegion
namespace Go.Proofs.YtmglhlfjddgllaaDoor
open Go Go.RowKit

/-- The bytes behind their length, what stands behind them, an error's number. -/
def tk (zs : List Int) : List Int × List Int × Int :=
  if (rd zs).2.2 ≠ 0 then ([], [], (rd zs).2.2)
  else if (zs.length : Int) - (rd zs).2.1 < (rd zs).1 then ([], [], 2)
  else ((zs.drop (rd zs).2.1.toNat).take (rd zs).1.toNat, (zs.drop (rd zs).2.1.toNat).drop (rd zs).1.toNat, 0)

theorem val_nonneg (zs : List Int) (h : Byt zs) : 0 ≤ val zs := by
  cases zs with
  | nil => simp [val]
  | cons x r => exact (vf_bd (x % 64) (by omega) (by omega) r (fun z hz => h z (by simp [hz]))).1
theorem rd_bd (zs : List Int) (h : Byt zs) : (0 ≤ (rd zs).1) ∧ ((rd zs).2.2 = 0 → 1 ≤ (rd zs).2.1 ∧ (rd zs).2.1 ≤ zs.length ∧ (rd zs).1 < 4611686018427387904) ∧ ((rd zs).2.2 = 0 ∨ (rd zs).2.2 = 2 ∨ (rd zs).2.2 = 3) := by
  cases zs with
  | nil => exact ⟨by decide, by decide, by decide⟩
  | cons z r =>
    simp only [rd]
    split
    · exact ⟨by simp, by simp, by simp⟩
    · rename_i hlt
      split
      · rename_i hs
        refine ⟨val_nonneg _ (h.take _), fun _ => ⟨?_, ?_, ?_⟩, by simp⟩
        · rcases fs_cases z (h z (by simp)) with ⟨_, e⟩ | ⟨_, e⟩ | ⟨_, e⟩ | ⟨_, e⟩ <;> simp only [e] <;> omega
        · simp only; omega
        · simp only
          rcases sz_cases (val ((z :: r).take (fs z))) with ⟨h0, _⟩ | ⟨_, h1, _⟩
          · rw [h0] at hs
            rcases fs_cases z (h z (by simp)) with ⟨_, e⟩ | ⟨_, e⟩ | ⟨_, e⟩ | ⟨_, e⟩ <;> rw [e] at hs <;> omega
          · exact h1
      · exact ⟨by simp, by simp, by simp⟩

theorem Rd.drop {w : World} {b off n cap k : Nat} {zs : List Int} (h : Rd w (.slice (some ⟨b, off, none⟩) n cap) zs) (hk : k ≤ zs.length) (ao : Option Addr) (hao : k < cap → ao = some ⟨b, off + k, none⟩) (hao2 : ao ≠ none) :
    Rd w (.slice ao (n - k) (cap - k)) (zs.drop k) := by
  obtain ⟨ao', cap', hv, h1, h2, h3, h4, hc⟩ := h
  simp only [Value.slice.injEq] at hv
  obtain ⟨rfl, rfl, rfl⟩ := hv
  have hl : (zs.drop k).length = zs.length - k := by simp
  refine ⟨ao, cap - k, by rw [hl], by omega, by omega, fun h => absurd h hao2, h4.drop k, fun a ha j hj => ?_⟩
  rw [hl] at hj
  rw [hao (by omega)] at ha
  cases ha
  have := hc _ rfl (k + j) (by omega)
  rw [Addr.add_lit] at this ⊢
  rw [Nat.add_assoc, this]
  simp [List.getD]

theorem tk_err (zs : List Int) (N S E : Int) (h : rd zs = (N, S, E)) (hE : E ≠ 0) : tk zs = ([], [], E) := by
  simp [tk, h, hE]
theorem tk_short (zs : List Int) (N S : Int) (h : rd zs = (N, S, 0)) (hl : (zs.length : Int) - S < N) : tk zs = ([], [], 2) := by
  simp [tk, h, hl]
theorem tk_ok (zs : List Int) (m s : Nat) (h : rd zs = ((m : Int), (s : Int), 0)) (hl : s + m ≤ zs.length) : tk zs = ((zs.drop s).take m, (zs.drop s).drop m, 0) := by
  have : ¬ (zs.length : Int) - s < m := by omega
  simp [tk, h, this]

/-- What Take leaves. -/
def Took (w : World) (r : List Int × List Int × Int) (e : Ending) (w' : World) : Prop :=
  ∃ v1 v2, e = .returned (.tuple #[v1, v2, .int .i64 r.2.2]) ∧ Rd w' v1 r.1 ∧ Rd w' v2 r.2.1 ∧ Below w.heap.size w w'

end Go.Proofs.YtmglhlfjddgllaaDoor
