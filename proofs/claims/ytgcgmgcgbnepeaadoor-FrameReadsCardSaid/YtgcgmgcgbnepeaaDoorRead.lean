/- The function Read answers rd of the bytes: the number, its size, an error's number; it writes nothing. -/
import Derived.Test.YtgcgmgcgbnepeaaDoorGet
namespace Go.Proofs.YtgcgmgcgbnepeaaDoor
open Go Go.RowKit

/-- The size that a first byte tells. -/
def fs (z : Int) : Nat := 2 ^ (z / 64).toNat
/-- What bytes begin with: the number, its size, an error's number. -/
def rd (zs : List Int) : Int × Int × Int :=
  match zs with
  | [] => (0, 0, 2)
  | z :: r => if (z :: r).length < fs z then (0, 0, 2) else if sz (val ((z :: r).take (fs z))) = (fs z : Int) then (val ((z :: r).take (fs z)), fs z, 0) else (0, 0, 3)

theorem fs_cases (z : Int) (h : 0 ≤ z ∧ z ≤ 255) : (z / 64 = 0 ∧ fs z = 1) ∨ (z / 64 = 1 ∧ fs z = 2) ∨ (z / 64 = 2 ∧ fs z = 4) ∨ (z / 64 = 3 ∧ fs z = 8) := by
  have : z / 64 = 0 ∨ z / 64 = 1 ∨ z / 64 = 2 ∨ z / 64 = 3 := by omega
  rcases this with e | e | e | e <;> simp [fs, e]

set_option maxRecDepth 20000 in
set_option maxHeartbeats 800000 in
theorem read_any {w : World} {v : Value} {zs : List Int} (h : Rd w v zs) :
    Calls Tryd.prog 68 #[v] w fun e w' => e = .returned (.tuple #[.int .i64 (rd zs).1, .int .i64 (rd zs).2.1, .int .i64 (rd zs).2.2]) ∧ w = w' := by
  have hbyt := h.byt
  rcases h.cases with ⟨rfl, ao, cap, rfl, hcap⟩ | ⟨b, off, cap, rfl, hpos, hlc, hcap, _, hcell⟩
  · clear h hbyt
    go_enter Tryd.func68, Tryd.ntmps68
    go_wp2
    go_ret3
    exact ⟨rfl, rfl⟩
  · clear h
    obtain ⟨z, r, hzr⟩ : ∃ z r, zs = z :: r := by cases zs with | nil => simp at hpos | cons z r => exact ⟨z, r, rfl⟩
    have hz := hbyt z (by simp [hzr])
    have hc0 : w.cell? ⟨b, off, none⟩ = some (.int .u8 z) := by have := hcell 0 hpos; simpa [hzr] using this
    have HRD : Hid (rd zs = if zs.length < fs z then (0, 0, 2) else if sz (val (zs.take (fs z))) = (fs z : Int) then (val (zs.take (fs z)), (fs z : Int), 0) else (0, 0, 3)) := Lib.hid (by rw [hzr]; rfl)
    have HC := Lib.hid hcell
    clear hcell hzr
    have HNE : ((zs.length : Int) == 0) = false := by rw [beq_eq_false_iff_ne]; omega
    rcases fs_cases z hz with ⟨e, hf⟩ | ⟨e, hf⟩ | ⟨e, hf⟩ | ⟨e, hf⟩
    all_goals rw [hf] at HRD; clear hf
    · by_cases hnl : zs.length < 1
      · omega
      · have hg := get_of (w := w) (b := b) (off := off) (cap := cap) (N := 1) (L := zs.take 1) (by simp; omega) (by omega) (by omega) (hbyt.take 1) (by omega) (fun j hj => by
          have := HC.out j (by omega)
          rw [this]
          simp [hj])
        have HR2 : Hid (rd zs = if sz (val (zs.take 1)) = (1 : Int) then (val (zs.take 1), (1 : Int), 0) else (0, 0, 3)) := Lib.hid (by rw [HRD.out, if_neg hnl]; rfl)
        clear HRD HC
        generalize val (zs.take 1) = N at *
        have hs := size_any N w
        have hlen : (1 : Int) ≤ (zs.length : Int) := by omega
        by_cases hS : sz N = 1
        · have HR3 : Hid (rd zs = (N, 1, 0)) := Lib.hid (by rw [HR2.out, if_pos hS])
          rw [hS] at hs
          clear HR2 hS
          go_enter Tryd.func68, Tryd.ntmps68
          go_wp2_with (first | (go_at_call 70; refine hg.mono ?_; rintro e w' ⟨rfl, rfl⟩) | (go_at_call 37; refine hs.mono ?_; rintro e w' ⟨rfl, rfl⟩))
          go_ret3
          exact ⟨by rw [HR3.out]; rfl, rfl⟩
        · have HR3 : Hid (rd zs = (0, 0, 3)) := Lib.hid (by rw [HR2.out, if_neg hS])
          have hS1 : (sz N != 1) = true := by rw [bne_iff_ne]; exact hS
          have hS2 : (sz N == 1) = false := by rw [beq_eq_false_iff_ne]; exact hS
          generalize sz N = S at *
          clear HR2 hS
          go_enter Tryd.func68, Tryd.ntmps68
          go_wp2_with (first | (go_at_call 70; refine hg.mono ?_; rintro e w' ⟨rfl, rfl⟩) | (go_at_call 37; refine hs.mono ?_; rintro e w' ⟨rfl, rfl⟩))
          go_ret3
          exact ⟨by rw [HR3.out]; rfl, rfl⟩
    · by_cases hnl : zs.length < 2
      · have HR2 : Hid (rd zs = (0, 0, 2)) := Lib.hid (by rw [HRD.out, if_pos hnl])
        clear HRD
        go_enter Tryd.func68, Tryd.ntmps68
        go_wp2
        go_ret3
        exact ⟨by rw [HR2.out]; rfl, rfl⟩
      · have hg := get_of (w := w) (b := b) (off := off) (cap := cap) (N := 2) (L := zs.take 2) (by simp; omega) (by omega) (by omega) (hbyt.take 2) (by omega) (fun j hj => by
          have := HC.out j (by omega)
          rw [this]
          simp [hj])
        have HR2 : Hid (rd zs = if sz (val (zs.take 2)) = (2 : Int) then (val (zs.take 2), (2 : Int), 0) else (0, 0, 3)) := Lib.hid (by rw [HRD.out, if_neg hnl]; rfl)
        clear HRD HC
        generalize val (zs.take 2) = N at *
        have hs := size_any N w
        have hlen : (2 : Int) ≤ (zs.length : Int) := by omega
        by_cases hS : sz N = 2
        · have HR3 : Hid (rd zs = (N, 2, 0)) := Lib.hid (by rw [HR2.out, if_pos hS])
          rw [hS] at hs
          clear HR2 hS
          go_enter Tryd.func68, Tryd.ntmps68
          go_wp2_with (first | (go_at_call 70; refine hg.mono ?_; rintro e w' ⟨rfl, rfl⟩) | (go_at_call 37; refine hs.mono ?_; rintro e w' ⟨rfl, rfl⟩))
          go_ret3
          exact ⟨by rw [HR3.out]; rfl, rfl⟩
        · have HR3 : Hid (rd zs = (0, 0, 3)) := Lib.hid (by rw [HR2.out, if_neg hS])
          have hS1 : (sz N != 2) = true := by rw [bne_iff_ne]; exact hS
          have hS2 : (sz N == 2) = false := by rw [beq_eq_false_iff_ne]; exact hS
          generalize sz N = S at *
          clear HR2 hS
          go_enter Tryd.func68, Tryd.ntmps68
          go_wp2_with (first | (go_at_call 70; refine hg.mono ?_; rintro e w' ⟨rfl, rfl⟩) | (go_at_call 37; refine hs.mono ?_; rintro e w' ⟨rfl, rfl⟩))
          go_ret3
          exact ⟨by rw [HR3.out]; rfl, rfl⟩
    · by_cases hnl : zs.length < 4
      · have HR2 : Hid (rd zs = (0, 0, 2)) := Lib.hid (by rw [HRD.out, if_pos hnl])
        clear HRD
        go_enter Tryd.func68, Tryd.ntmps68
        go_wp2
        go_ret3
        exact ⟨by rw [HR2.out]; rfl, rfl⟩
      · have hg := get_of (w := w) (b := b) (off := off) (cap := cap) (N := 4) (L := zs.take 4) (by simp; omega) (by omega) (by omega) (hbyt.take 4) (by omega) (fun j hj => by
          have := HC.out j (by omega)
          rw [this]
          simp [hj])
        have HR2 : Hid (rd zs = if sz (val (zs.take 4)) = (4 : Int) then (val (zs.take 4), (4 : Int), 0) else (0, 0, 3)) := Lib.hid (by rw [HRD.out, if_neg hnl]; rfl)
        clear HRD HC
        generalize val (zs.take 4) = N at *
        have hs := size_any N w
        have hlen : (4 : Int) ≤ (zs.length : Int) := by omega
        by_cases hS : sz N = 4
        · have HR3 : Hid (rd zs = (N, 4, 0)) := Lib.hid (by rw [HR2.out, if_pos hS])
          rw [hS] at hs
          clear HR2 hS
          go_enter Tryd.func68, Tryd.ntmps68
          go_wp2_with (first | (go_at_call 70; refine hg.mono ?_; rintro e w' ⟨rfl, rfl⟩) | (go_at_call 37; refine hs.mono ?_; rintro e w' ⟨rfl, rfl⟩))
          go_ret3
          exact ⟨by rw [HR3.out]; rfl, rfl⟩
        · have HR3 : Hid (rd zs = (0, 0, 3)) := Lib.hid (by rw [HR2.out, if_neg hS])
          have hS1 : (sz N != 4) = true := by rw [bne_iff_ne]; exact hS
          have hS2 : (sz N == 4) = false := by rw [beq_eq_false_iff_ne]; exact hS
          generalize sz N = S at *
          clear HR2 hS
          go_enter Tryd.func68, Tryd.ntmps68
          go_wp2_with (first | (go_at_call 70; refine hg.mono ?_; rintro e w' ⟨rfl, rfl⟩) | (go_at_call 37; refine hs.mono ?_; rintro e w' ⟨rfl, rfl⟩))
          go_ret3
          exact ⟨by rw [HR3.out]; rfl, rfl⟩
    · by_cases hnl : zs.length < 8
      · have HR2 : Hid (rd zs = (0, 0, 2)) := Lib.hid (by rw [HRD.out, if_pos hnl])
        clear HRD
        go_enter Tryd.func68, Tryd.ntmps68
        go_wp2
        go_ret3
        exact ⟨by rw [HR2.out]; rfl, rfl⟩
      · have hg := get_of (w := w) (b := b) (off := off) (cap := cap) (N := 8) (L := zs.take 8) (by simp; omega) (by omega) (by omega) (hbyt.take 8) (by omega) (fun j hj => by
          have := HC.out j (by omega)
          rw [this]
          simp [hj])
        have HR2 : Hid (rd zs = if sz (val (zs.take 8)) = (8 : Int) then (val (zs.take 8), (8 : Int), 0) else (0, 0, 3)) := Lib.hid (by rw [HRD.out, if_neg hnl]; rfl)
        clear HRD HC
        generalize val (zs.take 8) = N at *
        have hs := size_any N w
        have hlen : (8 : Int) ≤ (zs.length : Int) := by omega
        by_cases hS : sz N = 8
        · have HR3 : Hid (rd zs = (N, 8, 0)) := Lib.hid (by rw [HR2.out, if_pos hS])
          rw [hS] at hs
          clear HR2 hS
          go_enter Tryd.func68, Tryd.ntmps68
          go_wp2_with (first | (go_at_call 70; refine hg.mono ?_; rintro e w' ⟨rfl, rfl⟩) | (go_at_call 37; refine hs.mono ?_; rintro e w' ⟨rfl, rfl⟩))
          go_ret3
          exact ⟨by rw [HR3.out]; rfl, rfl⟩
        · have HR3 : Hid (rd zs = (0, 0, 3)) := Lib.hid (by rw [HR2.out, if_neg hS])
          have hS1 : (sz N != 8) = true := by rw [bne_iff_ne]; exact hS
          have hS2 : (sz N == 8) = false := by rw [beq_eq_false_iff_ne]; exact hS
          generalize sz N = S at *
          clear HR2 hS
          go_enter Tryd.func68, Tryd.ntmps68
          go_wp2_with (first | (go_at_call 70; refine hg.mono ?_; rintro e w' ⟨rfl, rfl⟩) | (go_at_call 37; refine hs.mono ?_; rintro e w' ⟨rfl, rfl⟩))
          go_ret3
          exact ⟨by rw [HR3.out]; rfl, rfl⟩
#print axioms read_any
end Go.Proofs.YtgcgmgcgbnepeaaDoor
