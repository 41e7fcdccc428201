/- The document's answer Read is rd of the bytes; it writes nothing. -/
import Derived.Test.YtefcjggmlhoebaaDoorRead
namespace Go.Proofs.YtefcjggmlhoebaaDoor
open Go Go.RowKit

theorem val_one (zs : List Int) (z : Int) (r : List Int) (h : zs = z :: r) : val (zs.take 1) = z % 64 := by subst h; simp [val, vf]
theorem val_snoc (zs : List Int) (k : Nat) (h1 : 1 ≤ k) (h : k < zs.length) : val (zs.take (k + 1)) = 256 * val (zs.take k) + zs.getD k 0 := by
  cases zs with
  | nil => simp at h
  | cons z r =>
    obtain ⟨j, rfl⟩ : ∃ j, k = j + 1 := ⟨k - 1, by omega⟩
    simp only [List.length_cons] at h
    have := take_snoc r j (by omega)
    simp only [List.take_succ_cons, val] at this ⊢
    rw [this, vf_snoc]
    simp only [List.getD_cons_succ]
    omega
theorem val_bd (zs : List Int) (hz : Byt zs) (k : Nat) (hk : k ≤ 7) : 0 ≤ val (zs.take k) ∧ val (zs.take k) < 18014398509481984 := by
  cases zs with
  | nil => simp [val]
  | cons z r =>
    cases k with
    | zero => simp [val]
    | succ j =>
      have hb := vf_bd (z % 64) (by omega) (by omega) (r.take j) (fun x hx => hz x (by simp [List.mem_of_mem_take hx]))
      simp only [List.take_succ_cons, val]
      refine ⟨hb.1, ?_⟩
      have hl : (r.take j).length ≤ 6 := by simp; omega
      have h2 := pow_le6 _ hl
      omega

/-- Two to the k. -/
def p2 (k : Nat) : Nat := 2 ^ k

set_option maxRecDepth 20000 in
set_option maxHeartbeats 1600000 in
theorem refread_any {w : World} {v : Value} {zs : List Int} (h : Rd w v zs) :
    Calls Tryd.prog 47 #[v] w fun e w' => e = .returned (.tuple #[.int .i64 (rd zs).1, .int .i64 (rd zs).2.1, .int .i64 (rd zs).2.2]) ∧ w = w' := by
  have hbyt := h.byt
  rcases h.cases with ⟨rfl, ao, cap, rfl, hcap⟩ | ⟨b, off, cap, rfl, hpos, hlc, hcap, _, hcell⟩
  · clear h hbyt
    go_enter Tryd.func47, Tryd.ntmps47
    go_wp2
    go_ret3
    exact ⟨rfl, rfl⟩
  · clear h
    obtain ⟨z, r, hzr⟩ : ∃ z r, zs = z :: r := by cases zs with | nil => simp at hpos | cons z r => exact ⟨z, r, rfl⟩
    have hz := hbyt z (by simp [hzr])
    have hc0 : w.cell? ⟨b, off, none⟩ = some (.int .u8 z) := by have := hcell 0 hpos; simpa [hzr] using this
    have HRD : Hid (rd zs = if zs.length < fs z then (0, 0, 2) else if sz (val (zs.take (fs z))) = (fs z : Int) then (val (zs.take (fs z)), (fs z : Int), 0) else (0, 0, 3)) := Lib.hid (by rw [hzr]; rfl)
    have HV1 : Hid (val (zs.take 1) = z % 64) := Lib.hid (val_one zs z r hzr)
    have HC := Lib.hid hcell
    clear hcell hzr
    have HNE : ((zs.length : Int) == 0) = false := by rw [beq_eq_false_iff_ne]; omega
    obtain ⟨Q, hQ⟩ : ∃ Q : Nat, z / 64 = (Q : Int) := ⟨(z / 64).toNat, by omega⟩
    have hQ3 : Q ≤ 3 := by omega
    have HF : Hid (fs z = p2 Q) := Lib.hid (by simp [fs, hQ, p2])
    obtain ⟨hz0, hz1⟩ := hz
    go_enter Tryd.func47, Tryd.ntmps47
    go_wp2
    go_loop [5, 6] (fun s i => ∃ k : Nat, k ≤ Q ∧ i = .int .i64 k ∧ s = .int .i64 (p2 k : Nat)) (fun _ i => Q - (intOf i).toNat)
    case atStart => exact ⟨0, Nat.zero_le _, rfl, rfl⟩
    case round =>
      obtain ⟨k, hk, rfl, rfl⟩ := hrel
      by_cases hlt : k < Q
      · have hlt' : (k : Int) < (Q : Int) := by omega
        have hp : p2 k ≤ 4 := by
          have : k = 0 ∨ k = 1 ∨ k = 2 := by omega
          rcases this with rfl | rfl | rfl <;> decide
        have hp2 : p2 (k + 1) = p2 k * 2 := by simp [p2, Nat.pow_succ]
        have HP := Lib.hid hp2
        clear hp2
        go_wp2
        go_round
        case rel => exact ⟨k + 1, by omega, by go_num, by rw [HP.out]; go_num⟩
        case measure => simp [intOf]; omega
      · obtain rfl : Q = k := by omega
        clear hlt hk
        have hp8 : p2 Q ≤ 8 := by
          have : Q = 0 ∨ Q = 1 ∨ Q = 2 ∨ Q = 3 := by omega
          rcases this with rfl | rfl | rfl | rfl <;> decide
        have hp1 : 1 ≤ p2 Q := by
          have : Q = 0 ∨ Q = 1 ∨ Q = 2 ∨ Q = 3 := by omega
          rcases this with rfl | rfl | rfl | rfl <;> decide
        have hF := HF.out
        rw [hF] at HRD
        clear HF hF
        generalize p2 Q = s at *
        have hnQ : ¬ (Q : Int) < (Q : Int) := by omega
        by_cases hns : zs.length < s
        · have HR2 : Hid (rd zs = (0, 0, 2)) := Lib.hid (by rw [HRD.out, if_pos hns])
          have hns' : (zs.length : Int) < (s : Int) := by omega
          clear HRD
          go_wp2
          go_ret3
          exact ⟨by rw [HR2.out]; rfl, rfl⟩
        · have hns' : ¬ (zs.length : Int) < (s : Int) := by omega
          have HR2 : Hid (rd zs = if sz (val (zs.take s)) = (s : Int) then (val (zs.take s), (s : Int), 0) else (0, 0, 3)) := Lib.hid (by rw [HRD.out, if_neg hns])
          clear HRD
          go_wp2
          go_loop [7, 8] (fun a i => ∃ k : Nat, 1 ≤ k ∧ k ≤ s ∧ i = .int .i64 k ∧ a = .int .i64 (val (zs.take k))) (fun _ i => s - (intOf i).toNat)
          case atStart => exact ⟨1, Nat.le_refl _, hp1, rfl, by rw [HV1.out]⟩
          case round =>
            obtain ⟨k, hk1, hk, rfl, rfl⟩ := hrel
            by_cases hlt : k < s
            · have hlt' : (k : Int) < (s : Int) := by omega
              have hcx := HC.out k (by omega)
              have hx := Byt.get hbyt k
              obtain ⟨hA0, hA1⟩ := val_bd zs hbyt k (by omega)
              have HS := Lib.hid (val_snoc zs k hk1 (by omega))
              generalize val (zs.take k) = A at *
              generalize zs.getD k 0 = X at *
              obtain ⟨hx0, hx1⟩ := hx
              go_wp2
              go_round
              case rel => exact ⟨k + 1, by omega, by omega, by go_num, by rw [HS.out]⟩
              case measure => simp [intOf]; omega
            · obtain rfl : s = k := by omega
              clear hlt hk1
              have hnk : ¬ (s : Int) < (s : Int) := by omega
              generalize val (zs.take s) = N at *
              have hs := refsize_any N w
              by_cases hS : sz N = s
              · have HR3 : Hid (rd zs = (N, (s : Int), 0)) := Lib.hid (by rw [HR2.out, if_pos hS])
                rw [hS] at hs
                have hss : ((s : Int) != (s : Int)) = false := by simp
                clear HR2 hS
                go_wp2_with (go_at_call 24; refine hs.mono ?_; rintro e w' ⟨rfl, rfl⟩)
                go_ret3
                exact ⟨by rw [HR3.out]; rfl, rfl⟩
              · have HR3 : Hid (rd zs = (0, 0, 3)) := Lib.hid (by rw [HR2.out, if_neg hS])
                have hS1 : (sz N != (s : Int)) = true := by rw [bne_iff_ne]; exact hS
                have hS2 : (sz N == (s : Int)) = false := by rw [beq_eq_false_iff_ne]; exact hS
                generalize sz N = S at *
                clear HR2 hS
                go_wp2_with (go_at_call 24; refine hs.mono ?_; rintro e w' ⟨rfl, rfl⟩)
                go_ret3
                exact ⟨by rw [HR3.out]; rfl, rfl⟩
#print axioms refread_any
end Go.Proofs.YtefcjggmlhoebaaDoor
