/- The function get tells the number that up to eight bytes are, without the first one's two highest bits. -/
import Derived.Test.YtgcgmgcgbnepeaaDoorKit
import Derived.Test.YtgcgmgcgbnepeaaDoorSz
import Derived.Test.YtgcgmgcgbnepeaaDoorChecked
import Derived.Outline
import Derived.IntWalk
namespace Go.Proofs.YtgcgmgcgbnepeaaDoor
open Go Go.RowKit

/-- The number that bytes make behind a number. -/
def vf (a : Int) (zs : List Int) : Int := zs.foldl (fun a x => a * 256 + x) a
theorem vf_snoc (a : Int) (zs : List Int) (x : Int) : vf a (zs ++ [x]) = vf a zs * 256 + x := by simp [vf]
theorem vf_bd (a : Int) (ha : 0 ≤ a) (ha' : a < 64) (zs : List Int) (hz : Byt zs) : 0 ≤ vf a zs ∧ vf a zs < 64 * 256 ^ zs.length := by
  have : ∀ (zs : List Int), Byt zs → ∀ (a m : Int), 0 ≤ a → a < m → 0 ≤ vf a zs ∧ vf a zs < m * 256 ^ zs.length := by
    intro zs
    induction zs with
    | nil => intro _ a m h1 h2; simp [vf]; omega
    | cons x r ih =>
      intro hz a m h1 h2
      have hx := hz x (by simp)
      have := ih (fun z h => hz z (by simp [h])) (a * 256 + x) (m * 256) (by omega) (by omega)
      have e : m * 256 ^ (x :: r).length = m * 256 * 256 ^ r.length := by rw [List.length_cons, Int.pow_succ, Int.mul_assoc, Int.mul_comm 256 (256 ^ r.length)]
      rw [e]
      exact this
  exact this zs hz a 64 ha ha'
/-- The number that bytes are. -/
def val : List Int → Int
  | [] => 0
  | x :: r => vf (x % 64) r

theorem wraps_i64 (n : Int) (h0 : 0 ≤ n) (h1 : n < 2 ^ 63) : IntKind.i64.wrap n = n := IntWalk.i64_in n ⟨by omega, by omega⟩
theorem or_i64 (a x : Int) (ha : 0 ≤ a) (ha' : a * 256 < 9223372036854775808) (hx : 0 ≤ x ∧ x ≤ 255) : bits BinOp.or IntKind.i64 (a * 256) x = a * 256 + x :=
  bits_join .i64 63 (by decide) wraps_i64 8 (a * 256) x (by omega) (by omega) (by omega) hx.1 (by omega) (by omega)

theorem take_snoc (l : List Int) (k : Nat) (h : k < l.length) : l.take (k + 1) = l.take k ++ [l.getD k 0] := by
  rw [List.take_succ_eq_append_getElem h]; simp [h]

theorem pow_le6 (k : Nat) (h : k ≤ 6) : (256 : Int) ^ k ≤ 281474976710656 := by
  have : k = 0 ∨ k = 1 ∨ k = 2 ∨ k = 3 ∨ k = 4 ∨ k = 5 ∨ k = 6 := by omega
  rcases this with rfl | rfl | rfl | rfl | rfl | rfl | rfl <;> decide

set_option maxRecDepth 20000 in
set_option maxHeartbeats 400000 in
theorem get_any {w : World} {b off cap : Nat} {z : Int} {r : List Int} (hz : Byt (z :: r)) (hl : r.length ≤ 7) (hcap : r.length + 1 ≤ cap)
    (hcell : ∀ j, j < r.length + 1 → w.cell? ⟨b, off + j, none⟩ = some (.int .u8 ((z :: r).getD j 0))) :
    Calls Tryd.prog 70 #[.slice (some ⟨b, off, none⟩) (r.length + 1) cap] w fun e w' => e = .returned (.int .i64 (val (z :: r))) ∧ w = w' := by
  have hz0 := hz z (by simp)
  have hzr : Byt r := fun x h => hz x (by simp [h])
  have hc0 : w.cell? ⟨b, off, none⟩ = some (.int .u8 z) := by simpa using hcell 0 (by omega)
  have e0 : bits BinOp.and IntKind.u8 z 63 = z % 64 := u8_and63 z (by omega) (by omega)
  have hq0 : 0 ≤ z % 64 := by omega
  have hq1 : z % 64 < 64 := by omega
  have HV : Hid (val (z :: r) = vf (z % 64) r) := Lib.hid rfl
  have hcr : ∀ j, j < r.length → w.cell? ⟨b, off + 1 + j, none⟩ = some (.int .u8 (r.getD j 0)) := fun j hj => by
    have := hcell (j + 1) (by omega)
    rw [show off + 1 + j = off + (j + 1) from by omega]; simpa using this
  obtain ⟨n, hn⟩ : ∃ n, n = r.length := ⟨_, rfl⟩
  rw [← hn] at hl hcap hcell hcr ⊢
  have HN := Lib.hid hn
  have HR := Lib.hid hcr
  have HC := Lib.hid hcap
  clear hn hcell hcr hz
  by_cases h0 : n = 0
  · subst h0
    have hr : r = [] := List.eq_nil_of_length_eq_zero HN.out.symm
    go_enter Tryd.func70, Tryd.ntmps70
    go_wp2
    all_goals
      refine wp_loop_rounds 1 ?_
      rw [rounds_succ]
      go_wp2
      go_ret
      exact ⟨ret_int (by rw [HV.out, hr]; rfl), rfl⟩
  · have hc1 : ¬ cap = 1 := by omega
    go_enter Tryd.func70, Tryd.ntmps70
    go_wp2
    go_loop [3, 14] (fun a i => ∃ k : Nat, k ≤ n ∧ i = .int .i64 k ∧ a = .int .i64 (vf (z % 64) (r.take k))) (fun _ i => n - (intOf i).toNat)
    case atStart => exact ⟨0, Nat.zero_le _, rfl, by simp [vf]⟩
    case round =>
      obtain ⟨k, hk, rfl, rfl⟩ := hrel
      by_cases hlt : k < n
      · have hcx := HR.out k hlt
        have hkr : k < r.length := by have := HN.out; omega
        have hx := Byt.get hzr k
        have hbd := vf_bd (z % 64) hq0 hq1 (r.take k) (hzr.take k)
        have hst := take_snoc r k hkr
        have hbd2 : vf (z % 64) (r.take k) < 18014398509481984 := by
          have e : (r.take k).length = k := by simp; omega
          have h1 := hbd.2
          rw [e] at h1
          have h2 := pow_le6 k (by omega)
          omega
        have hbd1 := hbd.1
        have HS : Hid (vf (z % 64) (r.take (k + 1)) = vf (z % 64) (r.take k) * 256 + r.getD k 0) := Lib.hid (by rw [hst, vf_snoc])
        clear hst hbd
        generalize vf (z % 64) (r.take k) = A at *
        have e1 : IntKind.i64.wrap (A * 256) = A * 256 := wraps_i64 _ (by omega) (by omega)
        generalize r.getD k 0 = X at *
        have e2 : bits BinOp.or IntKind.i64 (A * 256) X = A * 256 + X := or_i64 A X hbd1 (by omega) hx
        go_wp2
        go_round
        case rel => exact ⟨k + 1, by omega, by go_num, by rw [HS.out]⟩
        case measure => simp [intOf]; omega
      · go_wp2
        go_ret
        have e : r.take k = r := List.take_of_length_le (by have := HN.out; omega)
        exact ⟨ret_int (by rw [HV.out, e]), rfl⟩
theorem get_of {w : World} {b off cap N : Nat} {L : List Int} (hN : L.length = N) (h1 : 1 ≤ N) (h8 : N ≤ 8) (hz : Byt L) (hcap : N ≤ cap)
    (hcell : ∀ j, j < N → w.cell? ⟨b, off + j, none⟩ = some (.int .u8 (L.getD j 0))) :
    Calls Tryd.prog 70 #[.slice (some ⟨b, off, none⟩) N cap] w fun e w' => e = .returned (.int .i64 (val L)) ∧ w = w' := by
  cases L with
  | nil => simp at hN; omega
  | cons z r =>
    simp at hN
    subst hN
    exact get_any hz (by omega) hcap hcell
#print axioms get_of
end Go.Proofs.YtgcgmgcgbnepeaaDoor
