/- The function Read answers rd of the bytes: the number, its size, an error's number; it writes nothing. -/
import Derived.Test.YtepkhhpdpmhfaaaDoorChecked
import Derived.WalkKit
import Derived.WalkLawsBesides
import Derived.WalkSpells
import Derived.Outline
import Derived.Lib.Hide
import Derived.Test.YtepkhhpdpmhfaaaDoorZKit
import Derived.IntWalk
namespace Go.Proofs.YtepkhhpdpmhfaaaDoor
open Go.RowKit

/-- A number's size. -/
def sz (n : Int) : Int := if n < 0 ∨ 4611686018427387904 ≤ n then 0 else if n < 64 then 1 else if n < 16384 then 2 else if n < 1073741824 then 4 else 8

theorem ret_int {k : IntKind} {a b : Int} (h : a = b) : Ending.returned (.int k a) = .returned (.int k b) := by rw [h]

theorem size_any (n : Int) (w : World) : Calls Tryd.prog 17 #[.int .i64 n] w fun e w' => e = .returned (.int .i64 (sz n)) ∧ w = w' := by
  have h : n < 0 ∨ 4611686018427387904 ≤ n ∨ (0 ≤ n ∧ n < 64) ∨ (64 ≤ n ∧ n < 16384) ∨ (16384 ≤ n ∧ n < 1073741824) ∨ (1073741824 ≤ n ∧ n < 4611686018427387904) := by omega
  rcases h with h | h | ⟨h, h'⟩ | ⟨h, h'⟩ | ⟨h, h'⟩ | ⟨h, h'⟩
  all_goals
    go_enter Tryd.func17, Tryd.ntmps17
    go_wp2
    go_ret
    refine ⟨ret_int ?_, rfl⟩
    unfold sz
    split <;> (try split) <;> (try split) <;> (try split) <;> omega

end Go.Proofs.YtepkhhpdpmhfaaaDoor
namespace Go.Proofs.YtepkhhpdpmhfaaaDoor
open Go Go.RowKit

/-- The number that bytes make behind a number. -/
def vf (a : Int) (zs : List Int) : Int := zs.foldl (fun a x => a * 256 + x) a
theorem vf_snoc (a : Int) (zs : List Int) (x : Int) : vf a (zs ++ [x]) = vf a zs * 256 + x := by simp [vf]
theorem vf_bd (a : Int) (ha : 0 ≤ a) (ha' : a < 64) (zs : List Int) (hz : Byt zs) : 0 ≤ vf a zs ∧ vf a zs < 64 * 256 ^ zs.length := by
  have : ∀ (zs : List Int), Byt zs → ∀ (a m : Int), 0 ≤ a → a < m → 0 ≤ vf a zs ∧ vf a zs < m * 256 ^ zs.length := by
    intro zs
    induction zs with
    | nil => intro _ a m h1 h2; simp [vf]; omega
    | cons x r ih =>
      intro hz a m h1 h2
      have hx := hz x (by simp)
      have := ih (fun z h => hz z (by simp [h])) (a * 256 + x) (m * 256) (by omega) (by omega)
      have e : m * 256 ^ (x :: r).length = m * 256 * 256 ^ r.length := by rw [List.length_cons, Int.pow_succ, Int.mul_assoc, Int.mul_comm 256 (256 ^ r.length)]
      rw [e]
      exact this
  exact this zs hz a 64 ha ha'
/-- The number that bytes are. -/
def val : List Int → Int
  | [] => 0
  | x :: r => vf (x % 64) r

theorem wraps_i64 (n : Int) (h0 : 0 ≤ n) (h1 : n < 2 ^ 63) : IntKind.i64.wrap n = n := IntWalk.i64_in n ⟨by omega, by omega⟩
theorem or_i64 (a x : Int) (ha : 0 ≤ a) (ha' : a * 256 < 9223372036854775808) (hx : 0 ≤ x ∧ x ≤ 255) : bits BinOp.or IntKind.i64 (a * 256) x = a * 256 + x :=
  bits_join .i64 63 (by decide) wraps_i64 8 (a * 256) x (by omega) (by omega) (by omega) hx.1 (by omega) (by omega)

theorem take_snoc (l : List Int) (k : Nat) (h : k < l.length) : l.take (k + 1) = l.take k ++ [l.getD k 0] := by
  rw [List.take_succ_eq_append_getElem h]; simp [h]

theorem pow_le6 (k : Nat) (h : k ≤ 6) : (256 : Int) ^ k ≤ 281474976710656 := by
  have : k = 0 ∨ k = 1 ∨ k = 2 ∨ k = 3 ∨ k = 4 ∨ k = 5 ∨ k = 6 := by omega
  rcases this with rfl | rfl | rfl | rfl | rfl | rfl | rfl <;> decide

set_option maxRecDepth 20000 in
set_option maxHeartbeats 400000 in
theorem get_any {w : World} {b off cap : Nat} {z : Int} {r : List Int} (hz : Byt (z :: r)) (hl : r.length ≤ 7) (hcap : r.length + 1 ≤ cap)
    (hcell : ∀ j, j < r.length + 1 → w.cell? ⟨b, off + j, none⟩ = some (.int .u8 ((z :: r).getD j 0))) :
    Calls Tryd.prog 49 #[.slice (some ⟨b, off, none⟩) (r.length + 1) cap] w fun e w' => e = .returned (.int .i64 (val (z :: r))) ∧ w = w' := by
  have hz0 := hz z (by simp)
  have hzr : Byt r := fun x h => hz x (by simp [h])
  have hc0 : w.cell? ⟨b, off, none⟩ = some (.int .u8 z) := by simpa using hcell 0 (by omega)
  have e0 : bits BinOp.and IntKind.u8 z 63 = z % 64 := u8_and63 z (by omega) (by omega)
  have hq0 : 0 ≤ z % 64 := by omega
  have hq1 : z % 64 < 64 := by omega
  have HV : Hid (val (z :: r) = vf (z % 64) r) := Lib.hid rfl
  have hcr : ∀ j, j < r.length → w.cell? ⟨b, off + 1 + j, none⟩ = some (.int .u8 (r.getD j 0)) := fun j hj => by
    have := hcell (j + 1) (by omega)
    rw [show off + 1 + j = off + (j + 1) from by omega]; simpa using this
  obtain ⟨n, hn⟩ : ∃ n, n = r.length := ⟨_, rfl⟩
  rw [← hn] at hl hcap hcell hcr ⊢
  have HN := Lib.hid hn
  have HR := Lib.hid hcr
  have HC := Lib.hid hcap
  clear hn hcell hcr hz
  by_cases h0 : n = 0
  · subst h0
    have hr : r = [] := List.eq_nil_of_length_eq_zero HN.out.symm
    go_enter Tryd.func49, Tryd.ntmps49
    go_wp2
    all_goals
      refine wp_loop_rounds 1 ?_
      rw [rounds_succ]
      go_wp2
      go_ret
      exact ⟨ret_int (by rw [HV.out, hr]; rfl), rfl⟩
  · have hc1 : ¬ cap = 1 := by omega
    go_enter Tryd.func49, Tryd.ntmps49
    go_wp2
    go_loop [3, 14] (fun a i => ∃ k : Nat, k ≤ n ∧ i = .int .i64 k ∧ a = .int .i64 (vf (z % 64) (r.take k))) (fun _ i => n - (intOf i).toNat)
    case atStart => exact ⟨0, Nat.zero_le _, rfl, by simp [vf]⟩
    case round =>
      obtain ⟨k, hk, rfl, rfl⟩ := hrel
      by_cases hlt : k < n
      · have hcx := HR.out k hlt
        have hkr : k < r.length := by have := HN.out; omega
        have hx := Byt.get hzr k
        have hbd := vf_bd (z % 64) hq0 hq1 (r.take k) (hzr.take k)
        have hst := take_snoc r k hkr
        have hbd2 : vf (z % 64) (r.take k) < 18014398509481984 := by
          have e : (r.take k).length = k := by simp; omega
          have h1 := hbd.2
          rw [e] at h1
          have h2 := pow_le6 k (by omega)
          omega
        have hbd1 := hbd.1
        have HS : Hid (vf (z % 64) (r.take (k + 1)) = vf (z % 64) (r.take k) * 256 + r.getD k 0) := Lib.hid (by rw [hst, vf_snoc])
        clear hst hbd
        generalize vf (z % 64) (r.take k) = A at *
        have e1 : IntKind.i64.wrap (A * 256) = A * 256 := wraps_i64 _ (by omega) (by omega)
        generalize r.getD k 0 = X at *
        have e2 : bits BinOp.or IntKind.i64 (A * 256) X = A * 256 + X := or_i64 A X hbd1 (by omega) hx
        go_wp2
        go_round
        case rel => exact ⟨k + 1, by omega, by go_num, by rw [HS.out]⟩
        case measure => simp [intOf]; omega
      · go_wp2
        go_ret
        have e : r.take k = r := List.take_of_length_le (by have := HN.out; omega)
        exact ⟨ret_int (by rw [HV.out, e]), rfl⟩
theorem get_of {w : World} {b off cap N : Nat} {L : List Int} (hN : L.length = N) (h1 : 1 ≤ N) (h8 : N ≤ 8) (hz : Byt L) (hcap : N ≤ cap)
    (hcell : ∀ j, j < N → w.cell? ⟨b, off + j, none⟩ = some (.int .u8 (L.getD j 0))) :
    Calls Tryd.prog 49 #[.slice (some ⟨b, off, none⟩) N cap] w fun e w' => e = .returned (.int .i64 (val L)) ∧ w = w' := by
  cases L with
  | nil => simp at hN; omega
  | cons z r =>
    simp at hN
    subst hN
    exact get_any hz (by omega) hcap hcell
#print axioms get_of
end Go.Proofs.YtepkhhpdpmhfaaaDoor
namespace Go.Proofs.YtepkhhpdpmhfaaaDoor
open Go Go.RowKit

/-- The size that a first byte tells. -/
def fs (z : Int) : Nat := 2 ^ (z / 64).toNat
/-- What bytes begin with: the number, its size, an error's number. -/
def rd (zs : List Int) : Int × Int × Int :=
  match zs with
  | [] => (0, 0, 2)
  | z :: r => if (z :: r).length < fs z then (0, 0, 2) else if sz (val ((z :: r).take (fs z))) = (fs z : Int) then (val ((z :: r).take (fs z)), fs z, 0) else (0, 0, 3)

theorem fs_cases (z : Int) (h : 0 ≤ z ∧ z ≤ 255) : (z / 64 = 0 ∧ fs z = 1) ∨ (z / 64 = 1 ∧ fs z = 2) ∨ (z / 64 = 2 ∧ fs z = 4) ∨ (z / 64 = 3 ∧ fs z = 8) := by
  have : z / 64 = 0 ∨ z / 64 = 1 ∨ z / 64 = 2 ∨ z / 64 = 3 := by omega
  rcases this with e | e | e | e <;> simp [fs, e]

set_option maxRecDepth 20000 in
set_option maxHeartbeats 800000 in
theorem read_any {w : World} {v : Value} {zs : List Int} (h : Rd w v zs) :
    Calls Tryd.prog 36 #[v] w fun e w' => e = .returned (.tuple #[.int .i64 (rd zs).1, .int .i64 (rd zs).2.1, .int .i64 (rd zs).2.2]) ∧ w = w' := by
  have hbyt := h.byt
  rcases h.cases with ⟨rfl, ao, cap, rfl, hcap⟩ | ⟨b, off, cap, rfl, hpos, hlc, hcap, _, hcell⟩
  · clear h hbyt
    go_enter Tryd.func36, Tryd.ntmps36
    go_wp2
    go_ret3
    exact ⟨rfl, rfl⟩
  · clear h
    obtain ⟨z, r, hzr⟩ : ∃ z r, zs = z :: r := by cases zs with | nil => simp at hpos | cons z r => exact ⟨z, r, rfl⟩
    have hz := hbyt z (by simp [hzr])
    have hc0 : w.cell? ⟨b, off, none⟩ = some (.int .u8 z) := by have := hcell 0 hpos; simpa [hzr] using this
    have HRD : Hid (rd zs = if zs.length < fs z then (0, 0, 2) else if sz (val (zs.take (fs z))) = (fs z : Int) then (val (zs.take (fs z)), (fs z : Int), 0) else (0, 0, 3)) := Lib.hid (by rw [hzr]; rfl)
    have HC := Lib.hid hcell
    clear hcell hzr
    have HNE : ((zs.length : Int) == 0) = false := by rw [beq_eq_false_iff_ne]; omega
    rcases fs_cases z hz with ⟨e, hf⟩ | ⟨e, hf⟩ | ⟨e, hf⟩ | ⟨e, hf⟩
    all_goals rw [hf] at HRD; clear hf
    · by_cases hnl : zs.length < 1
      · omega
      · have hg := get_of (w := w) (b := b) (off := off) (cap := cap) (N := 1) (L := zs.take 1) (by simp; omega) (by omega) (by omega) (hbyt.take 1) (by omega) (fun j hj => by
          have := HC.out j (by omega)
          rw [this]
          simp [hj])
        have HR2 : Hid (rd zs = if sz (val (zs.take 1)) = (1 : Int) then (val (zs.take 1), (1 : Int), 0) else (0, 0, 3)) := Lib.hid (by rw [HRD.out, if_neg hnl]; rfl)
        clear HRD HC
        generalize val (zs.take 1) = N at *
        have hs := size_any N w
        have hlen : (1 : Int) ≤ (zs.length : Int) := by omega
        by_cases hS : sz N = 1
        · have HR3 : Hid (rd zs = (N, 1, 0)) := Lib.hid (by rw [HR2.out, if_pos hS])
          rw [hS] at hs
          clear HR2 hS
          go_enter Tryd.func36, Tryd.ntmps36
          go_wp2_with (first | (go_at_call 49; refine hg.mono ?_; rintro e w' ⟨rfl, rfl⟩) | (go_at_call 17; refine hs.mono ?_; rintro e w' ⟨rfl, rfl⟩))
          go_ret3
          exact ⟨by rw [HR3.out]; rfl, rfl⟩
        · have HR3 : Hid (rd zs = (0, 0, 3)) := Lib.hid (by rw [HR2.out, if_neg hS])
          have hS1 : (sz N != 1) = true := by rw [bne_iff_ne]; exact hS
          have hS2 : (sz N == 1) = false := by rw [beq_eq_false_iff_ne]; exact hS
          generalize sz N = S at *
          clear HR2 hS
          go_enter Tryd.func36, Tryd.ntmps36
          go_wp2_with (first | (go_at_call 49; refine hg.mono ?_; rintro e w' ⟨rfl, rfl⟩) | (go_at_call 17; refine hs.mono ?_; rintro e w' ⟨rfl, rfl⟩))
          go_ret3
          exact ⟨by rw [HR3.out]; rfl, rfl⟩
    · by_cases hnl : zs.length < 2
      · have HR2 : Hid (rd zs = (0, 0, 2)) := Lib.hid (by rw [HRD.out, if_pos hnl])
        clear HRD
        go_enter Tryd.func36, Tryd.ntmps36
        go_wp2
        go_ret3
        exact ⟨by rw [HR2.out]; rfl, rfl⟩
      · have hg := get_of (w := w) (b := b) (off := off) (cap := cap) (N := 2) (L := zs.take 2) (by simp; omega) (by omega) (by omega) (hbyt.take 2) (by omega) (fun j hj => by
          have := HC.out j (by omega)
          rw [this]
          simp [hj])
        have HR2 : Hid (rd zs = if sz (val (zs.take 2)) = (2 : Int) then (val (zs.take 2), (2 : Int), 0) else (0, 0, 3)) := Lib.hid (by rw [HRD.out, if_neg hnl]; rfl)
        clear HRD HC
        generalize val (zs.take 2) = N at *
        have hs := size_any N w
        have hlen : (2 : Int) ≤ (zs.length : Int) := by omega
        by_cases hS : sz N = 2
        · have HR3 : Hid (rd zs = (N, 2, 0)) := Lib.hid (by rw [HR2.out, if_pos hS])
          rw [hS] at hs
          clear HR2 hS
          go_enter Tryd.func36, Tryd.ntmps36
          go_wp2_with (first | (go_at_call 49; refine hg.mono ?_; rintro e w' ⟨rfl, rfl⟩) | (go_at_call 17; refine hs.mono ?_; rintro e w' ⟨rfl, rfl⟩))
          go_ret3
          exact ⟨by rw [HR3.out]; rfl, rfl⟩
        · have HR3 : Hid (rd zs = (0, 0, 3)) := Lib.hid (by rw [HR2.out, if_neg hS])
          have hS1 : (sz N != 2) = true := by rw [bne_iff_ne]; exact hS
          have hS2 : (sz N == 2) = false := by rw [beq_eq_false_iff_ne]; exact hS
          generalize sz N = S at *
          clear HR2 hS
          go_enter Tryd.func36, Tryd.ntmps36
          go_wp2_with (first | (go_at_call 49; refine hg.mono ?_; rintro e w' ⟨rfl, rfl⟩) | (go_at_call 17; refine hs.mono ?_; rintro e w' ⟨rfl, rfl⟩))
          go_ret3
          exact ⟨by rw [HR3.out]; rfl, rfl⟩
    · by_cases hnl : zs.length < 4
      · have HR2 : Hid (rd zs = (0, 0, 2)) := Lib.hid (by rw [HRD.out, if_pos hnl])
        clear HRD
        go_enter Tryd.func36, Tryd.ntmps36
        go_wp2
        go_ret3
        exact ⟨by rw [HR2.out]; rfl, rfl⟩
      · have hg := get_of (w := w) (b := b) (off := off) (cap := cap) (N := 4) (L := zs.take 4) (by simp; omega) (by omega) (by omega) (hbyt.take 4) (by omega) (fun j hj => by
          have := HC.out j (by omega)
          rw [this]
          simp [hj])
        have HR2 : Hid (rd zs = if sz (val (zs.take 4)) = (4 : Int) then (val (zs.take 4), (4 : Int), 0) else (0, 0, 3)) := Lib.hid (by rw [HRD.out, if_neg hnl]; rfl)
        clear HRD HC
        generalize val (zs.take 4) = N at *
        have hs := size_any N w
        have hlen : (4 : Int) ≤ (zs.length : Int) := by omega
        by_cases hS : sz N = 4
        · have HR3 : Hid (rd zs = (N, 4, 0)) := Lib.hid (by rw [HR2.out, if_pos hS])
          rw [hS] at hs
          clear HR2 hS
          go_enter Tryd.func36, Tryd.ntmps36
          go_wp2_with (first | (go_at_call 49; refine hg.mono ?_; rintro e w' ⟨rfl, rfl⟩) | (go_at_call 17; refine hs.mono ?_; rintro e w' ⟨rfl, rfl⟩))
          go_ret3
          exact ⟨by rw [HR3.out]; rfl, rfl⟩
        · have HR3 : Hid (rd zs = (0, 0, 3)) := Lib.hid (by rw [HR2.out, if_neg hS])
          have hS1 : (sz N != 4) = true := by rw [bne_iff_ne]; exact hS
          have hS2 : (sz N == 4) = false := by rw [beq_eq_false_iff_ne]; exact hS
          generalize sz N = S at *
          clear HR2 hS
          go_enter Tryd.func36, Tryd.ntmps36
          go_wp2_with (first | (go_at_call 49; refine hg.mono ?_; rintro e w' ⟨rfl, rfl⟩) | (go_at_call 17; refine hs.mono ?_; rintro e w' ⟨rfl, rfl⟩))
          go_ret3
          exact ⟨by rw [HR3.out]; rfl, rfl⟩
    · by_cases hnl : zs.length < 8
      · have HR2 : Hid (rd zs = (0, 0, 2)) := Lib.hid (by rw [HRD.out, if_pos hnl])
        clear HRD
        go_enter Tryd.func36, Tryd.ntmps36
        go_wp2
        go_ret3
        exact ⟨by rw [HR2.out]; rfl, rfl⟩
      · have hg := get_of (w := w) (b := b) (off := off) (cap := cap) (N := 8) (L := zs.take 8) (by simp; omega) (by omega) (by omega) (hbyt.take 8) (by omega) (fun j hj => by
          have := HC.out j (by omega)
          rw [this]
          simp [hj])
        have HR2 : Hid (rd zs = if sz (val (zs.take 8)) = (8 : Int) then (val (zs.take 8), (8 : Int), 0) else (0, 0, 3)) := Lib.hid (by rw [HRD.out, if_neg hnl]; rfl)
        clear HRD HC
        generalize val (zs.take 8) = N at *
        have hs := size_any N w
        have hlen : (8 : Int) ≤ (zs.length : Int) := by omega
        by_cases hS : sz N = 8
        · have HR3 : Hid (rd zs = (N, 8, 0)) := Lib.hid (by rw [HR2.out, if_pos hS])
          rw [hS] at hs
          clear HR2 hS
          go_enter Tryd.func36, Tryd.ntmps36
          go_wp2_with (first | (go_at_call 49; refine hg.mono ?_; rintro e w' ⟨rfl, rfl⟩) | (go_at_call 17; refine hs.mono ?_; rintro e w' ⟨rfl, rfl⟩))
          go_ret3
          exact ⟨by rw [HR3.out]; rfl, rfl⟩
        · have HR3 : Hid (rd zs = (0, 0, 3)) := Lib.hid (by rw [HR2.out, if_neg hS])
          have hS1 : (sz N != 8) = true := by rw [bne_iff_ne]; exact hS
          have hS2 : (sz N == 8) = false := by rw [beq_eq_false_iff_ne]; exact hS
          generalize sz N = S at *
          clear HR2 hS
          go_enter Tryd.func36, Tryd.ntmps36
          go_wp2_with (first | (go_at_call 49; refine hg.mono ?_; rintro e w' ⟨rfl, rfl⟩) | (go_at_call 17; refine hs.mono ?_; rintro e w' ⟨rfl, rfl⟩))
          go_ret3
          exact ⟨by rw [HR3.out]; rfl, rfl⟩
#print axioms read_any
end Go.Proofs.YtepkhhpdpmhfaaaDoor
