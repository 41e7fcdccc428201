/- IdealBytes' walk: whatever the two numbers and the bytes: both sides tell the same. -/
import Derived.Test.YthgegjdmmjjffaaIdWrap
namespace Go.Proofs.Ythgegjdmmjjffaa
open Go Go.RowKit

set_option maxRecDepth 20000 in
set_option maxHeartbeats 800000 in
theorem iawake_any (w : World) : Calls Try.prog 51 #[] w fun e w' => e = .returned (.bool true) ∧ Below w.heap.size w w' := by
  have hc := wrap_any 258 1 w
  have hw : wrapB 258 1 = [0, 0, 1, 2] ++ List.replicate 13 0 := by decide
  rw [hw] at hc
  go_enter Try.func51, Try.ntmps51
  go_wp2_with fail
  refine hc.mono ?_
  rintro e w1 ⟨v, rfl, ho, hb⟩
  obtain ⟨hr, _⟩ := Rd.of_own ho
  rcases hr.cases with ⟨h0, _⟩ | ⟨b, off, cap, rfl, _, hlc, hcap, _, hcell⟩
  · cases h0
  have h2 : w1.cell? ⟨b, off + 2, none⟩ = some (.int .u8 1) := hcell 2 (by decide)
  have h3 : w1.cell? ⟨b, off + 3, none⟩ = some (.int .u8 2) := hcell 3 (by decide)
  have h4 : w1.cell? ⟨b, off + 16, none⟩ = some (.int .u8 0) := hcell 16 (by decide)
  have hl : ([0, 0, 1, 2] ++ List.replicate 13 (0 : Int)).length = 17 := rfl
  rw [hl] at hlc ⊢
  clear hcell hr ho hw hl hc
  go_wp2_with fail
  go_ret
  exact ⟨rfl, hb⟩

set_option maxRecDepth 20000 in
set_option maxHeartbeats 1000000 in
theorem bytes_walk {w : World} {h n : Int} {v : Value} {zs : List Int} (hr : Rd .u8 w v zs) (hb : Byts zs) :
    Calls Try.prog 14 #[.int .i64 h, .int .i64 n, v] w fun e w' => e = .returned (.bool true) ∧ Below w.heap.size w w' := by
  by_cases hbig : 1300 < zs.length
  · obtain ⟨ao, cap, rfl, _⟩ := hr
    have t1 : decide ((1300 : Int) < (zs.length : Int)) = true := decide_eq_true (by omega)
    clear hbig hb
    go_enter Try.func14, Try.ntmps14
    go_wp2
    go_ret
    exact ⟨rfl, Below.refl _ _⟩
  · have t1 : decide ((1300 : Int) < (zs.length : Int)) = false := decide_eq_false (by omega)
    have HR := Lib.hid hr
    have HB := Lib.hid hb
    have c1 := unwrap_any hr hb
    have c2 := runwrap_any hr hb
    obtain ⟨ao, cap, rfl, _⟩ := hr
    have q1 : ((unwd zs).1 == (unwd zs).1) = true := by simp
    have q2 : ((unwd zs).2 == (unwd zs).2) = true := by simp
    have q3 : (numd zs == numd zs) = true := by simp
    have q4 : ((unwd zs).1 != 0) = decide ((unwd zs).1 ≠ 0) := by
      by_cases h0 : (unwd zs).1 = 0 <;> simp [h0]
    have q5 : (numd zs != 0) = decide (numd zs ≠ 0) := by
      by_cases h0 : numd zs = 0 <;> simp [h0]
    have q6 : (decide ((unwd zs).1 ≠ 0) == decide ((unwd zs).1 ≠ 0)) = true := by simp
    have q7 : (decide (numd zs ≠ 0) == decide (numd zs ≠ 0)) = true := by simp
    generalize decide ((unwd zs).1 ≠ 0) = D1 at *
    generalize (unwd zs).1 = U1 at *
    generalize (unwd zs).2 = U2 at *
    clear hbig hb
    go_enter Try.func14, Try.ntmps14
    go_wp2_with fail
    refine c1.mono ?_
    rintro e w' ⟨rfl, rfl⟩
    go_wp2_with fail
    refine c2.mono ?_
    rintro e w2 ⟨rfl, b2⟩
    have c3 := numbered_any (HR.out.below b2) HB.out
    have c4 := rnumbered_any (HR.out.below b2) HB.out
    generalize decide (numd zs ≠ 0) = D2 at *
    generalize numd zs = N at *
    clear c1 c2
    go_wp2_with fail
    refine c3.mono ?_
    rintro e w' ⟨rfl, rfl⟩
    go_wp2_with fail
    refine c4.mono ?_
    rintro e w4 ⟨rfl, b4⟩
    clear c3 c4
    go_wp2_with fail
    refine (inumber_any h w4).mono ?_
    rintro e w5 ⟨v5, rfl, r5, b5⟩
    go_wp2_with fail
    refine (rnumber_any h w5).mono ?_
    rintro e w6 ⟨v6, rfl, r6, b6⟩
    have c6 := isame_any (r5.below b6) (Rd.of_own r6).1
    rw [decide_eq_true rfl] at c6
    go_wp2_with fail
    refine c6.mono ?_
    rintro e w7 ⟨rfl, b7⟩
    clear c6
    go_wp2_with fail
    refine (wrap_any h n w7).mono ?_
    rintro e w8 ⟨v8, rfl, r8, b8⟩
    go_wp2_with fail
    refine (rwrap_any h n w8).mono ?_
    rintro e w9 ⟨v9, rfl, r9, b9⟩
    have c9 := isame_any ((Rd.of_own r8).1.below b9) (Rd.of_own r9).1
    rw [decide_eq_true rfl] at c9
    go_wp2_with fail
    refine c9.mono ?_
    rintro e w10 ⟨rfl, b10⟩
    clear c9
    go_wp2_with fail
    refine (iawake_any w10).mono ?_
    rintro e w11 ⟨rfl, b11⟩
    have HB2 := Lib.hid (b2.trans (b4.mono b2.size))
    go_wp2_with fail
    go_ret
    have s4 := HB2.out.size
    have s5 := b5.size
    have s6 := b6.size
    have s7 := b7.size
    have s8 := b8.size
    have s9 := b9.size
    have s10 := b10.size
    exact ⟨rfl, HB2.out.trans ((b5.mono (by omega)).trans ((b6.mono (by omega)).trans ((b7.mono (by omega)).trans ((b8.mono (by omega)).trans ((b9.mono (by omega)).trans ((b10.mono (by omega)).trans (b11.mono (by omega))))))))⟩
#print axioms bytes_walk
end Go.Proofs.Ythgegjdmmjjffaa
