/- The reference's Make tells 0 of any other kind. -/
import Derived.Test.YtinncmljffcobaaZRmake7
namespace Go.Proofs.Ytinncmljffcobaa
open Go Go.RowKit

theorem refOk_no (N : List Nd) {k : Int} (ps : List Int) (h3 : k ≠ 3) (h4 : k ≠ 4) (h5 : k ≠ 5) (h6 : k ≠ 6) (h7 : k ≠ 7) (h8 : k ≠ 8) (h9 : k ≠ 9) (h10 : k ≠ 10) : refOk N k ps = false := by
  simp [refOk, h3, h4, h5, h6, h7, h8, h9, h10]

set_option maxRecDepth 20000 in
set_option maxHeartbeats 4000000 in
theorem rmake_else {w : World} {B rb : Nat} {nv : Value} {L : List (Nd × Value)} (h : RTbl w B rb nv L) (hk : ∀ m ∈ nds L, m.1 ≠ 0) (k : Int) {pv : Value} {ps : List Int} (hp : Rd .i64 w pv ps) (hl : ps.length ≤ 1000000) (hroom : L.length < 65536) (hB : B ≤ w.heap.size) (hno : Hid (k ≠ 3 ∧ k ≠ 4 ∧ k ≠ 5 ∧ k ≠ 6 ∧ k ≠ 7 ∧ k ≠ 8 ∧ k ≠ 9 ∧ k ≠ 10)) :
    Calls Try.prog 30 #[.pointer (some ⟨rb, 0, none⟩), .int .i64 k, pv] w fun e w' => RMade w B rb nv L k ps e w' := by
  have hp' := hp
  obtain ⟨ao, cap, rfl, _, _, _, _⟩ := hp'
  have HL := Lib.hid hl
  have HK := Lib.hid hk
  have HR := Lib.hid hroom
  clear hl hk hroom
  go_enter Try.func30, Try.ntmps30
  go_wp2_with fail
  go_loopw [7] (fun i wr => ∃ j : Nat, j ≤ ps.length ∧ i = .int .i64 j ∧ (∀ q, q < j → kindN (nds L) (ps.getD q 0) ≠ 0) ∧ w = wr) (fun i _ => ps.length - (intOf i).toNat)
  case atStart => exact ⟨0, Nat.zero_le _, rfl, (fun q hq => by omega), rfl⟩
  case round =>
    obtain ⟨j, hj, rfl, hall, rfl⟩ := hrel
    by_cases hlt : j < ps.length
    · have hlt' : (j : Int) < (ps.length : Int) := by omega
      rcases hp.cases with ⟨h0, _⟩ | ⟨b, off, c, e, _, _, _, _, hc⟩
      · rw [h0] at hlt; simp at hlt
      · cases e
        have hcj := hc j hlt
        have HALL := Lib.hid hall
        have HX : Hid (∃ x, x = ps.getD j 0) := Lib.hid ⟨_, rfl⟩
        obtain ⟨x, hx⟩ := HX.out
        rw [← hx] at hcj
        have HXX := Lib.hid hx
        have hcall := kind_any h x
        clear hc hall hp hx HX
        by_cases hz : kindN (nds L) x = 0
        · have hno := fits_none HK.out k ps j hlt (by rw [← HXX.out]; exact hz)
          have HNO := Lib.hid hno
          rw [hz] at hcall
          clear hno hz
          go_wp2_with (go_at_call 47; refine hcall.mono ?_; rintro e w' ⟨rfl, rfl⟩)
          go_ret
          exact .inr ⟨HNO.out, rfl, Below.refl _ _⟩
        · have hzb : (kindN (nds L) x == 0) = false := beq_eq_false_iff_ne.2 hz
          have HZ := Lib.hid hz
          clear hz
          go_wp2_with (go_at_call 47; refine hcall.mono ?_; rintro e w' ⟨rfl, rfl⟩)
          go_roundw
          case rel =>
            refine ⟨j + 1, by omega, by go_num, fun q hq => ?_, trivial⟩
            by_cases hqj : q < j
            · exact HALL.out q hqj
            · obtain rfl : q = j := by omega
              rw [← HXX.out]; exact HZ.out
          case measure => simp [intOf]; omega
    · obtain rfl : j = ps.length := by omega
      have hfr := fits_ref HK.out k ps hall
      have hE := own_empty w (Nat.le_refl w.heap.size)
      have hpE := hp.alloc (.cells #[] 3)
      have hSE : w.heap.size ≤ (w.alloc (.cells #[] 3)).heap.size := by simp
      have hBE := below_alloc w (.cells #[] 3)
      clear hall hj hlt
      obtain ⟨n3, n4, n5, n6, n7, n8, n9, n10⟩ := hno.out
      have HF : Hid (fitsN (nds L) k ps = false) := Lib.hid (by rw [hfr]; exact refOk_no _ _ n3 n4 n5 n6 n7 n8 n9 n10)
      have e3 : (k == 3) = false := beq_eq_false_iff_ne.2 n3
      have e4 : (k == 4) = false := beq_eq_false_iff_ne.2 n4
      have e5 : (k == 5) = false := beq_eq_false_iff_ne.2 n5
      have e6 : (k == 6) = false := beq_eq_false_iff_ne.2 n6
      have e7 : (k == 7) = false := beq_eq_false_iff_ne.2 n7
      have e8 : (k == 8) = false := beq_eq_false_iff_ne.2 n8
      have e9 : (k == 9) = false := beq_eq_false_iff_ne.2 n9
      have e10 : (k == 10) = false := beq_eq_false_iff_ne.2 n10
      have HH := Lib.hid h
      clear hfr n3 n4 n5 n6 n7 n8 n9 n10
      go_wp2_with (at_builtin; refine wpList_append_ints .i64 3 8 (.tmp 25) (.tmp 26) 23 rfl rfl info3' Try.underlying23 w.heap.size _ 0 [] rfl hE _ ps rfl hpE (le8 HL) (le1 HL) hSE ?_; intro v2 w2 hown2 hb2 _; have H2 := rmake_mid HH.out hB hBE hb2 hown2; clear hown2 hb2; obtain ⟨a2, c2, rfl, _, _⟩ := own_shape H2.own)
      go_ret
      exact .inr ⟨HF.out, rfl, H2.bel.trans ((below_alloc _ _).mono H2.bel.size)⟩
#print axioms rmake_else
end Go.Proofs.Ytinncmljffcobaa
