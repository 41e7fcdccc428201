/- TermLong's walk: the call tells true of all numbers, and writes nothing that was there. -/
import Derived.Test.YthgegjdmmjjffaaAwake
import Derived.Test.YthgegjdmmjjffaaText
namespace Go.Proofs.Ythgegjdmmjjffaa
open Go Go.RowKit

set_option maxRecDepth 20000 in
theorem Tab.text {w : World} {B tb mb : Nat} {nv : Value} {N : List Nd} (h : TabAt w B tb mb nv N) {vb : Value} {zb : List Int} (hb : Rd .u8 w vb zb) (hl : zb.length ≤ 2048) (hroom : N.length < 65536) :
    Calls Try.prog 25 #[.pointer (some ⟨tb, 0, none⟩), vb] w fun e w' => Put w B tb mb nv N (1, bstr zb, []) e w' := by
  obtain ⟨L, h1, rfl⟩ := h.ex
  exact (text_any h1 hb hl (by rw [← nds_len]; exact hroom)).mono fun e w' hm => Numbered.put (n := (1, bstr zb, [])) hm
theorem info5 : (Try.prog.info? 5).map (fun i => (i.zero, i.size, i.bytes)) = some (some (.int .u8 0), 1, 1) := by kernel_rfl

/-- A row of as many secrets as there may be is one; of more, none. -/
theorem row_fits (N : List Nd) (p : Nat) (hN : 1 ≤ N.length) : fitsN N 3 (List.replicate p 1) = decide (p ≤ 16) := by
  unfold fitsN
  rw [List.length_replicate]
  by_cases h : 16 < p
  · have : askL 3 p = none := by simp [askL, h]
    rw [this]
    exact (decide_eq_false (by omega)).symm
  · have : askL 3 p = some (List.replicate p 0) := by simp [askL, h]
    rw [this]
    have h2 : decide (p ≤ 16) = true := decide_eq_true (by omega)
    rw [h2]
    simp only [List.length_replicate, decide_true, Bool.true_and, List.all_eq_true, List.mem_range]
    intro j hj
    have e1 : (List.replicate p (1 : Int)).getD j 0 = 1 := by simp [List.getD, hj]
    have e2 : (List.replicate p (0 : Int)).getD j 0 = 0 := by simp [List.getD, hj]
    rw [e1, e2]
    unfold okN
    simp; omega
theorem row_mk (N : List Nd) (ps : List Int) : mkN N 3 ps = ps := rfl

set_option maxRecDepth 20000 in
/-- What Text tells of so many zeros, with one secret in the table. -/
theorem text_sum {w : World} {B tb mb : Nat} {nv : Value} (h : TabAt w B tb mb nv [nS]) {ao : Option Addr} {K cap : Nat} (hb : Rd .u8 w (.slice ao K cap) (List.replicate K 0)) :
    Calls Try.prog 25 #[.pointer (some ⟨tb, 0, none⟩), .slice ao K cap] w fun e w' => ∃ hv nv' N, e = .returned (.int .i64 hv) ∧ (hv != 0) = decide (K ≤ 2048) ∧ TabAt w' B tb mb nv' N ∧ 1 ≤ N.length ∧ N.length ≤ 2 ∧ (∀ ps, idxN 1 N (3, ByteArray.empty, ps) = none) ∧ Below B w w' := by
  by_cases hK : K ≤ 2048
  · refine (Tab.text h hb (by simpa using hK) (by decide)).mono fun e w' hp => ?_
    obtain ⟨rfl, nv', h1, h2, _⟩ := hp.new (by simp [idxN, nS, secretNd])
    exact ⟨_, nv', _, rfl, by simp [hK], h1, by simp, by simp, fun ps => by simp [idxN, nS, secretNd], h.below h2⟩
  · refine (text_long (by omega)).mono fun e w' hp => ?_
    obtain ⟨rfl, rfl⟩ := hp
    exact ⟨0, nv, [nS], rfl, by simp [hK], h, by decide, by decide, fun ps => by simp [idxN, nS, secretNd], Below.refl _ _⟩
set_option maxRecDepth 20000 in
/-- What Make tells of a row of so many. -/
theorem row_sum {w : World} {B tb mb : Nat} {nv : Value} {N : List Nd} (h : TabAt w B tb mb nv N) (h1 : 1 ≤ N.length) (h2 : N.length ≤ 2) (hi : ∀ ps, idxN 1 N (3, ByteArray.empty, ps) = none) {v : Value} {M : Nat} (hM : M < 40) (hr : Rd .i64 w v (List.replicate M 1)) (hB : B ≤ w.heap.size) :
    Calls Try.prog 26 #[.pointer (some ⟨tb, 0, none⟩), .int .i64 3, v] w fun e w' => ∃ rv, e = .returned (.int .i64 rv) ∧ (rv != 0) = decide (M ≤ 16) ∧ Below B w w' := by
  by_cases hM16 : M ≤ 16
  · refine (Tab.make h 3 hr (by simp; omega) (by rw [row_fits N M h1]; exact decide_eq_true hM16) (by omega) hB).mono fun e w' hp => ?_
    rw [row_mk] at hp
    obtain ⟨rfl, nv', _, hf, _⟩ := hp.new (hi _)
    exact ⟨_, rfl, by rw [decide_eq_true hM16, bne_iff_ne]; omega, h.below hf⟩
  · refine (Tab.make_no h 3 hr (by simp; omega) (by rw [row_fits N M h1]; exact decide_eq_false hM16)).mono fun e w' hp => ?_
    obtain ⟨rfl, hb⟩ := hp
    exact ⟨0, rfl, by rw [decide_eq_false hM16]; rfl, hb.mono hB⟩

set_option maxHeartbeats 4000000 in
set_option maxRecDepth 20000 in
/-- The law. -/
theorem long_walk (n p : Int) (hn0 : 0 ≤ n) (hn1 : n ≤ 65535) (hp0 : 0 ≤ p) (hp1 : p ≤ 255) (w : World) :
    Calls Try.prog 7 #[.int .u16 n, .int .u8 p] w fun e w' => e = .returned (.bool true) ∧ Below w.heap.size w w' := by
  obtain ⟨K, hK⟩ : ∃ K : Nat, n % 4000 = (K : Int) := ⟨(n % 4000).toNat, by omega⟩
  obtain ⟨M, hM⟩ : ∃ M : Nat, p % 40 = (M : Int) := ⟨(p % 40).toNat, by omega⟩
  have hK4 : K < 4000 := by omega
  have hM4 : M < 40 := by omega
  obtain ⟨i, hi, hz0, hz1, hz2⟩ := info_parts info5
  obtain ⟨bK, hbK⟩ : ∃ bK, decide (K ≤ 2048) = bK := ⟨_, rfl⟩
  obtain ⟨bM, hbM⟩ : ∃ bM, decide (M ≤ 16) = bM := ⟨_, rfl⟩
  have hbKI : decide ((K : Int) ≤ 2048) = bK := by rw [← hbK]; exact decide_eq_decide.2 (by omega)
  have hbMI : decide ((M : Int) ≤ 16) = bM := by rw [← hbM]; exact decide_eq_decide.2 (by omega)
  have HBK := Lib.hid hbK
  have HBM := Lib.hid hbM
  clear hbK hbM
  go_enter Try.func7, Try.ntmps7
  go_wp2_with fail
  refine (Tab.new w).mono ?_
  rintro e w1 ⟨rfl, t1, b1⟩
  have s1 := b1.size
  go_wp2_with fail
  refine (Tab.secret t1 (by decide)).mono ?_
  rintro e w2 ⟨rfl, nv2, t2, f2, m2⟩
  have b2 := b1.trans (t1.below f2)
  have s2 := b2.size
  go_wp2_with (at_make; refine wpList_make_full _ rfl _ _ 48 rfl w2.heap.size 5 i (.int .u8 0) 1 Try.underlying48 hi hz0 hz1 .i64 .i64 _ _ K rfl rfl rfl rfl (by rw [hz2]; omega) (by unfold maxLen; omega) (Nat.le_refl _) ?_; intro w3 hown3 hg3)
  have b23 := below_made hg3
  have b3 := b2.trans (b23.mono s2)
  have s3 := b3.size
  have t3 := t2.keep b23
  have e3 : (madeCells (Value.int .u8 0).cells (K * 1)).toList = cs .u8 (List.replicate K 0) := by
    rw [Nat.mul_one]; exact (toList_madeCells_one _ K).trans (by simp [cs])
  rw [e3] at hown3
  have g3 := (Rd.of_own hown3).1
  clear e3 hown3 hg3
  refine (text_sum t3 g3).mono ?_
  rintro e w4 ⟨hv, nv4, N, rfl, hhv, t4, hN1, hN2, hidx, b34⟩
  have b4 := b3.trans b34
  have s4 := b4.size
  rw [HBK.out] at hhv
  have HIDX := Lib.hid hidx
  clear hidx
  go_wp2_with fail
  go_loopw [10, 11] (fun v i wr => ∃ j : Nat, j ≤ M ∧ i = .int .i64 j ∧ wr.ownsRow w4.heap.size 32 1 v j (cs .i64 (List.replicate j 1)) ∧ Below w4.heap.size w4 wr) (fun _ i _ => M - (intOf i).toNat)
  case atStart => exact ⟨0, Nat.zero_le _, rfl, World.ownsRow_nil _ _ _ _, Below.refl _ _⟩
  case round =>
    obtain ⟨j, hj, rfl, hown, hb⟩ := hrel
    have hsw := hb.size
    by_cases hlt : j < M
    · have hlt' : (j : Int) < (M : Int) := by omega
      go_wp2_with (at_builtin; refine wpList_append_ints .i64 32 8 (.tmp 31) (.tmp 33) 36 rfl rfl info32 Try.underlying36 w4.heap.size _ j (List.replicate j 1) rfl (own_alloc hown _) _ [1] rfl (Rd.lit .i64 32 wr [1] (by decide)) (by simp; omega) (by simp; omega) (by simp; omega) ?_; intro v5 w5 hown5 hb5 _)
      go_roundw
      case rel => exact ⟨j + 1, by omega, by go_num, by rw [List.replicate_succ']; exact hown5, hb.trans (((below_alloc _ _).mono hsw).trans hb5)⟩
      case measure => simp [intOf]; omega
    · obtain rfl : j = M := by omega
      have t5 := t4.keep hb
      have g5 := (Rd.of_own hown).1
      have b5 := b4.trans (hb.mono s4)
      have s5 := b5.size
      have hR := row_sum t5 hN1 hN2 HIDX.out hM4 g5 s5
      clear hlt hj hown t4 t3 g3 t2 t1 f2 m2 hM hK
      go_wp2_with fail
      refine hR.mono ?_
      rintro e w6 ⟨rv, rfl, hrv, b56⟩
      have b6 := b5.trans b56
      have s6 := b6.size
      rw [HBM.out] at hrv
      clear hR
      cases bK <;> cases bM
      all_goals
        go_wp2_with fail
        refine (awake_any w6).mono ?_
        rintro e w7 ⟨rfl, b67⟩
        go_wp2_with fail
        go_ret
        exact ⟨rfl, b6.trans (b67.mono s6)⟩
#print axioms long_walk
end Go.Proofs.Ythgegjdmmjjffaa
