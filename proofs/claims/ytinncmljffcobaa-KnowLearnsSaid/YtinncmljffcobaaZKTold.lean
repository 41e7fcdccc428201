/- The function told: terms are those that are so. -/
import Derived.Test.YtinncmljffcobaaZKFd2
namespace Go.Proofs.Ytinncmljffcobaa
open Go Go.RowKit

theorem sorted_lt {x : List Int} (h : x.Pairwise (· < ·)) {s t : Nat} (hst : s < t) (ht : t < x.length) : x.getD s 0 < x.getD t 0 := by
  have := List.pairwise_iff_getElem.1 h s t (by omega) ht hst
  simpa [ht, show s < x.length by omega] using this
/-- Below k all of l is less than h, from k on it isn't. -/
def Upto (l : List Int) (k h : Nat) : Prop := k ≤ l.length ∧ (∀ t, t < k → l.getD t 0 < (h : Int)) ∧ ∀ t, k ≤ t → t < l.length → (h : Int) ≤ l.getD t 0
theorem Upto.no {l : List Int} {k h : Nat} (u : Upto l k h) (hn : (h : Int) ∉ l) : Upto l k (h + 1) :=
  ⟨u.1, fun t ht => by have := u.2.1 t ht; omega, fun t h1 h2 => by
    have h3 := u.2.2 t h1 h2
    have h4 : l.getD t 0 ≠ (h : Int) := fun e => hn (by rw [← e]; exact getD_mem h2)
    omega⟩
theorem Upto.yes {l : List Int} (hs : l.Pairwise (· < ·)) {k h : Nat} (u : Upto l k h) (hm : (h : Int) ∈ l) : k < l.length ∧ l.getD k 0 = (h : Int) ∧ Upto l (k + 1) (h + 1) := by
  obtain ⟨t, ht, e⟩ := mem_at hm
  have h1 : k ≤ t := by
    refine Classical.byContradiction fun hn => ?_
    have := u.2.1 t (by omega)
    omega
  have h2 : k = t := by
    refine Classical.byContradiction fun hn => ?_
    have h3 := sorted_lt hs (s := k) (t := t) (by omega) ht
    have h4 := u.2.2 k (Nat.le_refl _) (by omega)
    omega
  subst h2
  refine ⟨ht, e, by omega, fun s hs' => ?_, fun s h3 h4 => ?_⟩
  · by_cases e2 : s = k
    · rw [e2, e]; omega
    · have := u.2.1 s (by omega); omega
  · have := sorted_lt hs (s := k) (t := s) (by omega) h4
    omega

set_option maxRecDepth 20000 in
set_option maxHeartbeats 4000000 in
theorem told_any {w : World} {v : Value} {l : List Int} (hl : Rd .i64 w v l) (hs : l.Pairwise (· < ·)) {G n : Nat} {f : Nat → Bool} (hf : Bl w G f (n + 1)) (hn : n ≤ 1000) (hm : ∀ y : Nat, 1 ≤ y → y ≤ n → ((y : Int) ∈ l ↔ f y = true)) (hin : ∀ x ∈ l, 1 ≤ x ∧ x ≤ (n : Int)) :
    Calls Try.prog 14 #[v, .slice (some ⟨G, 0, none⟩) (n + 1) (n + 1)] w fun e w' => e = .returned (.bool true) ∧ w' = w := by
  have hl0 := hl
  obtain ⟨a, c, rfl, hlc, hcm, -⟩ := hl0
  unfold maxLen at hcm
  have HL := Lib.hid hl
  have HS := Lib.hid hs
  have HF := Lib.hid hf
  have HM := Lib.hid hm
  have HIN := Lib.hid hin
  clear hl hs hf hm hin
  go_enter Try.func14, Try.ntmps14
  go_wp2_with fail
  go_loopw [5, 6] (fun kv hv wr => ∃ k h : Nat, 1 ≤ h ∧ h ≤ n + 1 ∧ kv = .int .i64 k ∧ hv = .int .i64 h ∧ wr = w ∧ Upto l k h) (fun _ hv _ => n + 1 - (intOf hv).toNat)
  case atStart => exact ⟨0, 1, Nat.le_refl _, by omega, rfl, rfl, (by first | rfl | trivial), Nat.zero_le _, fun t ht => by omega, fun t _ ht => by have := (HIN.out _ (getD_mem ht)).1; omega⟩
  case round =>
    obtain ⟨k, h, h1, h2, rfl, rfl, rfl, hu⟩ := hrel
    have HU := Lib.hid hu
    have hk := hu.1
    clear hu
    by_cases hlt : h < n + 1
    · have hlt' : (h : Int) < (n : Int) + 1 := by omega
      have fc := (HF.out.cell (j := h) hlt).1
      cases hfh : f h with
      | false =>
        rw [hfh] at fc
        have HNX := Lib.hid (HU.out.no fun e => by have := (HM.out h h1 (by omega)).1 e; rw [hfh] at this; cases this)
        clear hfh
        go_wp2_with fail
        go_roundw
        case rel => exact ⟨k, h + 1, by omega, by omega, rfl, by go_num, (by first | rfl | trivial), HNX.out⟩
        case measure => simp [intOf]; omega
      | true =>
        rw [hfh] at fc
        obtain ⟨g1, g2, g3⟩ := HU.out.yes HS.out ((HM.out h h1 (by omega)).2 hfh)
        have HNX := Lib.hid g3
        have hkl : (k : Int) < (l.length : Int) := by omega
        have hkl' : ¬ ((l.length : Int) ≤ (k : Int)) := by omega
        obtain ⟨b1, o1, c1, e1, hc1, hd1, q1⟩ := rd_at2 HL.out g1
        cases e1
        rw [g2] at q1
        have hk62 : k < 9223372036854775807 := by omega
        clear hfh g3 g2
        go_wp2_with fail
        go_roundw
        case rel => exact ⟨k + 1, h + 1, by omega, by omega, by go_num, by go_num, (by first | rfl | trivial), HNX.out⟩
        case measure => simp [intOf]; omega
    · obtain rfl : h = n + 1 := by omega
      have hlt' : ¬ (((n + 1 : Nat) : Int) < (n : Int) + 1) := by omega
      obtain rfl : k = l.length := by
        refine Classical.byContradiction fun hn => ?_
        have h3 := HU.out.2.2 k (Nat.le_refl _) (by omega)
        have h4 := (HIN.out _ (getD_mem (ps := l) (j := k) (by omega))).2
        omega
      go_wp2_with fail
      go_ret
      exact ⟨rfl, (by first | rfl | trivial)⟩
#print axioms told_any
end Go.Proofs.Ytinncmljffcobaa
