/- Slices of numbers that read as lists; whether all are versions. -/
import Derived.Test.YtkmjdpnbakcgcaaQVer
namespace Go.Proofs.Ytkmjdpnbakcgcaa
open Go Go.RowKit

/-- The value is a slice that reads as these numbers. -/
def Ri (w : World) (v : Value) (zs : List Int) : Prop :=
  ∃ (ao : Option Addr) (cap : Nat), v = .slice ao zs.length cap ∧ zs.length ≤ cap ∧ cap ≤ maxLen ∧ (ao = none → cap = 0) ∧
    (∀ a, ao = some a → ∀ j, j < zs.length → w.cell? (a.add j) = some (.int .i64 (zs.getD j 0)))
theorem Ri.nil (w : World) : Ri w (.slice none 0 0) [] := ⟨none, 0, rfl, by simp, by simp [maxLen], fun _ => rfl, fun a h => by cases h⟩
theorem Ri.below {w w' : World} {v : Value} {zs : List Int} (h : Ri w v zs) (hb : Below w.heap.size w w') : Ri w' v zs := by
  obtain ⟨ao, cap, hv, h1, h2, h3, hc⟩ := h
  refine ⟨ao, cap, hv, h1, h2, h3, fun a ha j hj => ?_⟩
  have := hc a ha j hj
  rw [hb.cell (cell_lt this)]; exact this
theorem Ri.cases {w : World} {v : Value} {zs : List Int} (h : Ri w v zs) :
    (zs = [] ∧ ∃ ao cap, v = .slice ao 0 cap) ∨ ∃ b off cap, v = .slice (some ⟨b, off, none⟩) zs.length cap ∧ 0 < zs.length ∧ b < w.heap.size ∧ ∀ j, j < zs.length → w.cell? ⟨b, off + j, none⟩ = some (.int .i64 (zs.getD j 0)) := by
  obtain ⟨ao, cap, hv, h1, h2, h3, hc⟩ := h
  by_cases hz : zs = []
  · subst hz; exact .inl ⟨rfl, ao, cap, hv⟩
  · have hl : 0 < zs.length := List.length_pos_iff.2 hz
    cases ao with
    | none => have := h3 rfl; omega
    | some a =>
      obtain ⟨b, off, spot⟩ := a
      have h0 := hc _ rfl 0 hl
      have hs : spot = none := by simpa [Addr.add] using World.cell?_spot h0
      subst hs
      refine .inr ⟨b, off, cap, hv, hl, cell_lt (by simpa [Addr.add] using h0), fun j hj => ?_⟩
      have := hc _ rfl j hj
      rwa [Addr.add_lit] at this

/-- Is a number a version? -/
def verB (n : Int) : Bool := decide (0 < n) && decide (n < 4294967296)
theorem isv_any (w : World) (n : Int) : Calls Try.prog 33 #[.int .i64 n] w fun e w' => e = .returned (.bool (verB n)) ∧ w = w' := isver_any w n
theorem isno_any (w : World) (n : Int) : Calls Try.prog 32 #[.int .i64 n] w fun e w' => e = .returned (.bool (!verB n)) ∧ w = w' := by
  have h := isv_any w n
  generalize verB n = b at h
  go_enter Try.func32, Try.ntmps32
  go_wp2_with (go_at_call 33; refine h.mono ?_; rintro e w' ⟨rfl, rfl⟩)
  go_ret
  exact ⟨rfl, rfl⟩
theorem all_take {p : Int → Bool} {vs : List Int} {k : Nat} (hk : k < vs.length) : (vs.take (k + 1)).all p = ((vs.take k).all p && p (vs.getD k 0)) := by
  rw [List.take_succ_eq_append_getElem hk, List.all_append]
  simp [List.getD, hk]
set_option maxRecDepth 20000 in
set_option maxHeartbeats 1000000 in
/-- The first that is none: its place, or -1. -/
theorem index_some {w : World} {b off cap : Nat} {vs : List Int} (hcell : ∀ j, j < vs.length → w.cell? ⟨b, off + j, none⟩ = some (.int .i64 (vs.getD j 0))) (hl : vs.length ≤ 100000) :
    Calls Try.prog 39 #[.slice (some ⟨b, off, none⟩) vs.length cap, .func (.func 32) #[] #[]] w fun e w' => ∃ r : Int, e = .returned (.int .i64 r) ∧ decide (0 ≤ r) = !vs.all verB ∧ w = w' := by
  have HC := Lib.hid hcell
  clear hcell
  have hl' : (vs.length : Int) ≤ 100000 := by omega
  go_enter Try.func39, Try.ntmps39
  go_wp2_with fail
  go_loop [8] (fun i => ∃ k : Nat, k ≤ vs.length ∧ i = .int .i64 k ∧ (vs.take k).all verB = true) (fun i => vs.length - (intOf i).toNat)
  case atStart => exact ⟨0, by omega, rfl, by simp⟩
  case round =>
    obtain ⟨k, hk, rfl, ha⟩ := hrel
    have hk' : (k : Int) ≤ (vs.length : Int) := by omega
    by_cases hlt : k < vs.length
    · have hlt' : (k : Int) < (vs.length : Int) := by omega
      have hx := HC.out k hlt
      have HT := Lib.hid (all_take (p := verB) hlt)
      have hm : verB (vs.getD k 0) = false → vs.all verB = false := fun h => by
        rw [Bool.eq_false_iff]
        intro hc
        have hmem : vs.getD k 0 ∈ vs := by
          have : vs.getD k 0 = vs[k] := by simp [hlt]
          rw [this]; exact List.getElem_mem hlt
        rw [List.all_eq_true.1 hc _ hmem] at h
        cases h
      have HM := Lib.hid hm
      have HA := Lib.hid ha
      clear hm ha
      generalize vs.getD k 0 = x at hx HT HM
      have hn := isno_any w x
      cases hv : verB x with
      | false =>
        have HV := Lib.hid (HM.out hv)
        rw [hv] at hn
        clear hv HM HT
        go_wp2_with (go_at_call 32; refine hn.mono ?_; rintro e w' ⟨rfl, rfl⟩)
        go_ret
        exact ⟨_, rfl, by rw [HV.out]; simp, rfl⟩
      | true =>
        rw [hv] at hn
        have HV := Lib.hid hv
        clear hv HM
        go_wp2_with (go_at_call 32; refine hn.mono ?_; rintro e w' ⟨rfl, rfl⟩)
        go_round
        case rel => exact ⟨k + 1, by omega, by go_num, by rw [HT.out, HA.out, HV.out]; rfl⟩
        case measure => simp [intOf]; omega
    · obtain rfl : k = vs.length := by omega
      rw [List.take_of_length_le (Nat.le_refl _)] at ha
      have HA := Lib.hid ha
      clear ha
      go_wp2_with fail
      go_ret
      exact ⟨_, rfl, by rw [HA.out]; rfl, rfl⟩
theorem index_nil {w : World} {ao : Option Addr} {cap : Nat} : Calls Try.prog 39 #[.slice ao 0 cap, .func (.func 32) #[] #[]] w fun e w' => ∃ r : Int, e = .returned (.int .i64 r) ∧ decide (0 ≤ r) = !([] : List Int).all verB ∧ w = w' := by
  go_enter Try.func39, Try.ntmps39
  go_wp2_with fail
  go_loop [8] (fun i => i = .int .i64 0) (fun _ => 0)
  case atStart => rfl
  case round =>
    subst hrel
    go_wp2_with fail
    go_ret
    exact ⟨_, rfl, by decide, rfl⟩
theorem contains_any {w : World} {v : Value} {vs : List Int} (h : Ri w v vs) (hl : vs.length ≤ 100000) : Calls Try.prog 35 #[v, .func (.func 32) #[] #[]] w fun e w' => e = .returned (.bool (!vs.all verB)) ∧ w = w' := by
  have hi : Calls Try.prog 39 #[v, .func (.func 32) #[] #[]] w fun e w' => ∃ r : Int, e = .returned (.int .i64 r) ∧ decide (0 ≤ r) = !vs.all verB ∧ w = w' := by
    rcases h.cases with ⟨rfl, ao, cap, rfl⟩ | ⟨b, off, cap, rfl, _, _, h5⟩
    · exact index_nil
    · exact index_some h5 hl
  generalize (!vs.all verB) = c at hi
  clear h
  go_enter Try.func35, Try.ntmps35
  go_wp2_with fail
  refine hi.mono ?_
  rintro e w' ⟨r, rfl, hr, rfl⟩
  have HR := Lib.hid hr
  clear hr hi
  go_wp2_with fail
  go_ret
  exact ⟨ret_bool HR.out, rfl⟩
theorem names_any (w : World) (a2 a3 : Option Addr) (n2 c2 n3 c3 : Nat) : Calls Try.prog 34 #[.slice a2 n2 c2, .slice a3 n3 c3] w fun e w' => e = .returned (.bool (decide (n2 ≤ 20) && decide (n3 ≤ 20))) ∧ w = w' := by
  by_cases h1 : n2 ≤ 20
  · by_cases h2 : n3 ≤ 20
    · have h1' : (n2 : Int) ≤ 20 := by omega
      have h2' : (n3 : Int) ≤ 20 := by omega
      rw [decide_eq_true h1, decide_eq_true h2]
      clear h1 h2
      go_enter Try.func34, Try.ntmps34
      go_wp2_with fail
      go_ret
      exact ⟨rfl, rfl⟩
    · have h1' : (n2 : Int) ≤ 20 := by omega
      have h2' : ¬ (n3 : Int) ≤ 20 := by omega
      rw [decide_eq_true h1, decide_eq_false h2]
      clear h1 h2
      go_enter Try.func34, Try.ntmps34
      go_wp2_with fail
      go_ret
      exact ⟨rfl, rfl⟩
  · have h1' : ¬ (n2 : Int) ≤ 20 := by omega
    rw [decide_eq_false h1, Bool.false_and]
    clear h1
    go_enter Try.func34, Try.ntmps34
    go_wp2_with fail
    go_ret
    exact ⟨rfl, rfl⟩
end Go.Proofs.Ytkmjdpnbakcgcaa
