/- A slice of steps that came in: each step's kind, text, parts, where they lie. -/
import Derived.Test.YtinncmljffcobaaZKBl
import Derived.Test.YtinncmljffcobaaZSlIn
import Derived.Deep.Slices
namespace Go.Proofs.Ytinncmljffcobaa
open Go.ChangeShapes Go.WideShapes Go.ChangeAt Go.RowKit

/-- A slice of numbers that came in. -/
theorem kints_raw {W : World} {H : Type} {enc : TypeId × Value → H} {base : Nat} {sp : Nat → Bool} {held : Bool} {v : Value} {fuel : Nat} {x : DataW H × List MemPlace} (h : DataW.trod enc Try.prog W base sp held fuel 23 [v] = some x) :
    ∃ a cap zs, v = .slice a zs.length cap ∧ Rd .i64 W (.slice a zs.length cap) zs := by
  rcases open_ints Try.underlying23 Try.underlying3 (by kernel_rfl) h with ⟨hcs, _⟩ | ⟨a, l, c, zs, hcs, _, hl, hm, hz, _, hcell, hwz⟩
  · simp at hcs
    exact ⟨none, 0, [], hcs, Rd.nil _ W⟩
  · simp at hcs
    have hz' : l ≤ zs.length := by
      simp only [hz]
      split <;> omega
    have hlen : (zs.take l).length = l := by simp; omega
    refine ⟨some a, c, zs.take l, by rw [hlen]; exact hcs, ⟨some a, c, rfl, by rw [hlen]; exact hl, hm, (fun h => by cases h), ?_⟩⟩
    intro a' ha j hj
    cases ha
    rw [hlen] at hj
    rw [hcell j (by omega)]
    simp [List.getD, hj]

theorem ksc3 : Try.prog.cellsOf 3 = 1 := by kernel_rfl
theorem ksc9 : Try.prog.cellsOf 9 = 1 := by kernel_rfl
theorem kscI : Try.prog.cellsOf 23 = 1 := by kernel_rfl
theorem kscS : Try.prog.cellsOf 33 = 3 := by kernel_rfl
theorem three_of {α : Type} {l : List α} (h : l.length = 3) : ∃ a b c, l = [a, b, c] := by
  match l, h with
  | [a, b, c], _ => exact ⟨a, b, c, rfl⟩
set_option maxRecDepth 20000 in
theorem kstep_in {W : World} {H : Type} {enc : TypeId × Value → H} {base : Nat} {sp : Nat → Bool} {held : Bool} {a : Addr} {n : Nat} {cs : List Value} {y : DataW H × List MemPlace}
    (h1 : W.cells? base a 3 = some cs) (h2 : DataW.trod enc Try.prog W base sp held n 33 cs = some y) : ∃ s, KStepAt W a s := by
  obtain ⟨_, hlen, hcell⟩ := World.cells?_some h1
  obtain ⟨xs, k, hk, hxy, _, hxl, hf⟩ := DataW.trod_struct Try.underlying33 h2
  obtain ⟨v0, v1, v2, rfl⟩ := three_of hlen
  obtain ⟨y0, y1, y2, rfl⟩ := three_of (l := xs) hxl
  have g0 : DataW.trod enc Try.prog W base sp held k 3 [v0] = some y0 := by have := hf 0 _ rfl; simpa [ksc3] using this
  have g1 : DataW.trod enc Try.prog W base sp held k 9 [v1] = some y1 := by have := hf 1 _ rfl; simpa [ksc9] using this
  have g2 : DataW.trod enc Try.prog W base sp held k 23 [v2] = some y2 := by have := hf 2 _ rfl; simpa [kscI] using this
  obtain ⟨ao, cp, zs, rfl, hr⟩ := kints_raw g2
  obtain ⟨n0, q0, _, _⟩ := DataW.trod_int Try.underlying3 g0
  obtain ⟨s1, q1, _, _⟩ := DataW.trod_string Try.underlying9 g1
  simp only [List.cons.injEq, and_true] at q0 q1
  subst q0; subst q1
  exact ⟨⟨n0, s1, ao, cp, zs⟩, hcell 0 (by omega), hcell 1 (by omega), hcell 2 (by omega), hr⟩
theorem klist_of {α : Type} {p : Nat → α → Prop} (n : Nat) (each : ∀ i, i < n → ∃ s, p i s) : ∃ l : List α, l.length = n ∧ ∀ i s, l[i]? = some s → p i s := by
  induction n with
  | zero => exact ⟨[], rfl, fun i s h => by simp at h⟩
  | succ n ih =>
    obtain ⟨l, h1, h2⟩ := ih (fun i hi => each i (by omega))
    obtain ⟨s, hs⟩ := each n (by omega)
    refine ⟨l ++ [s], by simp [h1], fun i s' h => ?_⟩
    by_cases hi : i < n
    · rw [List.getElem?_append_left (by omega)] at h
      exact h2 i s' h
    · rw [List.getElem?_append_right (by omega)] at h
      by_cases hi2 : i - l.length = 0
      · rw [hi2] at h
        simp at h
        subst h
        have hil := (List.getElem?_eq_some_iff.1 (show (l ++ [s])[i]? = some s by rw [List.getElem?_append_right (by omega), hi2]; rfl)).1
        simp at hil
        obtain rfl : i = n := by omega
        exact hs
      · obtain ⟨q, hq⟩ : ∃ q, i - l.length = q + 1 := ⟨i - l.length - 1, by omega⟩
        rw [hq] at h
        simp at h
/-- All of them. -/
theorem ksteps_in {W : World} {H : Type} {enc : TypeId × Value → H} {base : Nat} {sp : Nat → Bool} {held : Bool} {a : Option Addr} {len cap : Nat} {d : DataW H} {p : List MemPlace} (h : DataW.Trod enc Try.prog W base sp held 22 (.slice a len cap) d p) :
    ∃ l, KSteps W (.slice a len cap) l ∧ l.length = len := by
  obtain ⟨fuel, hf⟩ := h
  rcases Go.Deep.open_slice Try.underlying22 hf with ⟨hcs, _⟩ | ⟨ad, l, c, m, n, D, Pl, hcs, hb, hl, hm, hmm, _, hx⟩
  · simp [Value.cells] at hcs
    obtain ⟨rfl, rfl, rfl⟩ := hcs
    exact ⟨[], ⟨none, 0, rfl, Nat.le_refl _, by simp [maxLen], fun _ => rfl, fun a h => by cases h⟩, rfl⟩
  · simp [Value.cells] at hcs
    obtain ⟨rfl, rfl, rfl⟩ := hcs
    have hlm : len ≤ m := by rw [hmm]; split <;> omega
    have each : ∀ i, i < len → ∃ s, KStepAt W (ad.add (i * 3)) s := fun i hi => by
      obtain ⟨cs', h1, h2⟩ := hx i (by omega)
      rw [kscS] at h1
      exact kstep_in h1 h2
    obtain ⟨l, h1, h2⟩ := klist_of len each
    subst h1
    exact ⟨l, ⟨some ad, cap, rfl, hl, hm, (fun h => by cases h), fun a' ha => by cases ha; exact h2⟩, rfl⟩
#print axioms ksteps_in
end Go.Proofs.Ytinncmljffcobaa
