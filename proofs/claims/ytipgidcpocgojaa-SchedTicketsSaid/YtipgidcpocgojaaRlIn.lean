/- Slices of bytes, and slices of such slices, that came in read. -/
import Derived.Test.YtipgidcpocgojaaIdOpen
import Derived.ProofKit
import Derived.OpenShut
import Derived.Deep.Slices
namespace Go.Proofs.Ytipgidcpocgojaa
open Go.ChangeShapes Go.WideShapes Go.ChangeAt Go.RowKit

/-- A slice of bytes among what came in. -/
theorem rdb_in {W : World} {H : Type} {enc : TypeId × Value → H} {base : Nat} {sp : Nat → Bool} {held : Bool} {v : Value} {fuel : Nat} {x : DataW H × List MemPlace} (h : DataW.trod enc Try.prog W base sp held fuel 22 [v] = some x) :
    ∃ a cap zs, v = .slice a zs.length cap ∧ Rd .u8 W (.slice a zs.length cap) zs := by
  rcases open_ints Try.underlying22 Try.underlying5 (by kernel_rfl) h with ⟨hcs, _⟩ | ⟨y, l, c, zs, hcs, _, hl, hm, hz, _, hcell, hwz⟩
  · simp at hcs
    exact ⟨none, 0, [], hcs, Rd.nil .u8 W⟩
  · simp at hcs
    have hz' : l ≤ zs.length := by
      simp only [hz]
      split <;> omega
    have hlen : (zs.take l).length = l := by simp; omega
    refine ⟨some y, c, zs.take l, by rw [hlen]; exact hcs, ⟨some y, c, rfl, by rw [hlen]; exact hl, hm, (fun h => by cases h), ?_⟩⟩
    · intro a ha j hj
      cases ha
      rw [hlen] at hj
      rw [hcell j (by omega)]
      simp [List.getD, hj]
theorem bytes_in {W : World} {H : Type} {enc : TypeId × Value → H} {base : Nat} {sp : Nat → Bool} {held : Bool} {a : Option Addr} {len cap : Nat} {d : DataW H} {p : List MemPlace} (h : DataW.Trod enc Try.prog W base sp held 22 (.slice a len cap) d p) :
    ∃ zs, Rd .u8 W (.slice a len cap) zs ∧ zs.length = len := by
  obtain ⟨fuel, hf⟩ := h
  obtain ⟨a', c', zs, hv, hr⟩ := rdb_in hf
  simp only [Value.slice.injEq] at hv
  obtain ⟨rfl, rfl, rfl⟩ := hv
  exact ⟨zs, hr, rfl⟩
/-- A list of slices of bytes that came in. -/
structure Rl (w : World) (v : Value) (qs : List (Value × List Int)) : Prop where
  shape : ∃ ao cap, v = .slice ao qs.length cap ∧ ∀ (k : Nat) q, qs[k]? = some q → ∃ b off, ao = some ⟨b, off, none⟩ ∧ w.cell? ⟨b, off + k, none⟩ = some q.1
  rd : ∀ q ∈ qs, Rd .u8 w q.1 q.2
theorem scS : Try.prog.cellsOf 22 = 1 := by kernel_rfl
theorem list_of {α : Type} {p : Nat → α → Prop} (n : Nat) (each : ∀ i, i < n → ∃ s, p i s) : ∃ l : List α, l.length = n ∧ ∀ i s, l[i]? = some s → p i s := by
  induction n with
  | zero => exact ⟨[], rfl, fun i s h => by simp at h⟩
  | succ n ih =>
    obtain ⟨l, h1, h2⟩ := ih (fun i hi => each i (by omega))
    obtain ⟨s, hs⟩ := each n (by omega)
    refine ⟨l ++ [s], by simp [h1], fun i s' h => ?_⟩
    by_cases hi : i < n
    · rw [List.getElem?_append_left (by omega)] at h
      exact h2 i s' h
    · have hlt := (List.getElem?_eq_some_iff.1 h).1
      simp only [List.length_append, List.length_cons, List.length_nil] at hlt
      obtain rfl : i = n := by omega
      rw [List.getElem?_append_right (by omega), h1, Nat.sub_self] at h
      simp at h
      subst h
      exact hs
theorem rows_in {W : World} {H : Type} {enc : TypeId × Value → H} {base : Nat} {sp : Nat → Bool} {held : Bool} {a : Option Addr} {len cap : Nat} {d : DataW H} {p : List MemPlace} (h : DataW.Trod enc Try.prog W base sp held 23 (.slice a len cap) d p) :
    ∃ qs, Rl W (.slice a len cap) qs ∧ qs.length = len := by
  obtain ⟨fuel, hf⟩ := h
  rcases Go.Deep.open_slice Try.underlying23 hf with ⟨hcs, _⟩ | ⟨ad, l, c, m, n, D, Pl, hcs, hb, hl, hm, hmm, _, hx⟩
  · simp [Value.cells] at hcs
    obtain ⟨rfl, rfl, rfl⟩ := hcs
    exact ⟨[], ⟨⟨none, 0, rfl, fun k q h => by simp at h⟩, fun q h => by cases h⟩, rfl⟩
  · simp [Value.cells] at hcs
    obtain ⟨rfl, rfl, rfl⟩ := hcs
    have hlm : len ≤ m := by rw [hmm]; split <;> omega
    have each : ∀ i, i < len → ∃ q : Value × List Int, W.cell? (ad.add i) = some q.1 ∧ Rd .u8 W q.1 q.2 := fun i hi => by
      obtain ⟨cs', h1, h2⟩ := hx i (by omega)
      rw [scS] at h1
      obtain ⟨_, hlen, hcell⟩ := World.cells?_some h1
      obtain ⟨v0, rfl⟩ : ∃ v0, cs' = [v0] := by
        match cs', hlen with
        | [v0], _ => exact ⟨v0, rfl⟩
      obtain ⟨a', c', zs, hv, hr⟩ := rdb_in h2
      have h0 := hcell 0 (by omega)
      refine ⟨(v0, zs), ?_, by rw [hv]; exact hr⟩
      simpa [Addr.add_add] using h0
    obtain ⟨l, h1, h2⟩ := list_of len each
    subst h1
    refine ⟨l, ⟨⟨some ad, cap, rfl, fun k q hk => ?_⟩, fun q hq => ?_⟩, rfl⟩
    · have hc := (h2 k q hk).1
      obtain ⟨q0, hq0⟩ : ∃ q0, l[0]? = some q0 := ⟨_, List.getElem?_eq_getElem (by have := (List.getElem?_eq_some_iff.1 hk).1; omega)⟩
      have hc0 := (h2 0 q0 hq0).1
      obtain ⟨b, off, spot⟩ := ad
      have hs : spot = none := by simpa [Addr.add] using World.cell?_spot hc0
      subst hs
      rw [Addr.add_lit] at hc
      exact ⟨b, off, rfl, hc⟩
    · obtain ⟨i, hi⟩ := List.getElem?_of_mem hq
      exact (h2 i q hi).2
#print axioms rows_in
end Go.Proofs.Ytipgidcpocgojaa
