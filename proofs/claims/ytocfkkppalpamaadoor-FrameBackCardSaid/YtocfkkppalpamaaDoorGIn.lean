/- A slice of the document's frames that came in. -/
import Derived.Test.YtocfkkppalpamaaDoorFrame
import Derived.Test.YtocfkkppalpamaaDoorGW5
import Derived.Deep.Slices
namespace Go.Proofs.YtocfkkppalpamaaDoor
open Go.ChangeShapes Go.WideShapes Go.ChangeAt Go.RowKit

theorem sct3 : Tryd.prog.cellsOf 3 = 1 := by kernel_rfl
theorem sctb : Tryd.prog.cellsOf 26 = 1 := by kernel_rfl
theorem scts : Tryd.prog.cellsOf 31 = 1 := by kernel_rfl
theorem sctS : Tryd.prog.cellsOf 55 = 2 := by kernel_rfl
theorem sctF : Tryd.prog.cellsOf 33 = 6 := by kernel_rfl
theorem two_of {α : Type} {l : List α} (h : l.length = 2) : ∃ a b, l = [a, b] := by
  match l, h with
  | [a, b], _ => exact ⟨a, b, rfl⟩
theorem six_of {α : Type} {l : List α} (h : l.length = 6) : ∃ a b c d e f, l = [a, b, c, d, e, f] := by
  match l, h with
  | [a, b, c, d, e, f], _ => exact ⟨a, b, c, d, e, f, rfl⟩
theorem list_of {α : Type} {p : Nat → α → Prop} (n : Nat) (each : ∀ i, i < n → ∃ s, p i s) : ∃ l : List α, l.length = n ∧ ∀ i s, l[i]? = some s → p i s := by
  induction n with
  | zero => exact ⟨[], rfl, fun i s h => by simp at h⟩
  | succ n ih =>
    obtain ⟨l, h1, h2⟩ := ih (fun i hi => each i (by omega))
    obtain ⟨s, hs⟩ := each n (by omega)
    refine ⟨l ++ [s], by simp [h1], fun i s' h => ?_⟩
    by_cases hi : i < n
    · rw [List.getElem?_append_left (by omega)] at h
      exact h2 i s' h
    · have hlt := (List.getElem?_eq_some_iff.1 h).1
      simp only [List.length_append, List.length_cons, List.length_nil] at hlt
      obtain rfl : i = n := by omega
      rw [List.getElem?_append_right (by omega), h1, Nat.sub_self] at h
      simp at h
      subst h
      exact hs
/-- A slice of bytes among what came in. -/
theorem rdb_in {W : World} {H : Type} {enc : TypeId × Value → H} {base : Nat} {sp : Nat → Bool} {held : Bool} {v : Value} {fuel : Nat} {x : DataW H × List MemPlace} (h : DataW.trod enc Tryd.prog W base sp held fuel 26 [v] = some x) :
    ∃ zs, Rd W v zs := by
  rcases open_ints Tryd.underlying26 Tryd.underlying5 (by kernel_rfl) h with ⟨hcs, _⟩ | ⟨y, l, c, zs, hcs, _, hl, hm, hz, _, hcell, hwz⟩
  · simp at hcs
    exact ⟨[], by rw [hcs]; exact Rd.nil W⟩
  · simp at hcs
    have hz' : l ≤ zs.length := by
      simp only [hz]
      split <;> omega
    have hlen : (zs.take l).length = l := by simp; omega
    refine ⟨zs.take l, ⟨some y, c, by rw [hlen]; exact hcs, by rw [hlen]; exact hl, hm, (fun h => by cases h), ?_, ?_⟩⟩
    · intro z hz2
      have := hwz z (List.mem_of_mem_take hz2)
      simp [Lit.wf, IntKind.min, IntKind.max, IntKind.bits, IntKind.signed] at this
      omega
    · intro a ha j hj
      cases ha
      rw [hlen] at hj
      rw [hcell j (by omega)]
      simp [List.getD, hj]
theorem span_in {W : World} {H : Type} {enc : TypeId × Value → H} {base : Nat} {sp : Nat → Bool} {held : Bool} {a : Addr} {n : Nat} {cs : List Value} {y : DataW H × List MemPlace}
    (h1 : W.cells? base a 2 = some cs) (h2 : DataW.trod enc Tryd.prog W base sp held n 55 cs = some y) : ∃ s : Sp, W.cell? (a.add 0) = some (.int .i64 s.1) ∧ W.cell? (a.add 1) = some (.int .i64 s.2) := by
  obtain ⟨_, hlen, hcell⟩ := World.cells?_some h1
  obtain ⟨xs, k, hk, hxy, _, hxl, hf⟩ := DataW.trod_struct Tryd.underlying55 h2
  obtain ⟨v0, v1, rfl⟩ := two_of hlen
  obtain ⟨y0, y1, rfl⟩ := two_of (l := xs) hxl
  have g0 : DataW.trod enc Tryd.prog W base sp held k 3 [v0] = some y0 := by have := hf 0 _ rfl; simpa [sct3] using this
  have g1 : DataW.trod enc Tryd.prog W base sp held k 3 [v1] = some y1 := by have := hf 1 _ rfl; simpa [sct3] using this
  obtain ⟨n0, q0, _, w0⟩ := DataW.trod_int Tryd.underlying3 g0
  obtain ⟨n1, q1, _, w1⟩ := DataW.trod_int Tryd.underlying3 g1
  simp only [List.cons.injEq, and_true] at q0 q1
  subst q0; subst q1
  exact ⟨(n0, n1), hcell 0 (by omega), hcell 1 (by omega)⟩
theorem spans_in {W : World} {H : Type} {enc : TypeId × Value → H} {base : Nat} {sp : Nat → Bool} {held : Bool} {v : Value} {fuel : Nat} {x : DataW H × List MemPlace} (h : DataW.trod enc Tryd.prog W base sp held fuel 31 [v] = some x) :
    ∃ S, Rs W v S := by
  rcases Go.Deep.open_slice Tryd.underlying31 h with ⟨hcs, _⟩ | ⟨ad, l, c, m, n, D, Pl, hcs, hb, hl, hm, hmm, _, hx⟩
  · simp at hcs
    exact ⟨[], by rw [hcs]; exact Rs.nil W⟩
  · simp at hcs
    have hlm : l ≤ m := by rw [hmm]; split <;> omega
    have each : ∀ i, i < l → ∃ s : Sp, W.cell? (ad.add (i * 2)) = some (.int .i64 s.1) ∧ W.cell? (ad.add (i * 2 + 1)) = some (.int .i64 s.2) := fun i hi => by
      obtain ⟨cs', h1, h2⟩ := hx i (by omega)
      rw [sctS] at h1
      obtain ⟨s, s1, s2⟩ := span_in h1 h2
      rw [Addr.add_add] at s1 s2
      exact ⟨s, s1, s2⟩
    obtain ⟨S, h1, h2⟩ := list_of l each
    subst h1
    refine ⟨S, some ad, c, hcs, hl, hm, (fun h => by cases h), fun a ha j hj => ?_⟩
    cases ha
    have := h2 j _ (List.getElem?_eq_getElem hj)
    simpa [List.getD, List.getElem?_eq_getElem hj] using this
set_option maxRecDepth 20000 in
theorem frame_in {W : World} {H : Type} {enc : TypeId × Value → H} {base : Nat} {sp : Nat → Bool} {held : Bool} {a : Addr} {n : Nat} {cs : List Value} {y : DataW H × List MemPlace}
    (h1 : W.cells? base a 6 = some cs) (h2 : DataW.trod enc Tryd.prog W base sp held n 33 cs = some y) : ∃ e : Fe, (∀ i u, (feC e)[i]? = some u → W.cell? (a.add i) = some u) ∧ Fr2 W e := by
  obtain ⟨_, hlen, hcell⟩ := World.cells?_some h1
  obtain ⟨xs, k, hk, hxy, _, hxl, hf⟩ := DataW.trod_struct Tryd.underlying33 h2
  obtain ⟨v0, v1, v2, v3, v4, v5, rfl⟩ := six_of hlen
  obtain ⟨y0, y1, y2, y3, y4, y5, rfl⟩ := six_of (l := xs) hxl
  have g0 : DataW.trod enc Tryd.prog W base sp held k 3 [v0] = some y0 := by have := hf 0 _ rfl; simpa [sct3] using this
  have g1 : DataW.trod enc Tryd.prog W base sp held k 3 [v1] = some y1 := by have := hf 1 _ rfl; simpa [sct3] using this
  have g2 : DataW.trod enc Tryd.prog W base sp held k 31 [v2] = some y2 := by have := hf 2 _ rfl; simpa [scts] using this
  have g3 : DataW.trod enc Tryd.prog W base sp held k 3 [v3] = some y3 := by have := hf 3 _ rfl; simpa [sct3] using this
  have g4 : DataW.trod enc Tryd.prog W base sp held k 26 [v4] = some y4 := by have := hf 4 _ rfl; simpa [sctb] using this
  have g5 : DataW.trod enc Tryd.prog W base sp held k 3 [v5] = some y5 := by have := hf 5 _ rfl; simpa [sct3] using this
  obtain ⟨n0, q0, _, _⟩ := DataW.trod_int Tryd.underlying3 g0
  obtain ⟨n1, q1, _, _⟩ := DataW.trod_int Tryd.underlying3 g1
  obtain ⟨n3, q3, _, _⟩ := DataW.trod_int Tryd.underlying3 g3
  obtain ⟨n5, q5, _, _⟩ := DataW.trod_int Tryd.underlying3 g5
  obtain ⟨S, r2⟩ := spans_in g2
  obtain ⟨zs, r4⟩ := rdb_in g4
  simp only [List.cons.injEq, and_true] at q0 q1 q3 q5
  subst q0; subst q1; subst q3; subst q5
  refine ⟨⟨⟨n0, n1, S, n3, zs, n5⟩, v2, v4⟩, fun i u hu => ?_, r2, r4⟩
  have hi := (List.getElem?_eq_some_iff.1 hu).1
  simp only [feC, List.length_cons, List.length_nil] at hi
  have h0 := hcell i (by omega)
  rw [h0]
  exact hu
theorem frames_in {W : World} {H : Type} {enc : TypeId × Value → H} {base : Nat} {sp : Nat → Bool} {held : Bool} {v : Value} {d : DataW H} {p : List MemPlace} {r : Reach} {b0 : Nat} (hv : Value.okWide Tryd.prog W r b0 22 v) (h : DataW.Trod enc Tryd.prog W base sp held 22 v d p) :
    ∃ l, Fl W v l := by
  obtain ⟨a, len, cap, rfl⟩ := okWide_slice Tryd.underlying22 hv
  obtain ⟨fuel, hf⟩ := h
  rcases Go.Deep.open_slice Tryd.underlying22 hf with ⟨hcs, _⟩ | ⟨ad, l, c, m, n, D, Pl, hcs, hb, hl, hm, hmm, _, hx⟩
  · simp [Value.cells] at hcs
    obtain ⟨rfl, rfl, rfl⟩ := hcs
    exact ⟨[], ⟨none, 0, rfl, Nat.le_refl _, by simp [maxLen], fun _ => rfl, fun a h => by cases h⟩, fun e he => by cases he⟩
  · simp [Value.cells] at hcs
    obtain ⟨rfl, rfl, rfl⟩ := hcs
    have hlm : len ≤ m := by rw [hmm]; split <;> omega
    have each : ∀ i, i < len → ∃ e : Fe, (∀ j u, (feC e)[j]? = some u → W.cell? (ad.add (i * 6 + j)) = some u) ∧ Fr2 W e := fun i hi => by
      obtain ⟨cs', h1, h2⟩ := hx i (by omega)
      rw [sctF] at h1
      obtain ⟨e, h3, h4⟩ := frame_in h1 h2
      refine ⟨e, fun j u hu => ?_, h4⟩
      have := h3 j u hu
      rwa [Addr.add_add] at this
    obtain ⟨l, h1, h2⟩ := list_of len each
    subst h1
    refine ⟨l, ⟨some ad, cap, rfl, hl, hm, (fun h => by cases h), fun a' ha j e hj i u hu => ?_⟩, fun e he => ?_⟩
    · cases ha
      exact (h2 j e hj).1 i u hu
    · obtain ⟨i, hi⟩ := List.getElem?_of_mem he
      exact (h2 i e hi).2
#print axioms frames_in
end Go.Proofs.YtocfkkppalpamaaDoor
