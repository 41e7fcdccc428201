/- A slice of acts (three numbers each) that came in. -/
import Derived.Test.YtallpkchhkdanaaStRef
import Derived.Test.YtallpkchhkdanaaSlIn
import Derived.Deep.Slices
namespace Go.Proofs.Ytallpkchhkdanaa
open Go.ChangeShapes Go.WideShapes Go.ChangeAt Go.RowKit

/-- An act. -/
structure ActV where
  n : Int
  m : Int
  t : Int
/-- An act lies at an address. -/
def ActAt (w : World) (a : Addr) (s : ActV) : Prop :=
  w.cell? (a.add 0) = some (.int .i64 s.n) ∧ w.cell? (a.add 1) = some (.int .i64 s.m) ∧ w.cell? (a.add 2) = some (.int .i64 s.t) ∧ i64 s.n ∧ i64 s.m ∧ i64 s.t
/-- The value reads as these acts. -/
def Acts (w : World) (v : Value) (l : List ActV) : Prop :=
  ∃ (ao : Option Addr) (cap : Nat), v = .slice ao l.length cap ∧ l.length ≤ cap ∧ cap ≤ maxLen ∧ (ao = none → cap = 0) ∧ ∀ a, ao = some a → ∀ i s, l[i]? = some s → ActAt w (a.add (i * 3)) s
theorem sct3 : Try.prog.cellsOf 3 = 1 := by kernel_rfl
theorem scA : Try.prog.cellsOf 31 = 3 := by kernel_rfl
theorem three_of {α : Type} {l : List α} (h : l.length = 3) : ∃ a b c, l = [a, b, c] := by
  match l, h with
  | [a, b, c], _ => exact ⟨a, b, c, rfl⟩
set_option maxRecDepth 20000 in
theorem act_in {W : World} {H : Type} {enc : TypeId × Value → H} {base : Nat} {sp : Nat → Bool} {held : Bool} {a : Addr} {n : Nat} {cs : List Value} {y : DataW H × List MemPlace}
    (h1 : W.cells? base a 3 = some cs) (h2 : DataW.trod enc Try.prog W base sp held n 31 cs = some y) : ∃ s, ActAt W a s := by
  obtain ⟨_, hlen, hcell⟩ := World.cells?_some h1
  obtain ⟨xs, k, hk, hxy, _, hxl, hf⟩ := DataW.trod_struct Try.underlying31 h2
  obtain ⟨v0, v1, v2, rfl⟩ := three_of hlen
  obtain ⟨y0, y1, y2, rfl⟩ := three_of (l := xs) hxl
  have g0 : DataW.trod enc Try.prog W base sp held k 3 [v0] = some y0 := by have := hf 0 _ rfl; simpa [sct3] using this
  have g1 : DataW.trod enc Try.prog W base sp held k 3 [v1] = some y1 := by have := hf 1 _ rfl; simpa [sct3] using this
  have g2 : DataW.trod enc Try.prog W base sp held k 3 [v2] = some y2 := by have := hf 2 _ rfl; simpa [sct3] using this
  obtain ⟨n0, q0, _, w0⟩ := DataW.trod_int Try.underlying3 g0
  obtain ⟨n1, q1, _, w1⟩ := DataW.trod_int Try.underlying3 g1
  obtain ⟨n2, q2, _, w2⟩ := DataW.trod_int Try.underlying3 g2
  simp only [List.cons.injEq, and_true] at q0 q1 q2
  subst q0; subst q1; subst q2
  exact ⟨⟨n0, n1, n2⟩, hcell 0 (by omega), hcell 1 (by omega), hcell 2 (by omega), i64_of w0, i64_of w1, i64_of w2⟩
theorem list_of {α : Type} {p : Nat → α → Prop} (n : Nat) (each : ∀ i, i < n → ∃ s, p i s) : ∃ l : List α, l.length = n ∧ ∀ i s, l[i]? = some s → p i s := by
  induction n with
  | zero => exact ⟨[], rfl, fun i s h => by simp at h⟩
  | succ n ih =>
    obtain ⟨l, h1, h2⟩ := ih (fun i hi => each i (by omega))
    obtain ⟨s, hs⟩ := each n (by omega)
    refine ⟨l ++ [s], by simp [h1], fun i s' h => ?_⟩
    by_cases hi : i < n
    · rw [List.getElem?_append_left (by omega)] at h
      exact h2 i s' h
    · rw [List.getElem?_append_right (by omega)] at h
      by_cases hi2 : i - l.length = 0
      · rw [hi2] at h
        simp at h
        subst h
        have hil := (List.getElem?_eq_some_iff.1 (show (l ++ [s])[i]? = some s by rw [List.getElem?_append_right (by omega), hi2]; rfl)).1
        simp at hil
        obtain rfl : i = n := by omega
        exact hs
      · obtain ⟨q, hq⟩ : ∃ q, i - l.length = q + 1 := ⟨i - l.length - 1, by omega⟩
        rw [hq] at h
        simp at h
theorem acts_in {W : World} {H : Type} {enc : TypeId × Value → H} {base : Nat} {sp : Nat → Bool} {held : Bool} {a : Option Addr} {len cap : Nat} {d : DataW H} {p : List MemPlace} (h : DataW.Trod enc Try.prog W base sp held 22 (.slice a len cap) d p) :
    ∃ l, Acts W (.slice a len cap) l ∧ l.length = len := by
  obtain ⟨fuel, hf⟩ := h
  rcases Go.Deep.open_slice Try.underlying22 hf with ⟨hcs, _⟩ | ⟨ad, l, c, m, n, D, Pl, hcs, hb, hl, hm, hmm, _, hx⟩
  · simp [Value.cells] at hcs
    obtain ⟨rfl, rfl, rfl⟩ := hcs
    exact ⟨[], ⟨none, 0, rfl, Nat.le_refl _, by simp [maxLen], fun _ => rfl, fun a h => by cases h⟩, rfl⟩
  · simp [Value.cells] at hcs
    obtain ⟨rfl, rfl, rfl⟩ := hcs
    have hlm : len ≤ m := by rw [hmm]; split <;> omega
    have each : ∀ i, i < len → ∃ s, ActAt W (ad.add (i * 3)) s := fun i hi => by
      obtain ⟨cs', h1, h2⟩ := hx i (by omega)
      rw [scA] at h1
      exact act_in h1 h2
    obtain ⟨l, h1, h2⟩ := list_of len each
    subst h1
    exact ⟨l, ⟨some ad, cap, rfl, hl, hm, (fun h => by cases h), fun a' ha => by cases ha; exact h2⟩, rfl⟩
/-- The shapes. -/
theorem Acts.cases {w : World} {v : Value} {l : List ActV} (h : Acts w v l) :
    (l = [] ∧ ∃ ao cap, v = .slice ao 0 cap) ∨ ∃ b off cap, v = .slice (some ⟨b, off, none⟩) l.length cap ∧ 0 < l.length ∧ b < w.heap.size ∧
      ∀ j, j < l.length → ∃ s, l[j]? = some s ∧ w.cell? ⟨b, off + j * 3, none⟩ = some (.int .i64 s.n) ∧ w.cell? ⟨b, off + j * 3 + 1, none⟩ = some (.int .i64 s.m) ∧ w.cell? ⟨b, off + j * 3 + 2, none⟩ = some (.int .i64 s.t) ∧ i64 s.n ∧ i64 s.m ∧ i64 s.t := by
  obtain ⟨ao, cap, hv, h1, h2, h3, hc⟩ := h
  by_cases hz : l = []
  · subst hz; exact .inl ⟨rfl, ao, cap, hv⟩
  · have hl : 0 < l.length := List.length_pos_iff.2 hz
    cases ao with
    | none => have := h3 rfl; omega
    | some a =>
      obtain ⟨b, off, spot⟩ := a
      have h0 := (hc _ rfl 0 _ (List.getElem?_eq_getElem hl)).1
      have hs : spot = none := by simpa [Addr.add] using World.cell?_spot h0
      subst hs
      refine .inr ⟨b, off, cap, hv, hl, cell_lt (by simpa [Addr.add] using h0), fun j hj => ⟨_, List.getElem?_eq_getElem hj, ?_⟩⟩
      have h := hc _ rfl j _ (List.getElem?_eq_getElem hj)
      unfold ActAt at h
      rw [Addr.add_lit, Addr.add_lit, Addr.add_lit, Addr.add_lit] at h
      exact h
end Go.Proofs.Ytallpkchhkdanaa
