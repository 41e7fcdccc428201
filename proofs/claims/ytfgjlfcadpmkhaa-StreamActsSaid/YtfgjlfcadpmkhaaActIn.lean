/- A slice of acts (a flag, a place, bytes) that came in. -/
import Derived.Test.YtfgjlfcadpmkhaaSlIn
import Derived.Test.YtfgjlfcadpmkhaaKit
import Derived.Deep.Slices
namespace Go.Proofs.Ytfgjlfcadpmkhaa
open Go.ChangeShapes Go.WideShapes Go.ChangeAt Go.RowKit

/-- An act. -/
structure ActV where
  n : Bool
  a : Int
  v : Value
  d : List Int
/-- An act lies at an address. -/
def ActAt (w : World) (a : Addr) (s : ActV) : Prop :=
  w.cell? (a.add 0) = some (.bool s.n) ∧ w.cell? (a.add 1) = some (.int .i64 s.a) ∧ w.cell? (a.add 2) = some s.v ∧ Rd w s.v s.d
/-- The value reads as these acts. -/
def Acts (w : World) (v : Value) (l : List ActV) : Prop :=
  ∃ (ao : Option Addr) (cap : Nat), v = .slice ao l.length cap ∧ l.length ≤ cap ∧ cap ≤ maxLen ∧ (ao = none → cap = 0) ∧ ∀ a, ao = some a → ∀ i s, l[i]? = some s → ActAt w (a.add (i * 3)) s
theorem sct3 : Try.prog.cellsOf 3 = 1 := by kernel_rfl
theorem sct4 : Try.prog.cellsOf 4 = 1 := by kernel_rfl
theorem sctb : Try.prog.cellsOf 29 = 1 := by kernel_rfl
theorem scA : Try.prog.cellsOf 33 = 3 := by kernel_rfl
theorem three_of {α : Type} {l : List α} (h : l.length = 3) : ∃ a b c, l = [a, b, c] := by
  match l, h with
  | [a, b, c], _ => exact ⟨a, b, c, rfl⟩
/-- A slice of bytes among what came in. -/
theorem rdbA_in {W : World} {H : Type} {enc : TypeId × Value → H} {base : Nat} {sp : Nat → Bool} {held : Bool} {v : Value} {fuel : Nat} {x : DataW H × List MemPlace} (h : DataW.trod enc Try.prog W base sp held fuel 29 [v] = some x) :
    ∃ zs, Rd W v zs := by
  rcases open_ints Try.underlying29 Try.underlying5 (by kernel_rfl) h with ⟨hcs, _⟩ | ⟨y, l, c, zs, hcs, _, hl, hm, hz, _, hcell, hwz⟩
  · simp at hcs
    exact ⟨[], by rw [hcs]; exact Rd.nil W⟩
  · simp at hcs
    have hz' : l ≤ zs.length := by
      simp only [hz]
      split <;> omega
    have hlen : (zs.take l).length = l := by simp; omega
    refine ⟨zs.take l, ⟨some y, c, by rw [hlen]; exact hcs, by rw [hlen]; exact hl, hm, (fun h => by cases h), ?_, ?_⟩⟩
    · intro z hz2
      have := hwz z (List.mem_of_mem_take hz2)
      simp [Lit.wf, IntKind.min, IntKind.max, IntKind.bits, IntKind.signed] at this
      omega
    · intro a ha j hj
      cases ha
      rw [hlen] at hj
      rw [hcell j (by omega)]
      simp [List.getD, hj]
set_option maxRecDepth 20000 in
theorem act_in {W : World} {H : Type} {enc : TypeId × Value → H} {base : Nat} {sp : Nat → Bool} {held : Bool} {a : Addr} {n : Nat} {cs : List Value} {y : DataW H × List MemPlace}
    (h1 : W.cells? base a 3 = some cs) (h2 : DataW.trod enc Try.prog W base sp held n 33 cs = some y) : ∃ s, ActAt W a s := by
  obtain ⟨_, hlen, hcell⟩ := World.cells?_some h1
  obtain ⟨xs, k, hk, hxy, _, hxl, hf⟩ := DataW.trod_struct Try.underlying33 h2
  obtain ⟨v0, v1, v2, rfl⟩ := three_of hlen
  obtain ⟨y0, y1, y2, rfl⟩ := three_of (l := xs) hxl
  have g0 : DataW.trod enc Try.prog W base sp held k 4 [v0] = some y0 := by have := hf 0 _ rfl; simpa [sct4] using this
  have g1 : DataW.trod enc Try.prog W base sp held k 3 [v1] = some y1 := by have := hf 1 _ rfl; simpa [sct3] using this
  have g2 : DataW.trod enc Try.prog W base sp held k 29 [v2] = some y2 := by have := hf 2 _ rfl; simpa [sctb] using this
  obtain ⟨b0, q0, _⟩ := DataW.trod_bool Try.underlying4 g0
  obtain ⟨n1, q1, _, w1⟩ := DataW.trod_int Try.underlying3 g1
  obtain ⟨zs, hr⟩ := rdbA_in g2
  simp only [List.cons.injEq, and_true] at q0 q1
  subst q0; subst q1
  exact ⟨⟨b0, n1, v2, zs⟩, hcell 0 (by omega), hcell 1 (by omega), hcell 2 (by omega), hr⟩
theorem list_of {α : Type} {p : Nat → α → Prop} (n : Nat) (each : ∀ i, i < n → ∃ s, p i s) : ∃ l : List α, l.length = n ∧ ∀ i s, l[i]? = some s → p i s := by
  induction n with
  | zero => exact ⟨[], rfl, fun i s h => by simp at h⟩
  | succ n ih =>
    obtain ⟨l, h1, h2⟩ := ih (fun i hi => each i (by omega))
    obtain ⟨s, hs⟩ := each n (by omega)
    refine ⟨l ++ [s], by simp [h1], fun i s' h => ?_⟩
    by_cases hi : i < n
    · rw [List.getElem?_append_left (by omega)] at h
      exact h2 i s' h
    · have hlt := (List.getElem?_eq_some_iff.1 h).1
      simp only [List.length_append, List.length_cons, List.length_nil] at hlt
      obtain rfl : i = n := by omega
      rw [List.getElem?_append_right (by omega), h1, Nat.sub_self] at h
      simp at h
      subst h
      exact hs
theorem acts_in {W : World} {H : Type} {enc : TypeId × Value → H} {base : Nat} {sp : Nat → Bool} {held : Bool} {a : Option Addr} {len cap : Nat} {d : DataW H} {p : List MemPlace} (h : DataW.Trod enc Try.prog W base sp held 22 (.slice a len cap) d p) :
    ∃ l, Acts W (.slice a len cap) l ∧ l.length = len := by
  obtain ⟨fuel, hf⟩ := h
  rcases Go.Deep.open_slice Try.underlying22 hf with ⟨hcs, _⟩ | ⟨ad, l, c, m, n, D, Pl, hcs, hb, hl, hm, hmm, _, hx⟩
  · simp [Value.cells] at hcs
    obtain ⟨rfl, rfl, rfl⟩ := hcs
    exact ⟨[], ⟨none, 0, rfl, Nat.le_refl _, by simp [maxLen], fun _ => rfl, fun a h => by cases h⟩, rfl⟩
  · simp [Value.cells] at hcs
    obtain ⟨rfl, rfl, rfl⟩ := hcs
    have hlm : len ≤ m := by rw [hmm]; split <;> omega
    have each : ∀ i, i < len → ∃ s, ActAt W (ad.add (i * 3)) s := fun i hi => by
      obtain ⟨cs', h1, h2⟩ := hx i (by omega)
      rw [scA] at h1
      exact act_in h1 h2
    obtain ⟨l, h1, h2⟩ := list_of len each
    subst h1
    exact ⟨l, ⟨some ad, cap, rfl, hl, hm, (fun h => by cases h), fun a' ha => by cases ha; exact h2⟩, rfl⟩
theorem Acts.shape {w : World} {v : Value} {l : List ActV} (h : Acts w v l) : ∃ ao cap, v = .slice ao l.length cap := by
  obtain ⟨ao, cap, hv, _⟩ := h; exact ⟨ao, cap, hv⟩
/-- One of them, where it lies. -/
theorem Acts.at {w : World} {v : Value} {l : List ActV} (h : Acts w v l) (hz : 0 < l.length) : ∃ b off cap, v = .slice (some ⟨b, off, none⟩) l.length cap ∧
      ∀ j s, l[j]? = some s → w.cell? ⟨b, off + j * 3, none⟩ = some (.bool s.n) ∧ w.cell? ⟨b, off + j * 3 + 1, none⟩ = some (.int .i64 s.a) ∧ w.cell? ⟨b, off + j * 3 + 2, none⟩ = some s.v ∧ Rd w s.v s.d := by
  obtain ⟨ao, cap, hv, h1, h2, h3, hc⟩ := h
  cases ao with
  | none => have := h3 rfl; omega
  | some a =>
    obtain ⟨b, off, spot⟩ := a
    have h0 := (hc _ rfl 0 _ (List.getElem?_eq_getElem hz)).1
    have hs : spot = none := by simpa [Addr.add] using World.cell?_spot h0
    subst hs
    refine ⟨b, off, cap, hv, fun j s hj => ?_⟩
    have h := hc _ rfl j s hj
    unfold ActAt at h
    rw [Addr.add_lit, Addr.add_lit, Addr.add_lit, Addr.add_lit] at h
    exact h
end Go.Proofs.Ytfgjlfcadpmkhaa
