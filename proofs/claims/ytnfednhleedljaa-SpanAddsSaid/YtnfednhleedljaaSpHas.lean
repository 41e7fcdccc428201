/- The program's set in memory: Has, Spans, slices.Clone. -/
import Derived.Test.YtnfednhleedljaaSpSet
import Derived.Laws.Cover3
namespace Go.Proofs.Ytnfednhleedljaa
open Go Go.RowKit

theorem hasB_none {S : List Sp} {n : Int} (h : ¬ (abv S n).length < S.length) : hasB S n = false := by
  have h2 : S = abv S n ++ blw S n := (abv_blw S n).symm
  have hl : S.length = (abv S n).length + (blw S n).length := by
    have := congrArg List.length h2; simpa using this
  have : blw S n = [] := List.eq_nil_of_length_eq_zero (by omega)
  unfold hasB; rw [this]
theorem hasB_some {S : List Sp} {n : Int} (h : (abv S n).length < S.length) : hasB S n = decide (n ≤ (S.getD (abv S n).length (0, 0)).2) := by
  have h2 : S = abv S n ++ blw S n := (abv_blw S n).symm
  have hl : S.length = (abv S n).length + (blw S n).length := by
    have := congrArg List.length h2; simpa using this
  have h3 : S[(abv S n).length]? = (blw S n)[0]? := by
    have h4 : (abv S n ++ blw S n)[(abv S n).length]? = (blw S n)[0]? := by rw [List.getElem?_append_right (Nat.le_refl _), Nat.sub_self]
    rwa [← h2] at h4
  obtain ⟨p, r, hB⟩ : ∃ p r, blw S n = p :: r := by
    cases hB : blw S n with
    | nil => rw [hB] at hl; simp at hl; omega
    | cons p r => exact ⟨p, r, rfl⟩
  unfold hasB
  rw [hB] at h3 ⊢
  simp at h3
  simp [List.getD, h3]
theorem has_any {w : World} {B : Nat} {s : Set0} (h : Sn w B s) (n : Int) : Calls Try.prog 13 #[.pointer (some ⟨B, 0, none⟩), .int .i64 n] w fun e w' => e = .returned (.bool (hasB s.1 n)) ∧ Below w.heap.size w w' := by
  have hp := place_any h n
  by_cases hlt : (abv s.1 n).length < s.1.length
  · rw [hasB_some hlt]
    rcases h.shape with ⟨e, _⟩ | ⟨b, off, cap, hc, _, _, _, hb, _, h5⟩
    · rw [e] at hlt; simp at hlt
    have hx := (h5 _ hlt).2
    have hB := h.lt
    clear h5 h
    generalize (abv s.1 n).length = p at *
    generalize (s.1.getD p (0, 0)).2 = t at hx ⊢
    have hlt' : (p : Int) < (s.1.length : Int) := by omega
    generalize s.1.length = m at *
    go_enter Try.func13, Try.ntmps13
    go_wp2_with (go_at_call 18; refine hp.mono ?_; rintro e w1 ⟨rfl, hbel⟩; have c0 : w1.cell? ⟨B, 0, none⟩ = _ := (hbel.cell (p := ⟨B, 0, none⟩) hB).trans hc; have c1 : w1.cell? ⟨b, off + p * 2 + 1, none⟩ = _ := (hbel.cell (p := ⟨b, off + p * 2 + 1, none⟩) hb).trans hx; clear hc hx hp)
    go_ret
    exact ⟨rfl, hbel⟩
  · rw [hasB_none hlt]
    obtain ⟨m, ao, cap, hm, hc⟩ : ∃ m ao cap, s.1.length = m ∧ w.cell? ⟨B, 0, none⟩ = some (.slice ao m cap) := by
      rcases h.shape with ⟨e, hc⟩ | ⟨b, off, cap, hc, _⟩
      · exact ⟨0, none, 0, by rw [e]; rfl, hc⟩
      · exact ⟨_, _, _, rfl, hc⟩
    rw [hm] at hlt
    have hB := h.lt
    clear h hm
    generalize (abv s.1 n).length = p at *
    have hlt' : ¬ (p : Int) < (m : Int) := by omega
    go_enter Try.func13, Try.ntmps13
    go_wp2_with (go_at_call 18; refine hp.mono ?_; rintro e w1 ⟨rfl, hbel⟩; have c0 : w1.cell? ⟨B, 0, none⟩ = _ := (hbel.cell (p := ⟨B, 0, none⟩) hB).trans hc; clear hc hp)
    go_ret
    exact ⟨rfl, hbel⟩
theorem has_nil (n : Int) (w : World) : Calls Try.prog 13 #[.pointer none, .int .i64 n] w fun e w' => e = .returned (.bool false) ∧ w = w' := by
  go_enter Try.func13, Try.ntmps13
  go_wp2_with fail
  go_ret
  exact ⟨rfl, rfl⟩

/-- Spans: a row of its own that reads as the set's. -/
theorem own_shape {w : World} {base e size n : Nat} {v : Value} {xs : List Value} (h : w.ownsRow base e size v n xs) : ∃ ao m cap, v = .slice ao m cap := by
  rcases h.2 with ⟨rfl, _⟩ | ⟨g, cap, cur, rfl, _⟩
  · exact ⟨_, _, _, rfl⟩
  · exact ⟨_, _, _, rfl⟩
theorem own_zero (w : World) (base e : Nat) (hb : base ≤ w.heap.size) : (w.alloc (.cells #[] e)).ownsRow base e 2 (.slice (some ⟨w.heap.size, 0, none⟩) 0 0) 0 (sc []) :=
  ⟨rfl, .inr ⟨w.heap.size, 0, #[], rfl, hb, heap_alloc_new _ _, Nat.le_refl _, by simp [maxLen], by simp, by simp [sc]⟩⟩
theorem sclone_any {w : World} {v : Value} {S : List Sp} (h : Rs w v S) (hl : S.length ≤ 1000) : Calls Try.prog 21 #[v] w fun e w' => ∃ v', e = .returned v' ∧ w'.ownsRow w.heap.size 44 2 v' S.length (sc S) ∧ Below w.heap.size w w' := by
  have hnil : ∀ (a : Option Addr) (l c : Nat) (w : World), (binOp .eql 24 (.slice a l c) (.slice none 0 0)).run Try.prog w = .ok (.bool a.isNone) w := fun a l c w => by
    simp [binOp, run_equal_slice_nil w 24 44 a l c Try.underlying24]
  rcases h.cases with ⟨rfl, ao, _, rfl, _⟩ | ⟨b, off, _, rfl, h1, h2, h3, h4, h5⟩
  · cases ao with
    | none =>
      go_enter Try.func21, Try.ntmps21
      go_wp2_with fail
      go_ret
      exact ⟨_, rfl, World.ownsRow_nil _ _ _ _, Below.refl _ _⟩
    | some a =>
      have HR := Lib.hid h
      clear h
      go_enter Try.func21, Try.ntmps21
      go_wp2_with (at_builtin; refine wpList_append_spans 44 (.tmp 5) (.tmp 6) 24 rfl rfl info44 Try.underlying24 w.heap.size _ 0 [] rfl (own_zero w _ _ (Nat.le_refl _)) _ [] rfl (HR.out.below (below_alloc w _)) (by simp) (by simp) ?_; intro v5 w5 hown5 hb5 _)
      go_ret
      exact ⟨_, rfl, by simpa using hown5, (below_alloc w _).trans (hb5.mono (by simp))⟩
  · have HR := Lib.hid h
    clear h h5
    go_enter Try.func21, Try.ntmps21
    go_wp2_with (at_builtin; refine wpList_append_spans 44 (.tmp 5) (.tmp 6) 24 rfl rfl info44 Try.underlying24 w.heap.size _ 0 [] rfl (own_zero w _ _ (Nat.le_refl _)) _ S rfl (HR.out.below (below_alloc w _)) (by simp; omega) (by simp) ?_; intro v5 w5 hown5 hb5 _)
    go_ret
    exact ⟨_, rfl, by simpa using hown5, (below_alloc w _).trans (hb5.mono (by simp))⟩
theorem spans_any {w : World} {B : Nat} {s : Set0} (h : Sn w B s) : Calls Try.prog 10 #[.pointer (some ⟨B, 0, none⟩)] w fun e w' => ∃ v', e = .returned v' ∧ w'.ownsRow w.heap.size 44 2 v' s.1.length (sc s.1) ∧ Below w.heap.size w w' := by
  obtain ⟨⟨v, c0, hr⟩, _, _⟩ := h.cells
  have hcl := sclone_any hr (by have := h.ok.2.1; omega)
  clear h hr
  go_enter Try.func10, Try.ntmps10
  go_wp2_with (go_at_call 21; refine hcl.mono ?_; rintro e w1 ⟨v', rfl, ho, hb⟩)
  go_ret
  exact ⟨_, rfl, ho, hb⟩
theorem spans_nil (w : World) : Calls Try.prog 10 #[.pointer none] w fun e w' => e = .returned (.slice none 0 0) ∧ w = w' := by
  go_enter Try.func10, Try.ntmps10
  go_wp2_with fail
  go_ret
  exact ⟨rfl, rfl⟩
end Go.Proofs.Ytnfednhleedljaa
