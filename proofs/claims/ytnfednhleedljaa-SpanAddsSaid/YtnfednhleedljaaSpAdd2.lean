/- The program's set in memory: a number that is added. -/
import Derived.Test.YtnfednhleedljaaSpAdd
import Derived.Deep.RegionHeld3
namespace Go.Proofs.Ytnfednhleedljaa
open Go Go.RowKit

/-- The row that Concat gets: three slices. -/
theorem three_of {w : World} {v1 v3 : Value} {A C : List Sp} (X : Obj) (f t : Int) (h1 : Rs w v1 A) (h3 : Rs w v3 C) :
    Three (((w.alloc X).alloc (.cells #[.int .i64 f, .int .i64 t] 44)).alloc (.cells #[v1, .slice (some ⟨w.heap.size + 1, 0, none⟩) 1 1, v3] 24)).drew (w.heap.size + 1 + 1)
      [(v1, A), (.slice (some ⟨w.heap.size + 1, 0, none⟩) 1 1, [(f, t)]), (v3, C)] := by
  have hb : Below w.heap.size w (((w.alloc X).alloc (.cells #[.int .i64 f, .int .i64 t] 44)).alloc (.cells #[v1, .slice (some ⟨w.heap.size + 1, 0, none⟩) 1 1, v3] 24)).drew :=
    ((((Below.refl _ _).alloc (Nat.le_refl _) X).alloc (by simp) _).alloc (by simp <;> omega) _).drew
  intro j p hp
  match j with
  | 0 => cases hp; exact ⟨by simp [go_sem], h1.below hb⟩
  | 1 =>
    cases hp
    refine ⟨by simp [go_sem], ⟨some ⟨w.heap.size + 1, 0, none⟩, 1, rfl, Nat.le_refl _, by simp [maxLen], (fun h => by cases h), fun a ha j hj => ?_⟩⟩
    cases ha
    obtain rfl : j = 0 := by simp at hj; omega
    simp [go_sem, Addr.add]
  | 2 => cases hp; exact ⟨by simp [go_sem], h3.below hb⟩
  | j + 3 => simp at hp
theorem three_below {w : World} (X Y Z : Obj) : Below w.heap.size w (((w.alloc X).alloc Y).alloc Z).drew :=
  ((((Below.refl _ _).alloc (Nat.le_refl _) X).alloc (by simp) _).alloc (by simp <;> omega) _).drew
/-- Behind Concat: keep does the rest. -/
theorem ready {w w3 : World} {B base m : Nat} {s : Set0} {n : Int} {v : Value} {l : List Sp} (h : Sn w B s) (hok : okB s n = true) (hb : Below w.heap.size w w3) (ho : w3.ownsRow base 44 2 v m (sc l)) (hbase : B < base) (hl : l = midS s.1 n) :
    Calls Try.prog 19 #[.pointer (some ⟨B, 0, none⟩), v] w3 fun e w' => e = .returned (.tuple #[]) ∧ Kept w B (midS s.1 n) s.2 w' := by
  subst hl
  obtain ⟨v0, h1, _⟩ := h.box
  have hm := ok_mid h.ok hok
  have hbx : w3.heap[B]? = some (.cells #[v0, .int .i64 s.2] 26 (0, 0)) := by rw [hb.block B h.lt]; exact h1
  refine (keep_any hbx (Rs.of_own ho).1 (fun e => ?_) hm.1 (by have := h.ok.2.1; omega) hm.2.2.2 h.ok.2.2).mono fun e w' ⟨he, hk⟩ => ⟨he, hk.1, (But.of_below hb).trans hk.2⟩
  have := (ho.lt B e).1
  omega
theorem mid_at {S : List Sp} {n : Int} {A C : List Sp} {f t : Int} (hA : topA (abv S n) n = (A, t)) (hC : botB (blw S n) n = (C, f)) (v1 v2 v3 : Value) : flat [(v1, A), (v2, [(f, t)]), (v3, C)] = midS S n := by
  unfold midS; rw [hA, hC]; simp [flat]
theorem mid_len {S : List Sp} {n : Int} {s : Set0} (h : OkS s) (hb : okB s n = true) (hS : S = s.1) : (midS S n).length ≤ 1000 := by
  subst hS; have := (ok_mid h hb).2.2.1; have := h.2.1; omega

set_option maxHeartbeats 1000000 in
theorem add_first {w : World} {B : Nat} {s : Set0} (h : Sn w B s) (n : Int) (hb : okB s n = true) (he : s.1 = []) : Calls Try.prog 7 #[.pointer (some ⟨B, 0, none⟩), .int .i64 n] w fun e w' => e = .returned (.bool true) ∧ Kept w B (midS s.1 n) s.2 w' := by
  obtain ⟨_, c1, _⟩ := h.cells
  have hh := has_any h n
  have hp := place_any h n
  have hb' := okB_iff.1 hb
  have hs := size_yes n hb'.1 hb'.2.1
  rcases h.shape with ⟨_, c0⟩ | ⟨b, off, cap, _, h1, _⟩
  case inr => rw [he] at h1; simp at h1
  rw [hb'.2.2.2] at hh
  have hn1 : ¬ n < s.2 := by omega
  have HP := Lib.hid (fun w1 (hw : Below w.heap.size w w1) => place_any (h.below hw) n)
  have hp0 : (abv s.1 n).length = 0 := by rw [he]; rfl
  rw [hp0] at HP hp
  have hB := h.lt
  have H := Lib.hid h
  have HB := Lib.hid hb
  have HM := Lib.hid (mid_at (S := s.1) (n := n) (A := []) (C := []) (f := n) (t := n) (by rw [he]; rfl) (by rw [he]; rfl) (.slice none 0 0) : ∀ v2 v3, _)
  have HL := Lib.hid (mid_len h.ok hb rfl)
  clear hb' hb hp h hp0
  go_enter Try.func7, Try.ntmps7
  go_wp2_with (first | (go_at_call 17; refine (hs _).mono ?_; rintro e w' ⟨z, rfl, hz, rfl⟩) | (go_at_call 13; refine hh.mono ?_; rintro e w1 ⟨rfl, hbel⟩; have hp := HP.out w1 hbel; have hB1 : B < w1.heap.size := Nat.lt_of_lt_of_le hB hbel.size) | (go_at_call 18; refine hp.mono ?_; rintro e w2 ⟨rfl, hbel2⟩; have c20 : w2.cell? ⟨B, 0, none⟩ = _ := (hbel2.cell (p := ⟨B, 0, none⟩) hB1).trans ((hbel.cell (p := ⟨B, 0, none⟩) hB).trans c0)))
  clear hh hp HP
  have hB2 : B < w2.heap.size := Nat.lt_of_lt_of_le hB1 hbel2.size
  go_region_held3 (fun w' => w'.cell? ⟨B, 0, none⟩ = some (.slice none 0 0)) ((first | with_reducible exact c20 | (show w2.cell? _ = _; exact c20) | simp [go_sem, hB2, c20])) (fail)
  go_wp2_with (first
    | (go_at_call 20; refine (concat_any (three_of _ n n (Rs.nil w2) (Rs.nil w2)) rfl (by rw [HM.out]; exact HL.out)).mono ?_; rintro e w3 ⟨v3, rfl, ho3, hb3⟩; have hk := ready H.out HB.out ((hbel.trans (hbel2.mono hbel.size)).trans (((three_below _ _ _).mono (Nat.le_trans hbel.size hbel2.size)).trans (hb3.mono (by simp; have := hbel.size; have := hbel2.size; omega)))) ho3 (by simp; omega) (HM.out _ _))
    | (go_at_call 19; refine hk.mono ?_; rintro e w4 ⟨rfl, hk4⟩))
  go_ret
  exact ⟨rfl, hk4⟩
end Go.Proofs.Ytnfednhleedljaa
