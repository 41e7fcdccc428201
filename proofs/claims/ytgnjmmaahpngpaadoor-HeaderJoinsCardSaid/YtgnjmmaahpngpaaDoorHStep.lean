/- header's reader: what it has so far, and what each of its methods does. -/
import Derived.Test.YtgnjmmaahpngpaaDoorHPure
namespace Go.Proofs.YtgnjmmaahpngpaaDoor
open Go Go.RowKit

/-- A header's reader in the box R, over the bytes' reader in the box B: what it has so far. -/
structure Hs (w0 : World) (zs : List Int) (X : Nat × Obj) (R B : Nat) (s : Ps) (w : World) : Prop where
  fq : Fq w0 w B (zs.drop s.t) s.t 2
  ord : B < R
  tl : s.t ≤ zs.length
  row : X.1 < w.heap.size ∧ X.1 ≠ R ∧ X.1 ≠ B ∧ w.heap[X.1]? = some X.2
  box : ∃ vt vf vk, w.heap[R]? = some (.cells #[.pointer (some ⟨B, 0, none⟩), .int .i64 s.h.k, .int .i64 s.h.v, vt, vf, vk, .int .i64 s.h.p, .int .i64 s.h.n, .int .i64 s.h.w, .int .i64 s.e] 60 (0, 0)) ∧ Ra (R + 1) w vt s.h.to ∧ Ra (R + 1) w vf s.h.fr ∧ Ra (R + 1) w vk s.h.tk
theorem Hs.lt {w0 w : World} {zs : List Int} {X : Nat × Obj} {R B : Nat} {s : Ps} (h : Hs w0 zs X R B s w) : R < w.heap.size := by
  obtain ⟨_, _, _, hb, _⟩ := h.box
  exact (Array.getElem?_eq_some_iff.1 hb).1
theorem Hs.lo {w0 w : World} {zs : List Int} {X : Nat × Obj} {R B : Nat} {s : Ps} (h : Hs w0 zs X R B s w) : w0.heap.size ≤ R := Nat.le_of_lt (Nat.lt_of_le_of_lt h.fq.lo h.ord)
theorem Hs.cells {w0 w : World} {zs : List Int} {X : Nat × Obj} {R B : Nat} {s : Ps} (h : Hs w0 zs X R B s w) : ∃ vt vf vk, w.cell? ⟨R, 0, none⟩ = some (.pointer (some ⟨B, 0, none⟩)) ∧ w.cell? ⟨R, 1, none⟩ = some (.int .i64 s.h.k) ∧ w.cell? ⟨R, 2, none⟩ = some (.int .i64 s.h.v) ∧ w.cell? ⟨R, 3, none⟩ = some vt ∧ w.cell? ⟨R, 4, none⟩ = some vf ∧ w.cell? ⟨R, 5, none⟩ = some vk ∧ w.cell? ⟨R, 6, none⟩ = some (.int .i64 s.h.p) ∧ w.cell? ⟨R, 7, none⟩ = some (.int .i64 s.h.n) ∧ w.cell? ⟨R, 8, none⟩ = some (.int .i64 s.h.w) ∧ w.cell? ⟨R, 9, none⟩ = some (.int .i64 s.e) ∧ ∀ j, w.frozen? ⟨R, j, none⟩ = false := by
  obtain ⟨vt, vf, vk, hb, _⟩ := h.box
  have hc := fun k => cell_of_row w R k _ 60 (0, 0) hb
  exact ⟨vt, vf, vk, hc 0, hc 1, hc 2, hc 3, hc 4, hc 5, hc 6, hc 7, hc 8, hc 9, fun j => by simp [World.frozen?, hb]⟩
/-- Behind a call that took k bytes. -/
theorem Hs.took {w0 w w1 : World} {zs : List Int} {X : Nat × Obj} {R B : Nat} {s : Ps} (h : Hs w0 zs X R B s w) {k : Nat} (hk : k ≤ (zs.drop s.t).length) (hF : Fq w0 w1 B ((zs.drop s.t).drop k) (s.t + k) 2) (hb : But B w w1) : Hs w0 zs X R B { s with t := s.t + k } w1 := by
  obtain ⟨vt, vf, vk, hbx, r1, r2, r3⟩ := h.box
  have hl := h.lt
  have ho := h.ord
  have ht := h.tl
  simp only [List.length_drop] at hk
  rw [List.drop_drop] at hF
  exact ⟨hF, h.ord, by simp only; omega, ⟨Nat.lt_of_lt_of_le h.row.1 hb.size, h.row.2.1, h.row.2.2.1, (hb.block _ h.row.1 h.row.2.2.1).trans h.row.2.2.2⟩, vt, vf, vk, by rw [hb.block R hl (by omega)]; exact hbx, r1.but hb (by omega), r2.but hb (by omega), r3.but hb (by omega)⟩
theorem Hs.fq_set {w0 w : World} {zs : List Int} {X : Nat × Obj} {R B : Nat} {s : Ps} (h : Hs w0 zs X R B s w) (i : Nat) (u : Value) : Fq w0 (w.setCell ⟨R, i, none⟩ u) B (zs.drop s.t) s.t 2 :=
  h.fq.but (But.set w R i u) h.lo (Nat.ne_of_lt h.ord)
theorem Hs.row_set {w0 w : World} {zs : List Int} {X : Nat × Obj} {R B : Nat} {s : Ps} (h : Hs w0 zs X R B s w) (i : Nat) (u : Value) : X.1 < (w.setCell ⟨R, i, none⟩ u).heap.size ∧ X.1 ≠ R ∧ X.1 ≠ B ∧ (w.setCell ⟨R, i, none⟩ u).heap[X.1]? = some X.2 :=
  ⟨by simpa [World.setCell] using h.row.1, h.row.2.1, h.row.2.2.1, (Below.heap_setCell w ⟨R, i, none⟩ u X.1 h.row.2.1).trans h.row.2.2.2⟩
theorem Hs.setk {w0 w : World} {zs : List Int} {X : Nat × Obj} {R B : Nat} {s : Ps} (h : Hs w0 zs X R B s w) (x : Int) : Hs w0 zs X R B { s with h := { s.h with k := x } } (w.setCell ⟨R, 1, none⟩ (.int .i64 x)) := by
  obtain ⟨vt, vf, vk, hbx, r1, r2, r3⟩ := h.box
  have e0 := heap_setCell_same _ _ 1 _ _ (.int .i64 x) hbx
  simp only [List.setIfInBounds_toArray, List.set_cons_zero, List.set_cons_succ] at e0
  exact ⟨h.fq_set 1 _, h.ord, h.tl, h.row_set 1 _, vt, vf, vk, e0, r1.set (Nat.lt_succ_self _) _, r2.set (Nat.lt_succ_self _) _, r3.set (Nat.lt_succ_self _) _⟩
theorem Hs.setv {w0 w : World} {zs : List Int} {X : Nat × Obj} {R B : Nat} {s : Ps} (h : Hs w0 zs X R B s w) (x : Int) : Hs w0 zs X R B { s with h := { s.h with v := x } } (w.setCell ⟨R, 2, none⟩ (.int .i64 x)) := by
  obtain ⟨vt, vf, vk, hbx, r1, r2, r3⟩ := h.box
  have e0 := heap_setCell_same _ _ 2 _ _ (.int .i64 x) hbx
  simp only [List.setIfInBounds_toArray, List.set_cons_zero, List.set_cons_succ] at e0
  exact ⟨h.fq_set 2 _, h.ord, h.tl, h.row_set 2 _, vt, vf, vk, e0, r1.set (Nat.lt_succ_self _) _, r2.set (Nat.lt_succ_self _) _, r3.set (Nat.lt_succ_self _) _⟩
theorem Hs.setp {w0 w : World} {zs : List Int} {X : Nat × Obj} {R B : Nat} {s : Ps} (h : Hs w0 zs X R B s w) (x : Int) : Hs w0 zs X R B { s with h := { s.h with p := x } } (w.setCell ⟨R, 6, none⟩ (.int .i64 x)) := by
  obtain ⟨vt, vf, vk, hbx, r1, r2, r3⟩ := h.box
  have e0 := heap_setCell_same _ _ 6 _ _ (.int .i64 x) hbx
  simp only [List.setIfInBounds_toArray, List.set_cons_zero, List.set_cons_succ] at e0
  exact ⟨h.fq_set 6 _, h.ord, h.tl, h.row_set 6 _, vt, vf, vk, e0, r1.set (Nat.lt_succ_self _) _, r2.set (Nat.lt_succ_self _) _, r3.set (Nat.lt_succ_self _) _⟩
theorem Hs.setn {w0 w : World} {zs : List Int} {X : Nat × Obj} {R B : Nat} {s : Ps} (h : Hs w0 zs X R B s w) (x : Int) : Hs w0 zs X R B { s with h := { s.h with n := x } } (w.setCell ⟨R, 7, none⟩ (.int .i64 x)) := by
  obtain ⟨vt, vf, vk, hbx, r1, r2, r3⟩ := h.box
  have e0 := heap_setCell_same _ _ 7 _ _ (.int .i64 x) hbx
  simp only [List.setIfInBounds_toArray, List.set_cons_zero, List.set_cons_succ] at e0
  exact ⟨h.fq_set 7 _, h.ord, h.tl, h.row_set 7 _, vt, vf, vk, e0, r1.set (Nat.lt_succ_self _) _, r2.set (Nat.lt_succ_self _) _, r3.set (Nat.lt_succ_self _) _⟩
theorem Hs.setw {w0 w : World} {zs : List Int} {X : Nat × Obj} {R B : Nat} {s : Ps} (h : Hs w0 zs X R B s w) (x : Int) : Hs w0 zs X R B { s with h := { s.h with w := x } } (w.setCell ⟨R, 8, none⟩ (.int .i64 x)) := by
  obtain ⟨vt, vf, vk, hbx, r1, r2, r3⟩ := h.box
  have e0 := heap_setCell_same _ _ 8 _ _ (.int .i64 x) hbx
  simp only [List.setIfInBounds_toArray, List.set_cons_zero, List.set_cons_succ] at e0
  exact ⟨h.fq_set 8 _, h.ord, h.tl, h.row_set 8 _, vt, vf, vk, e0, r1.set (Nat.lt_succ_self _) _, r2.set (Nat.lt_succ_self _) _, r3.set (Nat.lt_succ_self _) _⟩
theorem Hs.sete {w0 w : World} {zs : List Int} {X : Nat × Obj} {R B : Nat} {s : Ps} (h : Hs w0 zs X R B s w) (x : Int) : Hs w0 zs X R B { s with e := x } (w.setCell ⟨R, 9, none⟩ (.int .i64 x)) := by
  obtain ⟨vt, vf, vk, hbx, r1, r2, r3⟩ := h.box
  have e0 := heap_setCell_same _ _ 9 _ _ (.int .i64 x) hbx
  simp only [List.setIfInBounds_toArray, List.set_cons_zero, List.set_cons_succ] at e0
  exact ⟨h.fq_set 9 _, h.ord, h.tl, h.row_set 9 _, vt, vf, vk, e0, r1.set (Nat.lt_succ_self _) _, r2.set (Nat.lt_succ_self _) _, r3.set (Nat.lt_succ_self _) _⟩
theorem Hs.setto {w0 w : World} {zs : List Int} {X : Nat × Obj} {R B : Nat} {s : Ps} (h : Hs w0 zs X R B s w) {x : Value} {l : List Int} (hx : Ra (R + 1) w x l) : Hs w0 zs X R B { s with h := { s.h with to := l } } (w.setCell ⟨R, 3, none⟩ x) := by
  obtain ⟨vt, vf, vk, hbx, r1, r2, r3⟩ := h.box
  have e0 := heap_setCell_same _ _ 3 _ _ x hbx
  simp only [List.setIfInBounds_toArray, List.set_cons_zero, List.set_cons_succ] at e0
  exact ⟨h.fq_set 3 _, h.ord, h.tl, h.row_set 3 _, x, vf, vk, e0, hx.set (Nat.lt_succ_self _) _, r2.set (Nat.lt_succ_self _) _, r3.set (Nat.lt_succ_self _) _⟩
theorem Hs.setfr {w0 w : World} {zs : List Int} {X : Nat × Obj} {R B : Nat} {s : Ps} (h : Hs w0 zs X R B s w) {x : Value} {l : List Int} (hx : Ra (R + 1) w x l) : Hs w0 zs X R B { s with h := { s.h with fr := l } } (w.setCell ⟨R, 4, none⟩ x) := by
  obtain ⟨vt, vf, vk, hbx, r1, r2, r3⟩ := h.box
  have e0 := heap_setCell_same _ _ 4 _ _ x hbx
  simp only [List.setIfInBounds_toArray, List.set_cons_zero, List.set_cons_succ] at e0
  exact ⟨h.fq_set 4 _, h.ord, h.tl, h.row_set 4 _, vt, x, vk, e0, r1.set (Nat.lt_succ_self _) _, hx.set (Nat.lt_succ_self _) _, r3.set (Nat.lt_succ_self _) _⟩
theorem Hs.settk {w0 w : World} {zs : List Int} {X : Nat × Obj} {R B : Nat} {s : Ps} (h : Hs w0 zs X R B s w) {x : Value} {l : List Int} (hx : Ra (R + 1) w x l) : Hs w0 zs X R B { s with h := { s.h with tk := l } } (w.setCell ⟨R, 5, none⟩ x) := by
  obtain ⟨vt, vf, vk, hbx, r1, r2, r3⟩ := h.box
  have e0 := heap_setCell_same _ _ 5 _ _ x hbx
  simp only [List.setIfInBounds_toArray, List.set_cons_zero, List.set_cons_succ] at e0
  exact ⟨h.fq_set 5 _, h.ord, h.tl, h.row_set 5 _, vt, vf, x, e0, r1.set (Nat.lt_succ_self _) _, r2.set (Nat.lt_succ_self _) _, hx.set (Nat.lt_succ_self _) _⟩

/-- A method of the reader does what f says, of these bytes: it goes on, or it panics with the error's number. -/
def DoesAt (zs : List Int) (F : Nat) (f : List Int → Ps → Except Int Ps) : Prop := ∀ (w0 w : World) (X : Nat × Obj) (R B : Nat) (s : Ps), Hs w0 zs X R B s w →
  (∀ s', f zs s = .ok s' → Calls Tryd.prog F #[.pointer (some ⟨R, 0, none⟩)] w fun e w' => e = .returned (.tuple #[]) ∧ Hs w0 zs X R B s' w') ∧
  (∀ k, f zs s = .error k → Calls Tryd.prog F #[.pointer (some ⟨R, 0, none⟩)] w fun e w' => e = errPanic k ∧ Below w0.heap.size w0 w')

theorem Rd.shape3 {w : World} {v : Value} {zs : List Int} (h : Rd w v zs) : ∃ ao n cap, v = .slice ao n cap := by
  obtain ⟨ao, cap, hv, _⟩ := h
  exact ⟨ao, _, cap, hv⟩
theorem out_err {w0 w w' : World} {zs : List Int} {X : Nat × Obj} {R B : Nat} {s : Ps} (h : Hid (Hs w0 zs X R B s w)) (hb : But B w w') : Below w0.heap.size w0 w' := hb.below h.out.fq.bel h.out.fq.lo

set_option maxRecDepth 20000 in
theorem does_shortTo (zs : List Int) : DoesAt zs 35 pShortTo := by
  intro w0 w X R B s h
  obtain ⟨vt, vf, vk, c0, c1, c2, c3, c4, c5, c6, c7, c8, c9, cf⟩ := h.cells
  have H := Lib.hid h
  by_cases hl : (zs.drop s.t).length < 8
  · have hc := bytes_e h.fq 8 (by omega)
    refine ⟨fun s' e => by (unfold pShortTo pBytes at e; rw [if_pos hl] at e; cases e), fun k e => ?_⟩
    have hk : k = 2 := by unfold pShortTo pBytes at e; rw [if_pos hl] at e; cases e; rfl
    subst hk
    clear e hl h c1 c2 c3 c4 c5 c6 c7 c8 c9
    go_enter Tryd.func35, Tryd.ntmps35
    go_wp2_with fail
    refine hc.mono ?_
    rintro e w1 ⟨he, hb⟩
    rw [errPanic] at he
    subst he
    go_wp2_with fail
    exact ⟨rfl, rfl, out_err H hb⟩
  · have hc := bytes_q h.fq 8 (by omega)
    refine ⟨fun s' e => ?_, fun k e => by (unfold pShortTo pBytes at e; rw [if_neg hl] at e; cases e)⟩
    have hs : s' = { s with h := { s.h with to := (zs.drop s.t).take 8 }, t := s.t + 8 } := by unfold pShortTo pBytes at e; rw [if_neg hl] at e; cases e; rfl
    subst hs
    have HL := Lib.hid hl
    clear e hl h c1 c2 c3 c4 c5 c6 c7 c8 c9
    go_enter Tryd.func35, Tryd.ntmps35
    go_wp2_with fail
    refine hc.mono ?_
    rintro e w1 ⟨v, rfl, ⟨hv, _⟩, hF, hb⟩
    have h1 := H.out.took (by have := HL.out; omega) hF hb
    have h2 := h1.setto (hv.mono H.out.lt)
    obtain ⟨ao, n, cap, rfl⟩ := hv.rd.shape3
    obtain ⟨vt, vf, vk, _, _, _, d3, _, _, _, _, _, _, df⟩ := h1.cells
    have H2 := Lib.hid h2
    clear h1 h2 hv hF hb hc c0 cf
    go_wp2_with fail
    go_end0
    exact ⟨rfl, H2.out⟩

/-- atMost: so many bytes, at most so many. -/
theorem atMost_ok {w0 w : World} {zs : List Int} {X : Nat × Obj} {R B : Nat} {s : Ps} (h : Hs w0 zs X R B s w) (m n : Int) (hn : 0 ≤ n) {l : List Int} {t' : Nat} (e : pMost zs m n s.t = .ok (l, t')) :
    Calls Tryd.prog 48 #[.pointer (some ⟨R, 0, none⟩), .int .i64 m, .int .i64 n] w fun e w' => ∃ v, e = .returned v ∧ Ra (R + 1) w' v l ∧ Hs w0 zs X R B { s with t := t' } w' := by
  obtain ⟨vt, vf, vk, c0, _, _, _, _, _, _, _, _, _, _⟩ := h.cells
  have H := Lib.hid h
  unfold pMost at e
  by_cases hm : m < n
  · rw [if_pos hm] at e; cases e
  rw [if_neg hm] at e
  unfold pBytes at e
  by_cases hl : (zs.drop s.t).length < n.toNat
  · rw [if_pos hl] at e; cases e
  rw [if_neg hl] at e
  cases e
  have hd : decide (n ≤ m) = true := decide_eq_true (by omega)
  have hc := bytes_q h.fq n.toNat (by omega)
  rw [Int.toNat_of_nonneg hn] at hc
  have HL := Lib.hid hl
  clear hl hm h
  go_enter Tryd.func48, Tryd.ntmps48
  go_wp2_with fail
  refine (want_yes _ _).mono ?_
  rintro e w1 ⟨rfl, rfl⟩
  go_wp2_with fail
  refine hc.mono ?_
  rintro e w1 ⟨v, rfl, ⟨hv, _⟩, hF, hb⟩
  have H1 := Lib.hid (H.out.took (by have := HL.out; omega) hF hb)
  have HV := Lib.hid (hv.mono H.out.lt)
  clear hv hF hb hc
  go_wp2_with fail
  go_ret
  exact ⟨_, rfl, HV.out, H1.out⟩
theorem atMost_err {w0 w : World} {zs : List Int} {X : Nat × Obj} {R B : Nat} {s : Ps} (h : Hs w0 zs X R B s w) (m n : Int) {k : Int} (e : pMost zs m n s.t = .error k) :
    Calls Tryd.prog 48 #[.pointer (some ⟨R, 0, none⟩), .int .i64 m, .int .i64 n] w fun e w' => e = errPanic k ∧ But B w w' := by
  obtain ⟨vt, vf, vk, c0, _, _, _, _, _, _, _, _, _, _⟩ := h.cells
  unfold pMost at e
  by_cases hm : m < n
  · rw [if_pos hm] at e
    cases e
    have hd : decide (n ≤ m) = false := decide_eq_false (by omega)
    clear hm h
    go_enter Tryd.func48, Tryd.ntmps48
    go_wp2_with fail
    refine (want_no _ _).mono ?_
    rintro e w1 ⟨he, rfl⟩
    rw [errPanic] at he
    subst he
    go_wp2_with fail
    exact ⟨rfl, rfl, But.refl _ _⟩
  rw [if_neg hm] at e
  unfold pBytes at e
  by_cases hl : (zs.drop s.t).length < n.toNat
  · rw [if_pos hl] at e
    cases e
    have hd : decide (n ≤ m) = true := decide_eq_true (by omega)
    have hc := bytes_e h.fq n (by omega)
    clear hl hm h
    go_enter Tryd.func48, Tryd.ntmps48
    go_wp2_with fail
    refine (want_yes _ _).mono ?_
    rintro e w1 ⟨rfl, rfl⟩
    go_wp2_with fail
    refine hc.mono ?_
    rintro e w1 ⟨he, hb⟩
    rw [errPanic] at he
    subst he
    go_wp2_with fail
    exact ⟨rfl, rfl, hb⟩
  · rw [if_neg hl] at e; cases e

/-- Fixed, over what a header's reader has. -/
theorem hfixed_ok {w0 w : World} {zs : List Int} {X : Nat × Obj} {R B : Nat} {s : Ps} (h : Hs w0 zs X R B s w) (n : Nat) (h1 : 1 ≤ n) (h7 : n ≤ 7) {v : Int} {t' : Nat} (e : pFix zs n s.t = .ok (v, t')) :
    Calls Tryd.prog 34 #[.pointer (some ⟨B, 0, none⟩), .int .i64 (n : Int)] w fun e w' => e = .returned (.int .i64 v) ∧ Hs w0 zs X R B { s with t := t' } w' := by
  unfold pFix at e
  by_cases hl : (zs.drop s.t).length < n
  · rw [if_pos hl] at e; cases e
  rw [if_neg hl] at e
  cases e
  refine (fixed_q h.fq n h1 h7 (by omega)).mono ?_
  rintro e w1 ⟨rfl, hF, hb⟩
  exact ⟨rfl, h.took (by omega) hF hb⟩
theorem hfixed_err {w0 w : World} {zs : List Int} {X : Nat × Obj} {R B : Nat} {s : Ps} (h : Hs w0 zs X R B s w) (n : Nat) {k : Int} (e : pFix zs n s.t = .error k) :
    Calls Tryd.prog 34 #[.pointer (some ⟨B, 0, none⟩), .int .i64 (n : Int)] w fun e w' => e = errPanic k ∧ But B w w' := by
  unfold pFix at e
  by_cases hl : (zs.drop s.t).length < n
  · rw [if_pos hl] at e; cases e
    exact fixed_e h.fq n (by omega)
  · rw [if_neg hl] at e; cases e
/-- Number, likewise. -/
theorem hnumber_ok {w0 w : World} {zs : List Int} {X : Nat × Obj} {R B : Nat} {s : Ps} (h : Hs w0 zs X R B s w) (hb : Byt zs) {v : Int} {t' : Nat} (e : pVar zs s.t = .ok (v, t')) :
    (0 ≤ v ∧ v < 4611686018427387904) ∧ Calls Tryd.prog 49 #[.pointer (some ⟨B, 0, none⟩)] w fun e w' => e = .returned (.int .i64 v) ∧ Hs w0 zs X R B { s with t := t' } w' := by
  unfold pVar at e
  by_cases hl : (rd (zs.drop s.t)).2.2 = 0
  · rw [if_pos hl] at e
    cases e
    rcases rd_size (hb.drop s.t) with ⟨_, h2, m, hm, _, _, hml⟩ | ⟨_, _, h3⟩
    · refine ⟨h2, (number_q h.fq (rd (zs.drop s.t)).1 m (by rw [← hm, ← hl]) hml).mono ?_⟩
      rintro e w1 ⟨rfl, hF, hb⟩
      rw [hm, Int.toNat_natCast]
      exact ⟨rfl, h.took hml hF hb⟩
    · omega
  · rw [if_neg hl] at e; cases e
theorem hnumber_err {w0 w : World} {zs : List Int} {X : Nat × Obj} {R B : Nat} {s : Ps} (h : Hs w0 zs X R B s w) (hb : Byt zs) {k : Int} (e : pVar zs s.t = .error k) :
    Calls Tryd.prog 49 #[.pointer (some ⟨B, 0, none⟩)] w fun e w' => e = errPanic k ∧ But B w w' := by
  unfold pVar at e
  by_cases hl : (rd (zs.drop s.t)).2.2 = 0
  · rw [if_pos hl] at e; cases e
  · rw [if_neg hl] at e
    cases e
    rcases rd_size (hb.drop s.t) with ⟨h3, _⟩ | ⟨h1, h2, h3⟩
    · exact absurd h3 hl
    · refine (number_e h.fq (rd (zs.drop s.t)).2.2 (Prod.ext h1 (Prod.ext h2 rfl)) h3).mono ?_
      rintro e w1 ⟨rfl, hb⟩
      refine ⟨?_, hb⟩
      by_cases h4 : (rd (zs.drop s.t)).2.2 = 2
      · rw [if_pos h4, h4]
      · rw [if_neg h4]
#print axioms does_shortTo
#print axioms hnumber_err
end Go.Proofs.YtgnjmmaahpngpaaDoor
