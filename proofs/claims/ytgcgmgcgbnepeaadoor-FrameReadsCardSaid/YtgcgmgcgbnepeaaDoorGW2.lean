/- frame: Right. -/
import Derived.Test.YtgcgmgcgbnepeaaDoorGW1
namespace Go.Proofs.YtgcgmgcgbnepeaaDoor
open Go Go.RowKit

theorem fcells {w : World} {B : Nat} {f : Fv} {sv dv : Value} {T : TypeId} (h : w.heap[B]? = some (.cells (fCells f sv dv) T (0, 0))) :
    w.cell? ⟨B, 0, none⟩ = some (.int .i64 f.k) ∧ w.cell? ⟨B, 1, none⟩ = some (.int .i64 f.c) ∧ w.cell? ⟨B, 2, none⟩ = some sv ∧ w.cell? ⟨B, 3, none⟩ = some (.int .i64 f.a) ∧ w.cell? ⟨B, 4, none⟩ = some dv ∧ w.cell? ⟨B, 5, none⟩ = some (.int .i64 f.t) ∧ (∀ j, w.frozen? ⟨B, j, none⟩ = false) :=
  have c := fun j => cell_of_row w B j _ _ (0, 0) h
  ⟨(c 0).trans rfl, (c 1).trans rfl, (c 2).trans rfl, (c 3).trans rfl, (c 4).trans rfl, (c 5).trans rfl, fun j => by simp [World.frozen?, h]⟩
/-- What Right tells. -/
def RightPost (w : World) (b : Bool) (e : Ending) (w' : World) : Prop := e = .returned (.bool b) ∧ Below w.heap.size w w'
theorem rpost {w w' : World} {a b : Bool} (h : a = b) (hb : Below w.heap.size w w') : RightPost w b (.returned (.bool a)) w' := ⟨by rw [h], hb⟩
theorem box_below {w w1 w2 : World} (o : Obj) (hb : Below (w.alloc o).heap.size (w.alloc o) w1) (h : ∀ b, Below w.heap.size w b → Below w.heap.size w w2 ∨ b ≠ w1) : Below w.heap.size w w2 := by
  have : Below w.heap.size w w1 := (below_alloc w o).trans (hb.mono (by simp))
  rcases h w1 this with h | h
  · exact h
  · exact absurd rfl h
set_option maxRecDepth 20000 in
set_option maxHeartbeats 2000000 in
theorem right_k1 (w : World) (c : Int) (sp : List Sp) (a : Int) (d : List Int) (t : Int) (sa da : Option Addr) (sc dc : Nat)  : Calls Tryd.prog 10 #[fAgg ⟨1, c, sp, a, d, t⟩ (.slice sa sp.length sc) (.slice da d.length dc)] w (RightPost w (rightB ⟨1, c, sp, a, d, t⟩)) := by
  unfold fAgg
  have HR : Hid (rightB ⟨1, c, sp, a, d, t⟩ = bareB ⟨1, c, sp, a, d, t⟩) := Lib.hid (by simp [rightB])
  have hbare := fun w9 => bare_any w9 ⟨1, c, sp, a, d, t⟩ sa da sc dc
  simp only [fAgg] at hbare
  go_enter Tryd.func10, Tryd.ntmps10
  go_wp2_with (go_at_call 24; refine (hbare _).mono ?_; rintro e w9 ⟨rfl, hb9⟩)
  go_ret
  exact rpost (by rw [HR.out]; try simp) ((below_alloc w _).trans (hb9.mono (by simp)))
set_option maxRecDepth 20000 in
set_option maxHeartbeats 2000000 in
theorem right_k30 (w : World) (c : Int) (sp : List Sp) (a : Int) (d : List Int) (t : Int) (sa da : Option Addr) (sc dc : Nat)  : Calls Tryd.prog 10 #[fAgg ⟨30, c, sp, a, d, t⟩ (.slice sa sp.length sc) (.slice da d.length dc)] w (RightPost w (rightB ⟨30, c, sp, a, d, t⟩)) := by
  unfold fAgg
  have HR : Hid (rightB ⟨30, c, sp, a, d, t⟩ = bareB ⟨30, c, sp, a, d, t⟩) := Lib.hid (by simp [rightB])
  have hbare := fun w9 => bare_any w9 ⟨30, c, sp, a, d, t⟩ sa da sc dc
  simp only [fAgg] at hbare
  go_enter Tryd.func10, Tryd.ntmps10
  go_wp2_with (go_at_call 24; refine (hbare _).mono ?_; rintro e w9 ⟨rfl, hb9⟩)
  go_ret
  exact rpost (by rw [HR.out]; try simp) ((below_alloc w _).trans (hb9.mono (by simp)))
set_option maxRecDepth 20000 in
set_option maxHeartbeats 2000000 in
theorem right_k0 (w : World) (c : Int) (sp : List Sp) (a : Int) (d : List Int) (t : Int) (sa da : Option Addr) (sc dc : Nat)  : Calls Tryd.prog 10 #[fAgg ⟨0, c, sp, a, d, t⟩ (.slice sa sp.length sc) (.slice da d.length dc)] w (RightPost w (rightB ⟨0, c, sp, a, d, t⟩)) := by
  unfold fAgg
  have HR : Hid (rightB ⟨0, c, sp, a, d, t⟩ = (decide (1 ≤ c ∧ c ≤ 1200) && bareB ⟨0, 0, sp, a, d, t⟩)) := Lib.hid (by simp [rightB])
  have hbare := fun w9 => bare_any w9 ⟨0, 0, sp, a, d, t⟩ sa da sc dc
  simp only [fAgg] at hbare
  have hset : ∀ o, Below w.heap.size w (w.alloc o) := below_alloc w
  have HSET := Lib.hid hset
  clear hset
  by_cases h1 : 1 ≤ c
  · have e1 : decide (1 ≤ c) = true := decide_eq_true h1
    by_cases h2 : c ≤ 1200
    · have e2 : decide (c ≤ 1200) = true := decide_eq_true h2
      have HX := Lib.hid (decide_eq_true (And.intro h1 h2))
      clear h1 h2
      go_enter Tryd.func10, Tryd.ntmps10
      go_wp2_with (go_at_call 24; refine (hbare _).mono ?_; rintro e w9 ⟨rfl, hb9⟩)
      go_ret
      exact rpost (by rw [HR.out, HX.out]; simp) ((HSET.out _).trans (hb9.mono (HSET.out _).size))
    · have e2 : decide (c ≤ 1200) = false := decide_eq_false h2
      have HX : Hid (decide (1 ≤ c ∧ c ≤ 1200) = false) := Lib.hid (decide_eq_false fun h => h2 h.2)
      clear h1 h2
      go_enter Tryd.func10, Tryd.ntmps10
      go_wp2_with fail
      go_ret
      exact rpost (by rw [HR.out, HX.out]; simp) (HSET.out _)
  · have e1 : decide (1 ≤ c) = false := decide_eq_false h1
    have HX : Hid (decide (1 ≤ c ∧ c ≤ 1200) = false) := Lib.hid (decide_eq_false fun h => h1 h.1)
    clear h1
    go_enter Tryd.func10, Tryd.ntmps10
    go_wp2_with fail
    go_ret
    exact rpost (by rw [HR.out, HX.out]; simp) (HSET.out _)
set_option maxRecDepth 20000 in
set_option maxHeartbeats 2000000 in
theorem right_k2 (w : World) (c : Int) (sp : List Sp) (a : Int) (d : List Int) (t : Int) (sa da : Option Addr) (sc dc : Nat) (hs : Rs w (.slice sa sp.length sc) sp) : Calls Tryd.prog 10 #[fAgg ⟨2, c, sp, a, d, t⟩ (.slice sa sp.length sc) (.slice da d.length dc)] w (RightPost w (rightB ⟨2, c, sp, a, d, t⟩)) := by
  unfold fAgg
  have HR : Hid (rightB ⟨2, c, sp, a, d, t⟩ = (decide (ackP sp) && bareB ⟨2, c, [], a, d, t⟩)) := Lib.hid (by simp [rightB])
  have hbare := fun w9 => bare_any w9 ⟨2, c, [], a, d, t⟩ none da 0 dc
  simp only [fAgg] at hbare
  simp only [List.length_nil] at hbare
  have hX := heap_alloc_new w (.cells #[.int .i64 2, .int .i64 c, .slice sa sp.length sc, .int .i64 a, .slice da d.length dc, .int .i64 t] 29)
  have hsp := rspans_any (hs.below (below_alloc w (.cells #[.int .i64 2, .int .i64 c, .slice sa sp.length sc, .int .i64 a, .slice da d.length dc, .int .i64 t] 29)))
  have HX := Lib.hid hX
  clear hs hX
  by_cases hk : ackP sp
  · have ek : decide (ackP sp) = true := decide_eq_true hk
    rw [ek] at hsp
    have HK := Lib.hid ek
    clear hk ek
    go_enter Tryd.func10, Tryd.ntmps10
    go_wp2_with (first | (go_at_call 21; refine hsp.mono ?_; rintro e w1 ⟨rfl, hb1⟩; obtain ⟨c0, c1, c2, c3, c4, c5, cf⟩ := fcells (f := ⟨2, c, sp, a, d, t⟩) ((hb1.block w.heap.size (by simp)).trans HX.out)) | (go_at_call 24; refine (hbare _).mono ?_; rintro e w9 ⟨rfl, hb9⟩))
    go_ret
    have hbb : Below w.heap.size w (w1.setCell ⟨w.heap.size, 2, none⟩ (.slice none 0 0)) := ((below_alloc w _).trans (hb1.mono (by simp))).setCell (Nat.le_refl _) _
    exact rpost (by rw [HR.out, HK.out]; simp) (hbb.trans (hb9.mono hbb.size))
  · have ek : decide (ackP sp) = false := decide_eq_false hk
    rw [ek] at hsp
    have HK := Lib.hid ek
    clear hk ek
    go_enter Tryd.func10, Tryd.ntmps10
    go_wp2_with (first | (go_at_call 21; refine hsp.mono ?_; rintro e w1 ⟨rfl, hb1⟩; obtain ⟨c0, c1, c2, c3, c4, c5, cf⟩ := fcells (f := ⟨2, c, sp, a, d, t⟩) ((hb1.block w.heap.size (by simp)).trans HX.out)))
    go_ret
    have hbb : Below w.heap.size w (w1.setCell ⟨w.heap.size, 2, none⟩ (.slice none 0 0)) := ((below_alloc w _).trans (hb1.mono (by simp))).setCell (Nat.le_refl _) _
    exact rpost (by rw [HR.out, HK.out]; simp) hbb
set_option maxRecDepth 20000 in
set_option maxHeartbeats 2000000 in
theorem right_k6 (w : World) (c : Int) (sp : List Sp) (a : Int) (d : List Int) (t : Int) (sa da : Option Addr) (sc dc : Nat)  : Calls Tryd.prog 10 #[fAgg ⟨6, c, sp, a, d, t⟩ (.slice sa sp.length sc) (.slice da d.length dc)] w (RightPost w (rightB ⟨6, c, sp, a, d, t⟩)) := by
  unfold fAgg
  have HR : Hid (rightB ⟨6, c, sp, a, d, t⟩ = (decide (0 ≤ a ∧ a ≤ 1048576 ∧ 1 ≤ d.length ∧ d.length ≤ 1000) && bareB ⟨6, c, sp, 0, [], t⟩)) := Lib.hid (by simp [rightB])
  have hbare := fun w9 => bare_any w9 ⟨6, c, sp, 0, [], t⟩ sa none sc 0
  simp only [fAgg] at hbare
  simp only [List.length_nil] at hbare
  have hset : ∀ o, Below w.heap.size w (w.alloc o) := below_alloc w
  have HSET := Lib.hid hset
  clear hset
  have key : ∀ b : Bool, b = decide (0 ≤ a ∧ a ≤ 1048576 ∧ 1 ≤ d.length ∧ d.length ≤ 1000) → Hid (rightB ⟨6, c, sp, a, d, t⟩ = (b && bareB ⟨6, c, sp, 0, [], t⟩)) := fun b h => Lib.hid (by rw [h]; exact HR.out)
  clear HR
  by_cases h0 : 0 ≤ a
  · have e0 : decide (0 ≤ a) = true := decide_eq_true (by omega)
    by_cases h1 : a ≤ 1048576
    · have e1 : decide (a ≤ 1048576) = true := decide_eq_true (by omega)
      by_cases h2 : 1 ≤ d.length
      · have e2 : decide ((1 : Int) ≤ (d.length : Int)) = true := decide_eq_true (by omega)
        by_cases h3 : d.length ≤ 1000
        · have e3 : decide ((d.length : Int) ≤ (1000 : Int)) = true := decide_eq_true (by omega)
          have HR := key true (decide_eq_true ⟨h0, h1, h2, h3⟩).symm
          clear key h0 h1 h2 h3
          go_enter Tryd.func10, Tryd.ntmps10
          go_wp2_with (go_at_call 24; refine (hbare _).mono ?_; rintro e w9 ⟨rfl, hb9⟩)
          go_ret
          exact rpost (by rw [HR.out]; simp) ((HSET.out _).trans (hb9.mono (HSET.out _).size))
        · have e3 : decide ((d.length : Int) ≤ (1000 : Int)) = false := decide_eq_false (by omega)
          have HR := key false (decide_eq_false fun h => h3 (by omega)).symm
          clear key h0 h1 h2 h3
          go_enter Tryd.func10, Tryd.ntmps10
          go_wp2_with fail
          go_ret
          exact rpost (by rw [HR.out]; simp) (HSET.out _)
      · have e2 : decide ((1 : Int) ≤ (d.length : Int)) = false := decide_eq_false (by omega)
        have HR := key false (decide_eq_false fun h => h2 (by omega)).symm
        clear key h0 h1 h2
        go_enter Tryd.func10, Tryd.ntmps10
        go_wp2_with fail
        go_ret
        exact rpost (by rw [HR.out]; simp) (HSET.out _)
    · have e1 : decide (a ≤ 1048576) = false := decide_eq_false (by omega)
      have HR := key false (decide_eq_false fun h => h1 (by omega)).symm
      clear key h0 h1
      go_enter Tryd.func10, Tryd.ntmps10
      go_wp2_with fail
      go_ret
      exact rpost (by rw [HR.out]; simp) (HSET.out _)
  · have e0 : decide (0 ≤ a) = false := decide_eq_false (by omega)
    have HR := key false (decide_eq_false fun h => h0 (by omega)).symm
    clear key h0
    go_enter Tryd.func10, Tryd.ntmps10
    go_wp2_with fail
    go_ret
    exact rpost (by rw [HR.out]; simp) (HSET.out _)
set_option maxRecDepth 20000 in
set_option maxHeartbeats 2000000 in
theorem right_k7 (w : World) (c : Int) (sp : List Sp) (a : Int) (d : List Int) (t : Int) (sa da : Option Addr) (sc dc : Nat)  : Calls Tryd.prog 10 #[fAgg ⟨7, c, sp, a, d, t⟩ (.slice sa sp.length sc) (.slice da d.length dc)] w (RightPost w (rightB ⟨7, c, sp, a, d, t⟩)) := by
  unfold fAgg
  have HR : Hid (rightB ⟨7, c, sp, a, d, t⟩ = (tmB t && bareB ⟨7, c, sp, a, d, 0⟩)) := Lib.hid (by simp [rightB])
  have hbare := fun w9 => bare_any w9 ⟨7, c, sp, a, d, 0⟩ sa da sc dc
  simp only [fAgg] at hbare
  have HX := Lib.hid (heap_alloc_new w (.cells #[.int .i64 7, .int .i64 c, .slice sa sp.length sc, .int .i64 a, .slice da d.length dc, .int .i64 t] 29))
  have hq := fun w1 => gister_any t w1
  by_cases hk : tmB t = true
  · have ek := hk
    rw [ek] at hq
    have HK := Lib.hid ek
    clear hk ek
    go_enter Tryd.func10, Tryd.ntmps10
    go_wp2_with (first | (go_at_call 22; refine (hq _).mono ?_; rintro e w1 ⟨rfl, hb1⟩; obtain ⟨c0, c1, c2, c3, c4, c5, cf⟩ := fcells (f := ⟨7, c, sp, a, d, t⟩) ((hb1.block w.heap.size (by simp)).trans HX.out)) | (go_at_call 24; refine (hbare _).mono ?_; rintro e w9 ⟨rfl, hb9⟩))
    go_ret
    have hbb : Below w.heap.size w (w1.setCell ⟨w.heap.size, 5, none⟩ (.int .i64 0)) := ((below_alloc w _).trans (hb1.mono (by simp))).setCell (Nat.le_refl _) _
    exact rpost (by rw [HR.out, HK.out]; simp) (hbb.trans (hb9.mono hbb.size))
  · have ek : tmB t = false := by simpa using hk
    rw [ek] at hq
    have HK := Lib.hid ek
    clear hk ek
    go_enter Tryd.func10, Tryd.ntmps10
    go_wp2_with (go_at_call 22; refine (hq _).mono ?_; rintro e w1 ⟨rfl, hb1⟩; obtain ⟨c0, c1, c2, c3, c4, c5, cf⟩ := fcells (f := ⟨7, c, sp, a, d, t⟩) ((hb1.block w.heap.size (by simp)).trans HX.out))
    go_ret
    have hbb : Below w.heap.size w (w1.setCell ⟨w.heap.size, 5, none⟩ (.int .i64 0)) := ((below_alloc w _).trans (hb1.mono (by simp))).setCell (Nat.le_refl _) _
    exact rpost (by rw [HR.out, HK.out]; simp) hbb
set_option maxRecDepth 20000 in
set_option maxHeartbeats 2000000 in
theorem right_k28 (w : World) (c : Int) (sp : List Sp) (a : Int) (d : List Int) (t : Int) (sa da : Option Addr) (sc dc : Nat)  : Calls Tryd.prog 10 #[fAgg ⟨28, c, sp, a, d, t⟩ (.slice sa sp.length sc) (.slice da d.length dc)] w (RightPost w (rightB ⟨28, c, sp, a, d, t⟩)) := by
  unfold fAgg
  have HR : Hid (rightB ⟨28, c, sp, a, d, t⟩ = (nmB c && bareB ⟨28, 0, sp, a, d, t⟩)) := Lib.hid (by simp [rightB])
  have hbare := fun w9 => bare_any w9 ⟨28, 0, sp, a, d, t⟩ sa da sc dc
  simp only [fAgg] at hbare
  have HX := Lib.hid (heap_alloc_new w (.cells #[.int .i64 28, .int .i64 c, .slice sa sp.length sc, .int .i64 a, .slice da d.length dc, .int .i64 t] 29))
  have hq := fun w1 => gisnum_any c w1
  by_cases hk : nmB c = true
  · have ek := hk
    rw [ek] at hq
    have HK := Lib.hid ek
    clear hk ek
    go_enter Tryd.func10, Tryd.ntmps10
    go_wp2_with (first | (go_at_call 23; refine (hq _).mono ?_; rintro e w1 ⟨rfl, rfl⟩) | (go_at_call 24; refine (hbare _).mono ?_; rintro e w9 ⟨rfl, hb9⟩))
    go_ret
    have hbb := fun o => below_alloc w o
    exact rpost (by rw [HR.out, HK.out]; simp) ((hbb _).trans (hb9.mono (hbb _).size))
  · have ek : nmB c = false := by simpa using hk
    rw [ek] at hq
    have HK := Lib.hid ek
    clear hk ek
    go_enter Tryd.func10, Tryd.ntmps10
    go_wp2_with (go_at_call 23; refine (hq _).mono ?_; rintro e w1 ⟨rfl, rfl⟩)
    go_ret
    have hbb := fun o => below_alloc w o
    exact rpost (by rw [HR.out, HK.out]; simp) (hbb _)
set_option maxRecDepth 20000 in
set_option maxHeartbeats 2000000 in
theorem right_k8 (w : World) (c : Int) (sp : List Sp) (a : Int) (d : List Int) (t : Int) (sa da : Option Addr) (sc dc : Nat)  : Calls Tryd.prog 10 #[fAgg ⟨8, c, sp, a, d, t⟩ (.slice sa sp.length sc) (.slice da d.length dc)] w (RightPost w (rightB ⟨8, c, sp, a, d, t⟩)) := by
  unfold fAgg
  have HR : Hid (rightB ⟨8, c, sp, a, d, t⟩ = ((nmB c && tmB t) && bareB ⟨8, 0, sp, a, d, 0⟩)) := Lib.hid (by simp [rightB])
  have hbare := fun w9 => bare_any w9 ⟨8, 0, sp, a, d, 0⟩ sa da sc dc
  simp only [fAgg] at hbare
  have HX := Lib.hid (heap_alloc_new w (.cells #[.int .i64 8, .int .i64 c, .slice sa sp.length sc, .int .i64 a, .slice da d.length dc, .int .i64 t] 29))
  have hq := fun w1 => gister_any t w1
  have hn := fun w1 => gisnum_any c w1
  by_cases hc : nmB c = true
  · rw [hc] at hn
    have HC := Lib.hid hc
    clear hc
    by_cases hk : tmB t = true
    · rw [hk] at hq
      have HK := Lib.hid hk
      clear hk
      go_enter Tryd.func10, Tryd.ntmps10
      go_wp2_with (first | (go_at_call 23; refine (hn _).mono ?_; rintro e w0 ⟨rfl, rfl⟩) | (go_at_call 22; refine (hq _).mono ?_; rintro e w1 ⟨rfl, hb1⟩; obtain ⟨c0, c1, c2, c3, c4, c5, cf⟩ := fcells (f := ⟨8, c, sp, a, d, t⟩) ((hb1.block w.heap.size (by simp)).trans HX.out)) | (go_at_call 24; refine (hbare _).mono ?_; rintro e w9 ⟨rfl, hb9⟩))
      go_ret
      have hbb : Below w.heap.size w ((w1.setCell ⟨w.heap.size, 1, none⟩ (.int .i64 0)).setCell ⟨w.heap.size, 5, none⟩ (.int .i64 0)) := (((below_alloc w _).trans (hb1.mono (by simp))).setCell (Nat.le_refl _) _).setCell (Nat.le_refl _) _
      exact rpost (by rw [HR.out, HC.out, HK.out]; simp) (hbb.trans (hb9.mono hbb.size))
    · have ek : tmB t = false := by simpa using hk
      rw [ek] at hq
      have HK := Lib.hid ek
      clear hk ek
      go_enter Tryd.func10, Tryd.ntmps10
      go_wp2_with (first | (go_at_call 23; refine (hn _).mono ?_; rintro e w0 ⟨rfl, rfl⟩) | (go_at_call 22; refine (hq _).mono ?_; rintro e w1 ⟨rfl, hb1⟩; obtain ⟨c0, c1, c2, c3, c4, c5, cf⟩ := fcells (f := ⟨8, c, sp, a, d, t⟩) ((hb1.block w.heap.size (by simp)).trans HX.out)))
      go_ret
      have hbb : Below w.heap.size w ((w1.setCell ⟨w.heap.size, 1, none⟩ (.int .i64 0)).setCell ⟨w.heap.size, 5, none⟩ (.int .i64 0)) := (((below_alloc w _).trans (hb1.mono (by simp))).setCell (Nat.le_refl _) _).setCell (Nat.le_refl _) _
      exact rpost (by rw [HR.out, HC.out, HK.out]; simp) hbb
  · have ec : nmB c = false := by simpa using hc
    rw [ec] at hn
    have HC := Lib.hid ec
    clear hc ec
    go_enter Tryd.func10, Tryd.ntmps10
    go_wp2_with (go_at_call 23; refine (hn _).mono ?_; rintro e w0 ⟨rfl, rfl⟩)
    go_ret
    exact rpost (by rw [HR.out, HC.out]; simp) (below_alloc w _)
set_option maxRecDepth 20000 in
set_option maxHeartbeats 2000000 in
theorem right_kx (w : World) (k : Int) (c : Int) (sp : List Sp) (a : Int) (d : List Int) (t : Int) (sa da : Option Addr) (sc dc : Nat)  (n0 : k ≠ 0) (n1 : k ≠ 1) (n30 : k ≠ 30) (n2 : k ≠ 2) (n6 : k ≠ 6) (n7 : k ≠ 7) (n8 : k ≠ 8) (n28 : k ≠ 28) : Calls Tryd.prog 10 #[fAgg ⟨k, c, sp, a, d, t⟩ (.slice sa sp.length sc) (.slice da d.length dc)] w (RightPost w (rightB ⟨k, c, sp, a, d, t⟩)) := by
  unfold fAgg
  have HR : Hid (rightB ⟨k, c, sp, a, d, t⟩ = false) := Lib.hid (by simp [rightB, n0, n1, n30, n2, n6, n7, n8, n28])
  have f0 : (k == 0) = false := beq_eq_false_iff_ne.2 n0
  have f1 : (k == 1) = false := beq_eq_false_iff_ne.2 n1
  have f30 : (k == 30) = false := beq_eq_false_iff_ne.2 n30
  have f2 : (k == 2) = false := beq_eq_false_iff_ne.2 n2
  have f6 : (k == 6) = false := beq_eq_false_iff_ne.2 n6
  have f7 : (k == 7) = false := beq_eq_false_iff_ne.2 n7
  have f8 : (k == 8) = false := beq_eq_false_iff_ne.2 n8
  have f28 : (k == 28) = false := beq_eq_false_iff_ne.2 n28
  clear n0 n1 n30 n2 n6 n7 n8 n28
  go_enter Tryd.func10, Tryd.ntmps10
  go_wp2_with fail
  go_ret
  exact rpost HR.out.symm (below_alloc w _)
theorem right_any {w : World} {f : Fv} {sv dv : Value} (hs : Rs w sv f.sp) (hd : ∃ a c, dv = .slice a f.d.length c) : Calls Tryd.prog 10 #[fAgg f sv dv] w (RightPost w (rightB f)) := by
  obtain ⟨k, c, sp, a, d, t⟩ := f
  obtain ⟨sa, sc, rfl⟩ := rs_shape hs
  obtain ⟨da, dc, rfl⟩ := hd
  by_cases n0 : k = 0
  · subst n0; exact right_k0 w c sp a d t sa da sc dc
  by_cases n1 : k = 1
  · subst n1; exact right_k1 w c sp a d t sa da sc dc
  by_cases n30 : k = 30
  · subst n30; exact right_k30 w c sp a d t sa da sc dc
  by_cases n2 : k = 2
  · subst n2; exact right_k2 w c sp a d t sa da sc dc hs
  by_cases n6 : k = 6
  · subst n6; exact right_k6 w c sp a d t sa da sc dc
  by_cases n7 : k = 7
  · subst n7; exact right_k7 w c sp a d t sa da sc dc
  by_cases n8 : k = 8
  · subst n8; exact right_k8 w c sp a d t sa da sc dc
  by_cases n28 : k = 28
  · subst n28; exact right_k28 w c sp a d t sa da sc dc
  exact right_kx w k c sp a d t sa da sc dc n0 n1 n30 n2 n6 n7 n8 n28
#print axioms right_any
end Go.Proofs.YtgcgmgcgbnepeaaDoor
