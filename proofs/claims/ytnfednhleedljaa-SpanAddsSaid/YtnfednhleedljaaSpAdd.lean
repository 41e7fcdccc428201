/- The program's set in memory: keep, Add. -/
import Derived.Test.YtnfednhleedljaaSpCat
import Derived.StillTailTactics
import Derived.Deep.RegionWith
namespace Go.Proofs.Ytnfednhleedljaa
open Go Go.RowKit

theorem set_one {w : World} {B : Nat} {T : TypeId} {a b : Value} (h : w.heap[B]? = some (.cells #[a, b] T (0, 0))) (x : Value) : (w.setCell ⟨B, 1, none⟩ x).heap[B]? = some (.cells #[a, x] T (0, 0)) := by
  have e := heap_setCell_same w B 1 _ T x h
  simpa using e
theorem set_zero {w : World} {B : Nat} {T : TypeId} {a b : Value} (h : w.heap[B]? = some (.cells #[a, b] T (0, 0))) (x : Value) : (w.setCell ⟨B, 0, none⟩ x).heap[B]? = some (.cells #[x, b] T (0, 0)) := by
  have e := heap_setCell_same w B 0 _ T x h
  simpa using e
/-- Behind keep: the set has these spans and this floor, and nothing else has changed. -/
def Kept (w : World) (B : Nat) (l : List Sp) (f : Int) (w' : World) : Prop := Sn w' B (keepS l f) ∧ But B w w'
theorem kept_short {w : World} {B : Nat} {v v0 : Value} {l : List Sp} {f : Int} (hbx : w.heap[B]? = some (.cells #[v0, .int .i64 f] 26 (0, 0))) (hr : Rs w v l) (hv : v.ownBlock ≠ some B) (hw : WF l) (hl : l.length ≤ 32) (h0 : 0 < l.length) (hf : 0 ≤ f ∧ f ≤ 4611686018427387904) :
    Kept w B l f (w.setCell ⟨B, 0, none⟩ v) := by
  refine ⟨?_, But.set _ _ _ _⟩
  have e : keepS l f = (l, f) := by unfold keepS; rw [if_neg (by omega)]
  rw [e]
  exact ⟨⟨hw, hl, hf.1, hf.2⟩, v, set_zero hbx v, hr.but (But.set _ _ _ _) fun _ => hv, fun _ => hv, fun h => by simp only at h; rw [h] at h0; simp at h0⟩
theorem kept_long {w : World} {B b off cap : Nat} {v0 : Value} {l : List Sp} {f x y : Int} (hbx : w.heap[B]? = some (.cells #[v0, .int .i64 f] 26 (0, 0))) (hr : Rs w (.slice (some ⟨b, off, none⟩) l.length cap) l) (hv : b ≠ B) (hw : WF l) (hl : l.length = 33) (hf : 0 ≤ f ∧ f ≤ 4611686018427387904)
    (hx : (l.getD 32 (0, 0)).2 = y) :
    Kept w B l f (((w.setCell ⟨B, 1, none⟩ (.int .i64 (y + 1))).setCell ⟨B, 0, none⟩ (.slice (some ⟨b, off, none⟩) 32 cap)).alloc (.cells #[.int .i64 x, .int .i64 y] 44)) := by
  have hlt := blk_lt hbx
  have hbx2 := set_zero (set_one hbx (.int .i64 (y + 1))) (.slice (some ⟨b, off, none⟩) 32 cap)
  have hbut2 : But B w ((w.setCell ⟨B, 1, none⟩ (.int .i64 (y + 1))).setCell ⟨B, 0, none⟩ (.slice (some ⟨b, off, none⟩) 32 cap)) :=
    (But.set _ _ _ _).trans (But.set _ _ _ _)
  have hr2 := (hr.take 32 (by omega)).but hbut2 fun _ => by simpa [Value.ownBlock] using hv
  generalize (w.setCell ⟨B, 1, none⟩ (.int .i64 (y + 1))).setCell ⟨B, 0, none⟩ (.slice (some ⟨b, off, none⟩) 32 cap) = w2 at *
  have hbel := below_alloc w2 (.cells #[.int .i64 x, .int .i64 y] 44)
  have hbut := hbut2.trans (But.of_below (B := B) hbel)
  have e1 : (keepS l f).1 = l.take 32 := by unfold keepS; rw [if_pos (by omega)]
  have e2 : (keepS l f).2 = y + 1 := by unfold keepS; rw [if_pos (by omega), ← hx]
  refine ⟨⟨OkS.keep hw (by omega) hf.1 hf.2, .slice (some ⟨b, off, none⟩) 32 cap, ?_, ?_, ?_, ?_⟩, hbut⟩
  · rw [e2, hbel.block B (blk_lt hbx2)]
    exact hbx2
  · rw [e1]
    exact hr2.below hbel
  · intro _; simpa [Value.ownBlock] using hv
  · intro h
    rw [e1] at h
    have := congrArg List.length h
    simp [hl] at this
set_option maxHeartbeats 1000000 in
theorem keep_any {w : World} {B : Nat} {v v0 : Value} {l : List Sp} {f : Int} (hbx : w.heap[B]? = some (.cells #[v0, .int .i64 f] 26 (0, 0))) (hr : Rs w v l) (hv : v.ownBlock ≠ some B) (hw : WF l) (hl : l.length ≤ 33) (h0 : 0 < l.length) (hf : 0 ≤ f ∧ f ≤ 4611686018427387904) :
    Calls Try.prog 19 #[.pointer (some ⟨B, 0, none⟩), v] w fun e w' => e = .returned (.tuple #[]) ∧ Kept w B l f w' := by
  rcases hr.cases with ⟨rfl, _⟩ | ⟨b, off, cap, rfl, _, h2, h3, h4, h5⟩
  · simp at h0
  have hfz : w.frozen? ⟨B, 0, none⟩ = false := by simp [World.frozen?, hbx]
  have hfz1 : w.frozen? ⟨B, 1, none⟩ = false := by simp [World.frozen?, hbx]
  have hc0 : w.cell? ⟨B, 0, none⟩ = some v0 := (cell_of_row _ B 0 _ _ (0, 0) hbx).trans rfl
  have hc1 : w.cell? ⟨B, 1, none⟩ = some (.int .i64 f) := (cell_of_row _ B 1 _ _ (0, 0) hbx).trans rfl
  have hB := blk_lt hbx
  by_cases h33 : l.length = 33
  · have hk := fun x y => kept_long (x := x) (y := y) hbx hr (by simpa [Value.ownBlock] using hv) hw h33 hf
    have hx := h5 32 (by omega)
    have hy : 0 ≤ (l.getD 32 (0, 0)).2 ∧ (l.getD 32 (0, 0)).2 ≤ 4611686018427387903 := by
      have hm : l.getD 32 (0, 0) ∈ l := by
        have : l.getD 32 (0, 0) = l[32] := by simp [h33]
        rw [this]; exact List.getElem_mem _
      have := hw.2 _ hm
      omega
    have HK := Lib.hid (hk (l.getD 32 (0, 0)).1 (l.getD 32 (0, 0)).2 rfl)
    have H33 := Lib.hid h33
    clear hk h5 hr hbx
    rw [h33] at h2 ⊢
    generalize (l.getD 32 (0, 0)).1 = x at *
    generalize (l.getD 32 (0, 0)).2 = y at *
    clear h33
    go_enter Try.func19, Try.ntmps19
    go_wp2_with fail
    go_end0
    exact ⟨rfl, HK.out⟩
  · have hk := kept_short hbx hr hv hw (by omega) h0 hf
    have HK := Lib.hid hk
    have hl' : (l.length : Int) ≤ 32 := by omega
    clear hk h5 hr hbx h33
    go_enter Try.func19, Try.ntmps19
    go_wp2_with fail
    go_end0
    exact ⟨rfl, HK.out⟩

theorem size_no (n : Int) (h : n < 0 ∨ 4611686018427387903 < n) (w : World) : Calls Try.prog 17 #[.int .i64 n] w fun e w' => e = .returned (.int .i64 0) ∧ w = w' := by
  by_cases h0 : n < 0
  · clear h
    go_enter Try.func17, Try.ntmps17
    go_wp2_with fail
    go_ret
    exact ⟨rfl, rfl⟩
  · have h1 : 4611686018427387904 ≤ n := by omega
    clear h
    go_enter Try.func17, Try.ntmps17
    go_wp2_with fail
    go_ret
    exact ⟨rfl, rfl⟩
theorem size_yes (n : Int) (h0 : 0 ≤ n) (h1 : n ≤ 4611686018427387903) (w : World) : Calls Try.prog 17 #[.int .i64 n] w fun e w' => ∃ z : Int, e = .returned (.int .i64 z) ∧ (z == 0) = false ∧ w = w' := by
  have h2 : ¬ 4611686018427387904 ≤ n := by omega
  have h3 : ¬ n < 0 := by omega
  by_cases c1 : n < 64
  · go_enter Try.func17, Try.ntmps17
    go_wp2_with fail
    go_ret
    exact ⟨_, rfl, by decide, rfl⟩
  by_cases c2 : n < 16384
  · go_enter Try.func17, Try.ntmps17
    go_wp2_with fail
    go_ret
    exact ⟨_, rfl, by decide, rfl⟩
  by_cases c3 : n < 1073741824
  · go_enter Try.func17, Try.ntmps17
    go_wp2_with fail
    go_ret
    exact ⟨_, rfl, by decide, rfl⟩
  · go_enter Try.func17, Try.ntmps17
    go_wp2_with fail
    go_ret
    exact ⟨_, rfl, by decide, rfl⟩
/-- A number that is not added. -/
theorem add_no {w : World} {B : Nat} {s : Set0} (h : Sn w B s) (n : Int) (hb : okB s n = false) : Calls Try.prog 7 #[.pointer (some ⟨B, 0, none⟩), .int .i64 n] w fun e w' => e = .returned (.bool false) ∧ Below w.heap.size w w' := by
  obtain ⟨_, c1, _⟩ := h.cells
  have hh := has_any h n
  by_cases h0 : n < 0 ∨ 4611686018427387903 < n
  · have hs := size_no n h0
    clear hb h h0 hh
    go_enter Try.func7, Try.ntmps7
    go_wp2_with (go_at_call 17; refine (hs _).mono ?_; rintro e w' ⟨rfl, rfl⟩)
    go_ret
    exact ⟨rfl, Below.refl _ _⟩
  have hs := size_yes n (by omega) (by omega)
  by_cases h1 : n < s.2
  · clear hb h h0 hh
    go_enter Try.func7, Try.ntmps7
    go_wp2_with (go_at_call 17; refine (hs _).mono ?_; rintro e w' ⟨z, rfl, hz, rfl⟩)
    go_ret
    exact ⟨rfl, Below.refl _ _⟩
  · have h2 : hasB s.1 n = true := by
      cases hc : hasB s.1 n with
      | true => rfl
      | false => have := okB_iff.2 (⟨by omega, by omega, by omega, hc⟩ : 0 ≤ n ∧ n ≤ 4611686018427387903 ∧ s.2 ≤ n ∧ hasB s.1 n = false); rw [this] at hb; cases hb
    rw [h2] at hh
    clear hb h h0 h2
    go_enter Try.func7, Try.ntmps7
    go_wp2_with (first | (go_at_call 17; refine (hs _).mono ?_; rintro e w' ⟨z, rfl, hz, rfl⟩) | (go_at_call 13; refine hh.mono ?_; rintro e w' ⟨rfl, hbel⟩))
    go_ret
    exact ⟨rfl, hbel⟩
theorem add_nil (n : Int) (w : World) : Calls Try.prog 7 #[.pointer none, .int .i64 n] w fun e w' => e = .returned (.bool false) ∧ w = w' := by
  go_enter Try.func7, Try.ntmps7
  go_wp2_with fail
  go_ret
  exact ⟨rfl, rfl⟩
end Go.Proofs.Ytnfednhleedljaa
