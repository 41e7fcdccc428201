/- header.Read: its deferred function: it takes a panic of an error's number, and lays the results; behind a return it does nothing. -/
import Derived.Test.YtgnjmmaahpngpaaDoorHFirst
import Derived.Test.YtgnjmmaahpngpaaDoorOf
import Derived.Defers
import Derived.Recover
namespace Go.Proofs.YtgnjmmaahpngpaaDoor
open Go Go.RowKit

theorem assert_errno (k : Int) (w : World) : (Instr.typeAssert (.iface 33 (.int .i64 k)) 20 33 false).run Tryd.prog w = .ok (.int .i64 k) w := by
  kernel_rfl
/-- Four boxes, one behind the other, for a header, two numbers, an error's number. -/
structure Boxes (H : Nat) (w : World) : Prop where
  h : Y8 H w
  s : ∃ v, w.heap[H + 1]? = some (.cells #[v] 3 (0, 0))
  e : ∃ v, w.heap[H + 2]? = some (.cells #[v] 3 (0, 0))
  x : ∃ v, w.heap[H + 3]? = some (.cells #[v] 33 (0, 0))

/-- What the four boxes hold. -/
structure Laid (H : Nat) (cs : Array Value) (s e x : Value) (w : World) : Prop where
  h : w.heap[H]? = some (.cells cs 29 (0, 0))
  s : w.heap[H + 1]? = some (.cells #[s] 3 (0, 0))
  e : w.heap[H + 2]? = some (.cells #[e] 3 (0, 0))
  x : w.heap[H + 3]? = some (.cells #[x] 33 (0, 0))
theorem set_row1 {w : World} {B : Nat} {T : TypeId} {v0 : Value} (h : w.heap[B]? = some (.cells #[v0] T (0, 0))) (v : Value) : (w.setCell ⟨B, 0, none⟩ v).heap[B]? = some (.cells #[v] T (0, 0)) := by
  have e := heap_setCell_same w B 0 _ T v h
  simpa using e
theorem set_keep {w : World} {B G i : Nat} {o : Option Obj} (hne : B ≠ G) (h : w.heap[B]? = o) (v : Value) : (w.setCell ⟨G, i, none⟩ v).heap[B]? = o := by
  rw [Below.heap_setCell w ⟨G, i, none⟩ v B hne]; exact h
theorem laid_of {w : World} {H : Nat} (hb : Boxes H w) (c0 c1 c2 c3 c4 c5 c6 c7 s e x : Value) :
    Laid H #[c0, c1, c2, c3, c4, c5, c6, c7] s e x ((((((((((((w.setCell ⟨H, 0, none⟩ c0).setCell ⟨H, 1, none⟩ c1).setCell ⟨H, 2, none⟩ c2).setCell ⟨H, 3, none⟩ c3).setCell ⟨H, 4, none⟩ c4).setCell ⟨H, 5, none⟩ c5).setCell ⟨H, 6, none⟩ c6).setCell ⟨H, 7, none⟩ c7).setCell ⟨H + 1, 0, none⟩ s).setCell ⟨H + 2, 0, none⟩ e).setCell ⟨H + 3, 0, none⟩ x).drew) ∧
    Below H w ((((((((((((w.setCell ⟨H, 0, none⟩ c0).setCell ⟨H, 1, none⟩ c1).setCell ⟨H, 2, none⟩ c2).setCell ⟨H, 3, none⟩ c3).setCell ⟨H, 4, none⟩ c4).setCell ⟨H, 5, none⟩ c5).setCell ⟨H, 6, none⟩ c6).setCell ⟨H, 7, none⟩ c7).setCell ⟨H + 1, 0, none⟩ s).setCell ⟨H + 2, 0, none⟩ e).setCell ⟨H + 3, 0, none⟩ x).drew) := by
  obtain ⟨hh, ⟨vs, hs⟩, ⟨ve, he⟩, ⟨vx, hx⟩⟩ := hb
  have h0 := chain_row (c0 := c0) (c1 := c1) (c2 := c2) (c3 := c3) (c4 := c4) (c5 := c5) (c6 := c6) (c7 := c7) hh
  have key : ∀ (g : Nat) (o : Option Obj), g ≠ H → w.heap[g]? = o → (((((((((w.setCell ⟨H, 0, none⟩ c0).setCell ⟨H, 1, none⟩ c1).setCell ⟨H, 2, none⟩ c2).setCell ⟨H, 3, none⟩ c3).setCell ⟨H, 4, none⟩ c4).setCell ⟨H, 5, none⟩ c5).setCell ⟨H, 6, none⟩ c6).setCell ⟨H, 7, none⟩ c7)).heap[g]? = o := fun g o hg h =>
    set_keep hg (set_keep hg (set_keep hg (set_keep hg (set_keep hg (set_keep hg (set_keep hg (set_keep hg h _) _) _) _) _) _) _) _
  have hB8 : Below H w ((((((((w.setCell ⟨H, 0, none⟩ c0).setCell ⟨H, 1, none⟩ c1).setCell ⟨H, 2, none⟩ c2).setCell ⟨H, 3, none⟩ c3).setCell ⟨H, 4, none⟩ c4).setCell ⟨H, 5, none⟩ c5).setCell ⟨H, 6, none⟩ c6).setCell ⟨H, 7, none⟩ c7) :=
    ((((((((Below.refl H w).setCell (p := ⟨H, 0, none⟩) (Nat.le_refl _) c0).setCell (p := ⟨H, 1, none⟩) (Nat.le_refl _) c1).setCell (p := ⟨H, 2, none⟩) (Nat.le_refl _) c2).setCell (p := ⟨H, 3, none⟩) (Nat.le_refl _) c3).setCell (p := ⟨H, 4, none⟩) (Nat.le_refl _) c4).setCell (p := ⟨H, 5, none⟩) (Nat.le_refl _) c5).setCell (p := ⟨H, 6, none⟩) (Nat.le_refl _) c6).setCell (p := ⟨H, 7, none⟩) (Nat.le_refl _) c7
  have k1 := key (H + 1) _ (by omega) hs
  have k2 := key (H + 2) _ (by omega) he
  have k3 := key (H + 3) _ (by omega) hx
  clear key hh hs he hx
  generalize ((((((((w.setCell ⟨H, 0, none⟩ c0).setCell ⟨H, 1, none⟩ c1).setCell ⟨H, 2, none⟩ c2).setCell ⟨H, 3, none⟩ c3).setCell ⟨H, 4, none⟩ c4).setCell ⟨H, 5, none⟩ c5).setCell ⟨H, 6, none⟩ c6).setCell ⟨H, 7, none⟩ c7) = w8 at *
  have s1 := set_row1 k1 s
  have e1 := set_row1 (set_keep (G := H + 1) (i := 0) (by omega) k2 s) e
  have x1 := set_row1 (set_keep (G := H + 2) (i := 0) (by omega) (set_keep (G := H + 1) (i := 0) (by omega) k3 s) e) x
  exact ⟨⟨set_keep (by omega) (set_keep (by omega) (set_keep (by omega) h0 s) e) x, set_keep (by omega) (set_keep (by omega) s1 e) x, set_keep (by omega) e1 x, x1⟩,
    (((hB8.setCell (p := ⟨H + 1, 0, none⟩) (Nat.le_add_right _ _) s).setCell (p := ⟨H + 2, 0, none⟩) (Nat.le_add_right _ _) e).setCell (p := ⟨H + 3, 0, none⟩) (Nat.le_add_right _ _) x).drew⟩
/-- A header that is none. -/
def zcells : Array Value := #[.int .i64 0, .int .i64 0, .slice none 0 0, .slice none 0 0, .slice none 0 0, .int .i64 0, .int .i64 0, .int .i64 0]

set_option maxRecDepth 20000 in
set_option maxHeartbeats 2000000 in
theorem catch_idle (H : Nat) (w : World) :
    CallsD Tryd.prog 26 #[.pointer (some ⟨H, 0, none⟩), .pointer (some ⟨H + 1, 0, none⟩), .pointer (some ⟨H + 2, 0, none⟩), .pointer (some ⟨H + 3, 0, none⟩)] .returning w fun e u' w' => e = .returned (.tuple #[]) ∧ u' = .returning ∧ w = w' := by
  refine callsD_of_wpS Tryd.func26 rfl fun c₀ cs hu => ?_
  apply wpS_seq
  apply wpS_region
  simp [wpOpsS, go_sem, recoverD, hu, Tryd.ntmps26, Exit.thenS]
  apply wpS_seq
  apply wpS_region
  simp [wpOpsS, go_sem, Exit.thenS]
  refine wpS_cond (t := false) (by simp [Act.eval, Array.replicate]) ?_
  simp only [Bool.false_eq_true, if_false]
  refine wpS_of_wp (wp_skip ?_)
  cases c₀
  simp_all [bodyPostS, results, Tryd.results26]

set_option maxRecDepth 20000 in
set_option maxHeartbeats 2000000 in
theorem catch_panicking (H : Nat) (w : World) (k : Int) (hb : Boxes H w) :
    CallsD Tryd.prog 26 #[.pointer (some ⟨H, 0, none⟩), .pointer (some ⟨H + 1, 0, none⟩), .pointer (some ⟨H + 2, 0, none⟩), .pointer (some ⟨H + 3, 0, none⟩)] (.panicking [{ v := .iface 33 (.int .i64 k), recovered := false }]) w fun e u' w' => e = .returned (.tuple #[]) ∧ u' = .panicking [{ v := .iface 33 (.int .i64 k), recovered := true }] ∧ Laid H zcells (.int .i64 0) (.int .i64 0) (.int .i64 k) w' ∧ Below H w w' := by
  have HL := Lib.hid (laid_of hb (.int .i64 0) (.int .i64 0) (.slice none 0 0) (.slice none 0 0) (.slice none 0 0) (.int .i64 0) (.int .i64 0) (.int .i64 0) (.int .i64 0) (.int .i64 0) (.int .i64 k))
  obtain ⟨hh, ⟨vs, hs⟩, ⟨ve, he⟩, ⟨vx, hx⟩⟩ := hb
  obtain ⟨z0, z1, z2, z3, z4, z5, z6, z7, a0, a1, a2, a3, a4, a5, a6, a7, af⟩ := hh.cells
  have b0 := cell_of_row w (H + 1) 0 _ 3 (0, 0) hs
  have b1 := cell_of_row w (H + 2) 0 _ 3 (0, 0) he
  have b2 := cell_of_row w (H + 3) 0 _ 33 (0, 0) hx
  have g0 : w.frozen? ⟨H + 1, 0, none⟩ = false := by simp [World.frozen?, hs]
  have g1 : w.frozen? ⟨H + 2, 0, none⟩ = false := by simp [World.frozen?, he]
  have g2 : w.frozen? ⟨H + 3, 0, none⟩ = false := by simp [World.frozen?, hx]
  have hta := assert_errno k
  refine callsD_of_wpS Tryd.func26 rfl fun c₀ cs hu => ?_
  apply wpS_seq
  apply wpS_region
  simp [wpOpsS, go_sem, recoverD, hu, Tryd.ntmps26, Exit.thenS]
  apply wpS_seq
  apply wpS_region
  simp [wpOpsS, go_sem, Exit.thenS]
  refine wpS_cond (t := true) (by simp [Act.eval, Array.replicate]) ?_
  simp only [if_true]
  refine wpS_of_wp ?_
  simp [Array.replicate]
  go_region
  all_goals
    refine ⟨rfl, _, rfl, .tuple #[], ?_, rfl, rfl, HL.out⟩
    simp [results, Tryd.results26, go_sem]
#print axioms catch_idle
#print axioms catch_panicking
end Go.Proofs.YtgnjmmaahpngpaaDoor
