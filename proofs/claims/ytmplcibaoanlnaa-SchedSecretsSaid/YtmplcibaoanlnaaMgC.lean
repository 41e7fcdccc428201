/- What a mind is asked: whether a term can be made already; whether two secrets agree. -/
import Derived.Test.YtmplcibaoanlnaaMgB
namespace Go.Proofs.Ytmplcibaoanlnaa
open Go Go.RowKit

theorem zeroSt (w : World) : (zeroValue 81).run Try.prog w = .ok (.int .i64 0) w := by kernel_rfl
theorem zeroUn (w : World) : (zeroValue 70).run Try.prog w = .ok (.agg #[]) w := by kernel_rfl
theorem zeroSl (w : World) : (zeroValue 31).run Try.prog w = .ok (.slice none 0 0) w := by kernel_rfl
theorem Mnd.stLook {c : Fx} {w : World} {F : Nat → Prop} {r : Nat → Int → Option Value} {S : MS} (h : Mnd c w F r S) {k : Int} (hk : (Lit.int .i64 k).wf = true) :
    (Instr.lookup 77 (.map (some c.m1)) (.int .i64 k) false).run Try.prog w = .ok (.int .i64 (S.st k)) w := by
  rw [h.states.look Try.underlying77 zeroSt hk]
  by_cases e : S.st k = 0
  · rw [if_pos e, e]; rfl
  · rw [if_neg e]; rfl
theorem Mnd.shLook {c : Fx} {w : World} {F : Nat → Prop} {r : Nat → Int → Option Value} {S : MS} (h : Mnd c w F r S) {k : Int} (hk : (Lit.int .i64 k).wf = true) :
    (Instr.lookup 69 (.map (some c.m2)) (.int .i64 k) true).run Try.prog w = .ok (.tuple #[.agg #[], .bool (S.sh k)]) w := by
  rw [h.shown.look2 Try.underlying69 zeroUn hk]
  cases e : S.sh k <;> simp
theorem Mnd.rowLook {c : Fx} {w : World} {F : Nat → Prop} {r : Nat → Int → Option Value} {S : MS} (h : Mnd c w F r S) {k : Int} (hk : (Lit.int .i64 k).wf = true) :
    (Instr.lookup 78 (.map (some c.m3)) (.int .i64 k) false).run Try.prog w = .ok (val r 0 k) w ∧
    (Instr.lookup 78 (.map (some c.m4)) (.int .i64 k) false).run Try.prog w = .ok (val r 1 k) w :=
  ⟨h.shut.look Try.underlying78 zeroSl hk, h.waits.look Try.underlying78 zeroSl hk⟩
theorem Mnd.fields {c : Fx} {w : World} {F : Nat → Prop} {r : Nat → Int → Option Value} {S : MS} (h : Mnd c w F r S) :
    w.cell? ⟨c.M, 0, none⟩ = some c.tp ∧ w.cell? ⟨c.M, 1, none⟩ = some (.map (some c.m1)) ∧ w.cell? ⟨c.M, 2, none⟩ = some (.map (some c.m2)) ∧ w.cell? ⟨c.M, 3, none⟩ = some (.map (some c.m3)) ∧ w.cell? ⟨c.M, 4, none⟩ = some (.map (some c.m4)) := by
  refine ⟨?_, ?_, ?_, ?_, ?_⟩ <;> simp [World.cell?, h.cell]
set_option maxHeartbeats 1000000 in
set_option maxRecDepth 20000 in
theorem can_any {c : Fx} {w : World} {F : Nat → Prop} {r : Nat → Int → Option Value} {S : MS} (h : Mnd c w F r S) {x : Int} (hx : (Lit.int .i64 x).wf = true) :
    Calls Try.prog 38 #[.pointer (some ⟨c.M, 0, none⟩), .int .i64 x] w fun e w' => e = .returned (.bool (canP S x)) ∧ w' = w := by
  obtain ⟨_, c1, _⟩ := h.fields
  have hl := h.stLook hx
  clear h
  go_enter Try.func38, Try.ntmps38
  go_wp2_with fail
  go_ret
  exact ⟨rfl, rfl⟩
set_option maxHeartbeats 1000000 in
set_option maxRecDepth 20000 in
theorem agrees_any {c : Fx} {w : World} {F : Nat → Prop} {r : Nat → Int → Option Value} {S : MS} (h : Mnd c w F r S) {x y : Int} (hx : (Lit.int .i64 x).wf = true) (hy : (Lit.int .i64 y).wf = true) :
    Calls Try.prog 47 #[.pointer (some ⟨c.M, 0, none⟩), .int .i64 x, .int .i64 y] w fun e w' => e = .returned (.bool (agrP S x y)) ∧ Below w.heap.size w w' := by
  obtain ⟨_, c1, c2, _⟩ := h.fields
  have hl := h.shLook hy
  have h2 := h.below (below_alloc w (.cells #[] 70))
  have hl1 := h2.stLook hx
  have hl2 := h2.stLook hy
  obtain ⟨_, d1, _⟩ := h2.fields
  have bb := below_alloc w (.cells #[] 70)
  clear h h2
  go_enter Try.func47, Try.ntmps47
  go_wp2_with fail
  all_goals go_ret
  all_goals refine ⟨?_, bb⟩
  all_goals simp [agrP, *]
  all_goals (cases Int.decEq (S.st y) 3 <;> simp [*])
#print axioms can_any
#print axioms agrees_any
end Go.Proofs.Ytmplcibaoanlnaa
