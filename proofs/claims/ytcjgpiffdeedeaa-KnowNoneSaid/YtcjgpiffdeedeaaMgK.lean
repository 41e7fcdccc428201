/- Whether a mind can make a term: the closure that asks beside a map of its own. -/
import Derived.Test.YtcjgpiffdeedeaaMgO
import Derived.Test.YtcjgpiffdeedeaaPkH
namespace Go.Proofs.Ytcjgpiffdeedeaa
open Go Go.RowKit Go.Shelf

/-- The map of what is found on the way. -/
abbrev OwnM (w : World) (o : Nat) (own : Int → Bool) : Prop := MapG w o (fun k => if own k = true then some (.agg #[]) else none)
theorem ownLook {w : World} {o : Nat} {own : Int → Bool} (h : OwnM w o own) {k : Int} (hk : (Lit.int .i64 k).wf = true) :
    (Instr.lookup 72 (.map (some o)) (.int .i64 k) true).run Try.prog w = .ok (.tuple #[.agg #[], .bool (own k)]) w := by
  rw [h.look2 Try.underlying72 zeroUn hk]
  cases e : own k <;> simp
set_option maxHeartbeats 1000000 in
set_option maxRecDepth 20000 in
theorem can_c {c : Fx} {w : World} {F : Nat → Prop} {r : Nat → Int → Option Value} {S : MS} (h : Mnd c w F r S) {o o1 o2 : Nat} {own : Int → Bool} (ho : OwnM w o own) (k1 : w.cell? ⟨o1, 0, none⟩ = some (.map (some o))) (k2 : w.cell? ⟨o2, 0, none⟩ = some (.pointer (some ⟨c.M, 0, none⟩)))
    {y : Int} (hy : (Lit.int .i64 y).wf = true) :
    Calls Try.prog 36 #[.int .i64 y, .pointer (some ⟨o1, 0, none⟩), .pointer (some ⟨o2, 0, none⟩)] w fun e w' => e = .returned (.bool (own y || canP S y)) ∧ Below w.heap.size w w' := by
  have hl := ownLook ho hy
  have bb := below_alloc w (.cells #[.agg #[]] 79)
  have bb0 := below_alloc w (.cells #[] 79)
  have hm := h.below bb0
  have kk2 := keepS bb0 k2
  have hc := can_any hm hy
  clear h hm ho
  cases hO : own y with
  | true =>
    rw [hO] at hl
    go_enter Try.func36, Try.ntmps36
    go_wp2_with fail
    go_ret
    exact ⟨rfl, bb0⟩
  | false =>
    rw [hO] at hl
    go_enter Try.func36, Try.ntmps36
    go_wp2_with (go_at_call 37; refine hc.mono ?_; rintro e w3 ⟨rfl, rfl⟩)
    go_ret
    exact ⟨rfl, bb0⟩
#print axioms can_c
end Go.Proofs.Ytcjgpiffdeedeaa
