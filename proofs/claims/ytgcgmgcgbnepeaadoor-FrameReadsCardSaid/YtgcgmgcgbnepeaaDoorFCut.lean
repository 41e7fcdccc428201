/- fields: cut takes bytes off the front. -/
import Derived.Test.YtgcgmgcgbnepeaaDoorFWant
namespace Go.Proofs.YtgcgmgcgbnepeaaDoor
open Go Go.RowKit

/-- The world behind a cut of k bytes. -/
def Cut (w : World) (B b off k n cap : Nat) (taken : Int) (w' : World) : Prop :=
  ∃ o, (o = off + k ∨ k = n) ∧ w' = ((w.setCell ⟨B, 0, none⟩ (.slice (some ⟨b, o, none⟩) (n - k) (cap - k))).setCell ⟨B, 1, none⟩ (.int .i64 (wrap64 (taken + k)))).drew
set_option maxRecDepth 20000 in
set_option maxHeartbeats 2000000 in
theorem cut_some {w : World} {B b off : Nat} {cap : Nat} {rest : List Int} {taken short : Int} (h : Fr w B (.slice (some ⟨b, off, none⟩) rest.length cap) rest taken short) (k : Nat) (hn : k ≤ rest.length) (hc : rest.length ≤ cap) :
    Calls Tryd.prog 59 #[.pointer (some ⟨B, 0, none⟩), .int .i64 k] w fun r w' => r = .returned (.slice (some ⟨b, off, none⟩) k cap) ∧ Cut w B b off k rest.length cap taken w' := by
  obtain ⟨x0, x1, x2, xf⟩ := h.cells
  have hl := h.rest.len
  have d1 : decide ((k : Int) ≤ (rest.length : Int)) = true := decide_eq_true (by omega)
  have hcap : cap ≤ maxLen := by
    obtain ⟨_, _, e, _, hm, _⟩ := h.rest
    simp only [Value.slice.injEq] at e
    obtain ⟨_, _, rfl⟩ := e
    exact hm
  clear h
  go_enter Tryd.func59, Tryd.ntmps59
  go_wp2_with fail
  go_region_with (go_at_call 47; refine (want_yes _ short).mono ?_; rintro e w' ⟨rfl, rfl⟩)
  all_goals try go_wp2
  all_goals go_ret
  all_goals first
    | exact ⟨rfl, off + k, .inl rfl, rfl⟩
    | (subst_vars; exact ⟨rfl, off, .inr (by omega), by simp only [Nat.sub_self]⟩)

set_option maxRecDepth 20000 in
set_option maxHeartbeats 2000000 in
theorem cut_null {w : World} {B : Nat} {taken short : Int} (h : Fr w B (.slice none 0 0) [] taken short) :
    Calls Tryd.prog 59 #[.pointer (some ⟨B, 0, none⟩), .int .i64 0] w fun r w' => r = .returned (.slice none 0 0) ∧
      w' = ((w.setCell ⟨B, 0, none⟩ (.slice none 0 0)).setCell ⟨B, 1, none⟩ (.int .i64 (wrap64 taken))).drew := by
  obtain ⟨x0, x1, x2, xf⟩ := h.cells
  clear h
  go_enter Tryd.func59, Tryd.ntmps59
  go_wp2_with fail
  go_region_with (go_at_call 47; refine (want_yes _ short).mono ?_; rintro e w' ⟨rfl, rfl⟩)
  all_goals try go_wp2
  all_goals go_ret
  all_goals exact ⟨rfl, rfl⟩
#print axioms cut_some
#print axioms cut_null
end Go.Proofs.YtgcgmgcgbnepeaaDoor
