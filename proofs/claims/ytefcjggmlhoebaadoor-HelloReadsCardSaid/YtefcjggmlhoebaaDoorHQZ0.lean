/- The document's Right of messages. -/
import Derived.Test.YtefcjggmlhoebaaDoorHQ1
import Derived.Test.YtefcjggmlhoebaaDoorHQ2
import Derived.Test.YtefcjggmlhoebaaDoorHQ3
namespace Go.Proofs.YtefcjggmlhoebaaDoor
open Go Go.RowKit

/-- The document's Read of params tells of any bytes whether they are right. -/
def RqOk (ok : List Int → Bool) : Prop := ∀ (W : World) (v : Value) (ys : List Int), Rd W v ys → ys.length ≤ 1000000 → Calls Tryd.prog 23 #[v] W fun e w' => e = .returned (.bool (ok ys)) ∧ Below W.heap.size W w'
theorem rright_any {ok : List Int → Bool} (hp : RqOk ok) {w : World} (x : Hm) {vp : Value} (hr : Rd w vp x.p) (hl : x.p.length ≤ 1000000) :
    Calls Tryd.prog 11 #[.agg (mcl x.k x.r x.s x.t x.m x.f vp (bstr x.n) x.v x.l)] w fun e w' => e = .returned (.bool (rightB (ok x.p) x)) ∧ Below w.heap.size w w' := by
  have hp' := fun (W : World) (hW : Below w.heap.size w W) => hp W vp x.p (hr.below hW) hl
  obtain ⟨k, r, s, t, m, f, p, n, v, l⟩ := x
  simp only at hp' hr hl ⊢
  obtain ⟨a, c, rfl⟩ := hr.shape
  unfold rightB
  simp only
  by_cases h1 : k = 1
  · subst h1; rw [if_pos rfl]; exact rref_1 w r s t m f a _ c _ v l _ hp'
  rw [if_neg h1]
  by_cases h2 : k = 2
  · subst h2; rw [if_pos rfl]; exact rref_2 w r s t m f a _ c _ v l
  rw [if_neg h2]
  by_cases h4 : k = 4
  · subst h4; rw [if_pos rfl]; exact rref_4 w r s t m f a _ c _ v l
  rw [if_neg h4]
  by_cases h8 : k = 8
  · subst h8; rw [if_pos rfl]; exact rref_8 w r s t m f a _ c _ v l _ hp'
  rw [if_neg h8]
  by_cases h11 : k = 11
  · subst h11; rw [if_pos rfl]; exact rref_11 w r s t m f a _ c _ v l
  rw [if_neg h11]
  by_cases h15 : k = 15
  · subst h15; rw [if_pos rfl]; exact rref_15 w r s t m f a _ c _ v l
  rw [if_neg h15]
  by_cases h20 : k = 20
  · subst h20; rw [if_pos rfl]; exact rref_20 w r s t m f a _ c _ v l
  rw [if_neg h20]
  exact rref_0 w r s t m f a _ c _ v l k h1 h2 h4 h8 h11 h15 h20
#print axioms rright_any
end Go.Proofs.YtefcjggmlhoebaaDoor
