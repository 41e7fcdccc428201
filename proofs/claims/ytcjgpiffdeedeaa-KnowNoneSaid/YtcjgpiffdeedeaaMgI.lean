/- What follows of a list; a mind that is not there; a table that is not there. -/
import Derived.Test.YtcjgpiffdeedeaaMgJ
namespace Go.Proofs.Ytcjgpiffdeedeaa
open Go Go.RowKit

set_option maxHeartbeats 1000000 in
set_option maxRecDepth 20000 in
/-- What follows of a list. -/
theorem closed_any {w : World} {tp : Value} {N : List Nd} (hT : Tp w (fun _ => False) tp N) (hN : Wf N) {lv : Value} {ls : List Int} (hl : Rd .i64 w lv ls) (hwf : ∀ y ∈ ls, (Lit.int .i64 y).wf = true) :
    Calls Try.prog 15 #[tp, lv] w fun e w' => ∃ (v : Value) (l : List Int), e = .returned v ∧ l.Pairwise (· < ·) ∧ (∀ x, x ∈ l ↔ Der N (fun y => y ∈ ls) true x) ∧ Rd .i64 w' v l ∧ (∀ g, v.ownBlock = some g → w.heap.size ≤ g) ∧ Below w.heap.size w w' := by
  have hlearn := learnt_any hT hN hl hwf
  obtain ⟨p, rfl⟩ : ∃ p : Option Addr, tp = .pointer p := by
    rcases hT with ⟨e, _⟩ | ⟨_, tb, _, _, e, _⟩
    · exact ⟨none, e⟩
    · exact ⟨some ⟨tb, 0, none⟩, e⟩
  obtain ⟨la, lc, rfl⟩ : ∃ la lc, lv = .slice la ls.length lc := by obtain ⟨a, c, e, _⟩ := hl; exact ⟨a, c, e⟩
  clear hT hl hwf
  go_enter Try.func15, Try.ntmps15
  go_wp2_with (first
    | (go_at_call 32
       refine hlearn.mono ?_
       rintro e w1 ⟨c, F, r, S, pops, rfl, hc, q1, q2, q3, q4⟩
       have hkn := knows_any q1 q3.inr hN.few
       have Q3 := Lib.hid q3
       have Q4 := Lib.hid q4
       clear hc q1 q2 q3 q4 hlearn)
    | (go_at_call 20
       refine hkn.mono ?_
       rintro e w2 ⟨v, l, rfl, h1, h2, h3, h4, h5⟩
       obtain ⟨va, vc, rfl⟩ : ∃ va vc, v = .slice va l.length vc := by obtain ⟨a, c, e, _⟩ := h3; exact ⟨a, c, e⟩
       have HH := Lib.hid (And.intro h1 (And.intro h2 (And.intro h3 (And.intro h4 h5))))
       clear h1 h2 h3 h4 h5 hkn))
  go_ret
  obtain ⟨h1, h2, h3, h4, h5⟩ := HH.out
  exact ⟨_, l, rfl, h1, fun x => (h2 x).trans (Q3.out.knows hN x), h3, fun g hg => Nat.le_trans Q4.out.size (h4 g hg), Q4.out.trans (h5.mono Q4.out.size)⟩
set_option maxRecDepth 20000 in
theorem learn_nil {w : World} {la : Option Addr} {n cap : Nat} : Calls Try.prog 19 #[.pointer none, .slice la n cap] w fun e w' => e = .returned (.tuple #[]) ∧ Below w.heap.size w w' := by
  have bb := below_alloc w (.cells #[.pointer none] 44)
  go_enter Try.func19, Try.ntmps19
  go_wp2_with fail
  first
    | (go_ret; exact ⟨rfl, bb⟩)
    | (refine ⟨rfl, _, results_none rfl _ _ _, ?_⟩; exact ⟨rfl, bb⟩)
set_option maxRecDepth 20000 in
theorem knows_nil {w : World} : Calls Try.prog 20 #[.pointer none] w fun e w' => e = .returned (.slice none 0 0) ∧ w' = w := by
  go_enter Try.func20, Try.ntmps20
  go_wp2_with fail
  go_ret
  exact ⟨rfl, rfl⟩
theorem Wf.nil : Wf ([] : List Nd) where
  low := fun x h1 h2 => by simp at h2; omega
  two := fun x h => by have := kind_in (N := []) (x := x) (by rw [h]; decide); simp at this; omega
  one := fun x h => by have := kind_in (N := []) (x := x) (by rw [h]; decide); simp at this; omega
  sig := fun x h => by have := kind_in (N := []) (x := x) (by rw [h]; decide); simp at this; omega
  sea := fun x h => by have := kind_in (N := []) (x := x) (by rw [h]; decide); simp at this; omega
  sixteen := fun x => by simp [partsN]
  pub := fun x y h => by have := kind_in (N := []) (x := x) (by rw [h]; decide); simp at this; omega
  few := by simp
theorem der_nil {Bs : Int → Prop} {b : Bool} {x : Int} (h : Der [] Bs b x) : False := by have := der_in Wf.nil h; simp at this; omega
#print axioms closed_any
#print axioms der_nil
end Go.Proofs.Ytcjgpiffdeedeaa
