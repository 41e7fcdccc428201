/- law 16's of: the document's token as the program's, its name in new memory. -/
import Derived.Test.YtepkhhpdpmhfaaaDoorZKMint
import Derived.Test.YtepkhhpdpmhfaaaDoorZTMgR
import Derived.Deep.RegionHeld3
namespace Go.Proofs.YtepkhhpdpmhfaaaDoor
open Go Go.RowKit

/-- No byte. -/
def NB (v : Value) : Prop := ∀ z, v ≠ .int .u8 z
theorem nb_bool (b : Bool) : NB (.bool b) := fun z h => by cases h
theorem nb_int (n : Int) : NB (.int .i64 n) := fun z h => by cases h
theorem nb_slice (a : Option Addr) (n c : Nat) : NB (.slice a n c) := fun z h => by cases h
/-- What stays in of's region. -/
def OfS (w : World) (l : Bool) (a t : Int) (v : Value) (w' : World) : Prop :=
  w'.heap[w.heap.size]? = some (.cells #[.bool l, .int .i64 a, .int .i64 t, v] 24 (0, 0)) ∧ (∃ d0 d1 d2 d3, w'.heap[w.heap.size + 1]? = some (.cells #[d0, d1, d2, d3] 30 (0, 0)) ∧ NB d0 ∧ NB d1 ∧ NB d2 ∧ NB d3) ∧ Below w.heap.size w w'
theorem OfS.below {w w1 w2 : World} {l : Bool} {a t : Int} {v : Value} (hb : Below w1.heap.size w1 w2) (h : OfS w l a t v w1) : OfS w l a t v w2 :=
  by
  obtain ⟨d0, d1, d2, d3, h2, h3⟩ := h.2.1
  exact ⟨(hb.block _ (blkLt h.1)).trans h.1, ⟨d0, d1, d2, d3, (hb.block _ (blkLt h2)).trans h2, h3⟩, h.2.2.trans (hb.mono h.2.2.size)⟩
abbrev OfC (w : World) (l : Bool) (a t : Int) (v : Value) (w' : World) : Prop :=
  w'.cell? ⟨w.heap.size, 0, none⟩ = some (.bool l) ∧ w'.cell? ⟨w.heap.size, 1, none⟩ = some (.int .i64 a) ∧ w'.cell? ⟨w.heap.size, 2, none⟩ = some (.int .i64 t) ∧ w'.cell? ⟨w.heap.size, 3, none⟩ = some v ∧ OfS w l a t v w'
theorem OfS.c {w w' : World} {l : Bool} {a t : Int} {v : Value} (h : OfS w l a t v w') : OfC w l a t v w' := by
  obtain ⟨m0, m1, m2, m3, _⟩ := cells4 h.1
  exact ⟨m0, m1, m2, m3, h⟩
theorem keepO {w w1 w2 : World} {l : Bool} {a t : Int} {v : Value} (hb : Below w1.heap.size w1 w2) (h : OfC w l a t v w1) : OfC w l a t v w2 := (h.2.2.2.2.below hb).c
theorem keepO4 {w w1 : World} {l : Bool} {a t : Int} {v c0 c1 c2 c3 : Value} (n0 : NB c0) (n1 : NB c1) (n2 : NB c2) (n3 : NB c3) (h : OfC w l a t v w1) : OfC w l a t v ((((w1.setCell ⟨w.heap.size + 1, 0, none⟩ c0).setCell ⟨w.heap.size + 1, 1, none⟩ c1).setCell ⟨w.heap.size + 1, 2, none⟩ c2).setCell ⟨w.heap.size + 1, 3, none⟩ c3) := by
  obtain ⟨h1, ⟨d0, d1, d2, d3, h2, _⟩, h3⟩ := h.2.2.2.2
  have hb := chain4_but w1 (w.heap.size + 1) c0 c1 c2 c3
  exact OfS.c ⟨(hb.block _ (blkLt h1) (by omega)).trans h1, ⟨_, _, _, _, chain4_row h2 _ _ _ _, n0, n1, n2, n3⟩, hb.below h3 (by omega)⟩
set_option maxRecDepth 20000 in
set_option maxHeartbeats 2000000 in
theorem of_any {w : World} {v : Value} {nm : List Int} {l : Bool} {a t : Int} (h : Rd w v nm) (hl : nm.length ≤ 1000) :
    Calls Tryd.prog 8 #[.agg #[.bool l, .int .i64 a, .int .i64 t, v]] w fun e w' => ∃ v', e = .returned (.agg #[.bool l, .int .i64 a, .int .i64 t, v']) ∧ Rd w' v' nm ∧ Below w.heap.size w w' := by
  obtain ⟨W2, hW2⟩ : ∃ W2, (w.alloc (.cells #[.bool l, .int .i64 a, .int .i64 t, v] 24)).alloc (.cells #[.bool false, .int .i64 0, .int .i64 0, .slice none 0 0] 30) = W2 := ⟨_, rfl⟩
  have hS : OfS w l a t v W2 := by
    rw [← hW2]
    refine ⟨((below_alloc _ _).block _ (by simp)).trans (heap_alloc_new w _), ?_, ((Below.refl _ _).alloc (Nat.le_refl _) _).alloc (by simp) _⟩
    have := heap_alloc_new (w.alloc (.cells #[.bool l, .int .i64 a, .int .i64 t, v] 24)) (.cells #[.bool false, .int .i64 0, .int .i64 0, .slice none 0 0] 30)
    rw [World.size_alloc] at this
    exact ⟨_, _, _, _, this, nb_bool _, nb_int _, nb_int _, nb_slice _ _ _⟩
  have hSd : OfS w l a t v W2.drew := ⟨hS.1, hS.2.1, hS.2.2.drew⟩
  have hC := hSd.c
  have HR := Lib.hid (And.intro h hl)
  clear h hl hS hSd
  go_enter Tryd.func8, Tryd.ntmps8
  go_wp2_with fail
  clear hW2
  go_region_held3 (fun w' => OfC w l a t v w')
    (first | (have _t := tok3; with_reducible exact keepO4 (nb_bool _) (nb_int _) (nb_int _) (nb_slice _ _ _) (by assumption)) | with_reducible exact hC | with_reducible exact keepO (below_alloc _ _) (by assumption) | with_reducible exact keepO hb2 (by assumption))
    ((refine step_append_fresh (by rfl) _ _ (by rfl) _ (by rfl) v nm (by rfl) (HR.out.1.below ?_) ?_ (lo := 0) ?_ ?_; exact (show OfC w l a t v _ by assumption).2.2.2.2.2.2; (have := HR.out.2; omega); omega; intro ut w2 hrt hb2; obtain ⟨at2, ct2, rfl⟩ := Rd.shape' hrt.rd; have hS4 := keepO hb2 (by assumption); obtain ⟨d0, d1, d2, d3, hd, hn⟩ := hS4.2.2.2.2.2.1; obtain ⟨z0, z1, z2, z3, zf⟩ := cells4 hd; have HS := Lib.hid (And.intro hd (And.intro hS4.2.2.2.2.2.2 (And.intro hrt.rd hn))); have tok3 : True := trivial; clear hS4 hrt hC hd hn))
  all_goals
    go_wp2_with fail
    refine bodyPost_ret (res_of _ _ (w.heap.size + 1) _ _ _ _ rfl (chain4_row HS.out.1 _ _ _ _)) rfl ?_
    refine ⟨_, rfl, HS.out.2.2.1.but (chain4_but _ _ _ _ _ _) HS.out.1 ?_, (chain4_but _ _ _ _ _ _).below HS.out.2.1 (by omega)⟩
    intro c e f hc x hx
    cases hc
    obtain ⟨q0, q1, q2, q3⟩ := HS.out.2.2.2
    simp at hx
    rcases hx with rfl | rfl | rfl | rfl
    · exact q0
    · exact q1
    · exact q2
    · exact q3
#print axioms of_any
end Go.Proofs.YtepkhhpdpmhfaaaDoor
