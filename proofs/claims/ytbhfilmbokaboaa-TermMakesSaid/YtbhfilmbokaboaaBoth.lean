/- The two tables lie beside each other: what a call on one leaves, the other is still. -/
import Derived.Test.YtbhfilmbokaboaaGrow
import Derived.Test.YtbhfilmbokaboaaTold
import Derived.Test.YtbhfilmbokaboaaLookNo
namespace Go.Proofs.Ytbhfilmbokaboaa
open Go Go.RowKit

/-- The reference's table behind a call on the program's. -/
theorem RTbl.beside {w w' : World} {B rb : Nat} {nv : Value} {L : List (Nd × Value)} (h : RTbl w B rb nv L) {B' tb mb : Nat} {tv : Value} {M : List (Nd × Value)} {f : Int → ByteArray → List Int → Option Int} (ht : Tbl w B' tb mb tv M f) (hf : Frm tb mb tv w w') : RTbl w' B rb nv L := by
  refine h.same fun k hk => ?_
  have key : ∀ {c : Array Value} {e : TypeId}, w.heap[k]? = some (.cells c e (0, 0)) → e ≠ 97 → e ≠ 38 → w'.heap[k]? = w.heap[k]? := fun {c e} hc h1 h2 =>
    ht.other hf (blk_lt hc) (fun c' fr e' => by rw [hc] at e'; cases e'; exact h1 rfl) (fun c' fr e' => by rw [hc] at e'; cases e'; exact h2 rfl) (fun es c' e' => by rw [hc] at e'; cases e')
  rcases hk with rfl | hk | ⟨p, hp, hk⟩
  · exact key h.tab (by decide) (by decide)
  · obtain ⟨cur, hc⟩ := own_blk h.nodes hk
    exact key hc (by decide) (by decide)
  · obtain ⟨cur, hc⟩ := own_blk (h.parts p hp) hk
    exact key hc (by decide) (by decide)
/-- The program's table behind a call on the reference's. -/
theorem Tbl.beside {w w' : World} {B rb : Nat} {nv : Value} {L : List (Nd × Value)} (h : RTbl w B rb nv L) {B' tb mb : Nat} {tv : Value} {M : List (Nd × Value)} {f : Int → ByteArray → List Int → Option Int} (ht : Tbl w B' tb mb tv M f) (hf : Frm rb rb nv w w') : Tbl w' B' tb mb tv M f := by
  refine ht.same fun k hk => ?_
  have key : ∀ {o : Obj}, w.heap[k]? = some o → (∀ c, o ≠ .cells c 28 (0, 0)) → (∀ c, o ≠ .cells c 43 (0, 0)) → w'.heap[k]? = w.heap[k]? := fun {o} ho h1 h2 => by
    have hne : k ≠ rb := fun e => by
      subst e
      rw [h.tab] at ho; cases ho; exact h1 _ rfl
    refine hf.block k (blk_lt ho) hne hne fun e => ?_
    obtain ⟨cur, hc⟩ := own_blk h.nodes e.symm
    rw [ho] at hc; cases hc; exact h2 _ rfl
  rcases hk with rfl | rfl | hk | ⟨p, hp, hk⟩
  · exact key ht.tab (fun c e => by cases e) (fun c e => by cases e)
  · obtain ⟨D, ⟨es, clock, hb, _⟩, _⟩ := ht.map
    exact key hb (fun c e => by cases e) (fun c e => by cases e)
  · obtain ⟨cur, hc⟩ := own_blk ht.nodes hk
    exact key hc (fun c e => by cases e) (fun c e => by cases e)
  · obtain ⟨cur, hc⟩ := own_blk (ht.parts p hp) hk
    exact key hc (fun c e => by cases e) (fun c e => by cases e)
/-- What a call on the reference's table leaves, told from the base on. -/
theorem RTbl.below {w w' : World} {B rb : Nat} {nv : Value} {L : List (Nd × Value)} (h : RTbl w B rb nv L) (hf : Frm rb rb nv w w') : Below B w w' := by
  refine ⟨hf.os, hf.tape, hf.output, hf.size, fun k hk => ?_⟩
  have h1 := h.brb
  by_cases hkw : k < w.heap.size
  · refine hf.block k hkw (by omega) (by omega) fun e => ?_
    have := (h.nodes.lt k e.symm).1
    omega
  · have h2 := blk_lt h.tab
    omega
#print axioms RTbl.beside
#print axioms Tbl.beside
#print axioms RTbl.below
end Go.Proofs.Ytbhfilmbokaboaa
