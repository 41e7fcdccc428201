/- Look of a node that is there, by the nodes alone; a row of two of the call's own. -/
import Derived.Test.YtmplcibaoanlnaaPure
import Derived.Test.YtmplcibaoanlnaaText
import Derived.Test.YtmplcibaoanlnaaLook
namespace Go.Proofs.Ytmplcibaoanlnaa
open Go Go.RowKit

/-- A node without text. -/
def nd (k : Int) (ps : List Int) : Nd := (k, ByteArray.empty, ps)
abbrev nS : Nd := secretNd
set_option maxRecDepth 20000 in
theorem Tab.look {w : World} {B tb mb : Nat} {nv : Value} {N : List Nd} (h : TabAt w B tb mb nv N) (q : Nat) (n : Nd) (hq : N[q]? = some n) :
    Calls Try.prog 31 #[.pointer (some ⟨tb, 0, none⟩), .int .i64 ((q : Int) + 1)] w fun e w' => ∃ pv, e = .returned (.tuple #[.agg #[.int .i64 n.1, .string n.2.1, pv], .bool true]) ∧ w'.ownsRow w.heap.size 26 1 pv n.2.2.length (cs .i64 n.2.2) ∧ Below w.heap.size w w' := by
  obtain ⟨L, h1, rfl⟩ := h.ex
  unfold nds at hq
  rw [List.getElem?_map] at hq
  obtain ⟨p, hp, hn⟩ := Option.map_eq_some_iff.1 hq
  obtain ⟨hlt, rfl⟩ := List.getElem?_eq_some_iff.1 hp
  subst hn
  exact look_any h1 q hlt

/-- A row of its own of two: its first cell. -/
theorem own_pair {w : World} {base : Nat} {v : Value} {a b : Int} (h : w.ownsRow base 26 1 v 2 (cs .i64 [a, b])) :
    ∃ g cap, v = .slice (some ⟨g, 0, none⟩) 2 cap ∧ base ≤ g ∧ 2 ≤ cap ∧ cap ≤ 9223372036854775807 ∧ w.cell? ⟨g, 0, none⟩ = some (.int .i64 a) ∧ w.frozen? ⟨g, 0, none⟩ = false := by
  rcases h.2 with ⟨_, h0⟩ | ⟨g, cap, cur, rfl, hg, hh, h1, h2, h3, h4⟩
  · cases h0
  · unfold maxLen at h2
    refine ⟨g, cap, rfl, hg, h1, by omega, ?_, by simp [World.frozen?, hh]⟩
    have : cur[0]? = some (.int .i64 a) := by
      rw [← Array.getElem?_toList]
      have h5 : (cur.toList.take (2 * 1))[0]? = (cs .i64 [a, b])[0]? := by rw [h4]
      rw [List.getElem?_take_of_lt (by omega)] at h5
      rw [h5]; rfl
    simp [World.cell?, hh, this]

#print axioms Tab.look
end Go.Proofs.Ytmplcibaoanlnaa
