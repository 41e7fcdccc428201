/- SchedTickets: the rounds in plain words; a literal row beside the table. -/
import Derived.Test.YtipgidcpocgojaaScUn
namespace Go.Proofs.Ytipgidcpocgojaa
open Go Go.RowKit

/-- One round: the table behind it, and the four terms. -/
def round15 (N : List Nd) (i : Nat) : List Nd × List Int :=
  let S := if i = 0 then N else N ++ [secretNd]
  let h : Int := if i = 0 then 0 else (N.length : Int) + 1
  let E := earlyN S h
  let B := textN E.2 ByteArray.empty
  let T := atN B.2 lClientEarly E.1 B.1
  let C := textN T.2 ByteArray.empty
  let M := macN C.2 lBinder E.1 C.1
  let R := makeN M.2 3 [E.1, E.1]
  let K := deriveN R.2 R.1 lHandshake 0
  (K.2, [E.1, T.1, M.1, K.1])
def tick : Nat → List Nd × List Int
  | 0 => ([], [])
  | i + 1 => ((round15 (tick i).1 i).1, (tick i).2 ++ (round15 (tick i).1 i).2)
/-- Is no term of the round 0, or there already? -/
def fresh15 (i : Nat) : Bool := (List.range 4).all fun k => decide ((round15 (tick i).1 i).2.getD k 0 ≠ 0) && ((tick i).2 ++ ((round15 (tick i).1 i).2.take k)).all fun z => decide (z ≠ (round15 (tick i).1 i).2.getD k 0)
set_option maxRecDepth 100000 in
theorem fresh_all : fresh15 0 = true ∧ fresh15 1 = true ∧ fresh15 2 = true ∧ fresh15 3 = true ∧ fresh15 4 = true := by decide +kernel
set_option maxRecDepth 100000 in
theorem tick_len : (tick 0).1.length ≤ 200 ∧ (tick 1).1.length ≤ 200 ∧ (tick 2).1.length ≤ 200 ∧ (tick 3).1.length ≤ 200 ∧ (tick 4).1.length ≤ 200 := by decide +kernel
theorem round_four (N : List Nd) (i : Nat) : (round15 N i).2.length = 4 := rfl
theorem tick_seen (i : Nat) : (tick i).2.length = 4 * i := by
  induction i with
  | zero => rfl
  | succ i ih =>
    show ((tick i).2 ++ (round15 (tick i).1 i).2).length = _
    rw [List.length_append, ih, round_four]
    omega
theorem fresh_at {i : Nat} (hi : i ≤ 4) : (tick i).1.length ≤ 200 ∧ ∀ k, k < 4 → (round15 (tick i).1 i).2.getD k 0 ≠ 0 ∧ ∀ z ∈ (tick i).2 ++ ((round15 (tick i).1 i).2.take k), z ≠ (round15 (tick i).1 i).2.getD k 0 := by
  have h : fresh15 i = true ∧ (tick i).1.length ≤ 200 := by
    have := fresh_all
    have := tick_len
    have : i = 0 ∨ i = 1 ∨ i = 2 ∨ i = 3 ∨ i = 4 := by omega
    rcases this with rfl | rfl | rfl | rfl | rfl <;> simp_all
  refine ⟨h.2, fun k hk => ?_⟩
  have h1 := h.1
  unfold fresh15 at h1
  rw [List.all_eq_true] at h1
  have h2 := h1 k (List.mem_range.2 hk)
  simp only [Bool.and_eq_true, decide_eq_true_eq, List.all_eq_true] at h2
  exact h2

variable {w0 w : World} {tb mb : Nat} {N : List Nd} {rs : List (Value × List Int)}
/-- A literal row joins. -/
theorem St.lit (h : St w0 w tb mb N rs) (zs : List Int) (hz : zs.length ≤ 1000) : St w0 (w.alloc (.cells (cs .i64 zs).toArray 26)) tb mb N ((.slice (some ⟨w.heap.size, 0, none⟩) zs.length zs.length, zs) :: rs) := by
  have hk := h.keep (below_alloc w (.cells (cs .i64 zs).toArray 26))
  obtain ⟨nv, ht⟩ := h.tab
  obtain ⟨L, h1, h2, h3⟩ := ht.ex
  refine ⟨⟨nv, ⟨L, h1.keep (below_alloc w _), h2, fun v hv g hg p hp => ?_⟩⟩, fun r hr => ?_, List.pairwise_cons.2 ⟨fun s hs g hg e => ?_, hk.apart⟩, hk.bel⟩
  · rcases List.mem_cons.1 hv with rfl | hv
    · cases hg
      intro e
      have := ((h1.parts p hp).lt _ e).2
      simp only at this
      omega
    · exact h3 v hv g hg p hp
  · rcases List.mem_cons.1 hr with rfl | hr
    · exact own_mono (own_lit .i64 26 w zs hz) h.bel.size
    · exact hk.own r hr
  · cases hg
    have := ((h.own s hs).lt _ e).2
    simp only at this
    omega
theorem St.tail {r : Value × List Int} (h : St w0 w tb mb N (r :: rs)) : St w0 w tb mb N rs := by
  obtain ⟨nv, ht⟩ := h.tab
  exact ⟨⟨nv, ht.sub fun u hu => List.mem_cons_of_mem _ hu⟩, (fun s hs => h.own s (List.mem_cons_of_mem _ hs)), (List.pairwise_cons.1 h.apart).2, h.bel⟩
#print axioms fresh_at
#print axioms St.lit
end Go.Proofs.Ytipgidcpocgojaa
