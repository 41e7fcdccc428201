/- SchedRows: what its walk needs. -/
import Derived.Test.YtipgidcpocgojaaScDer
namespace Go.Proofs.Ytipgidcpocgojaa
open Go Go.RowKit

variable {w0 w : World} {tb mb n : Nat} {N : List Nd} {rs : List (Nat × Obj)}
theorem rng_ext {a : Int} {M M' : List Nd} (h : 1 ≤ a ∧ a ≤ (M.length : Int)) (p : M <+: M') : 1 ≤ a ∧ a ≤ (M'.length : Int) := by
  have := p.length_le
  omega
theorem Gd.nextG (h : Gd w0 w tb mb N n rs) {x : Int} {ms : List ByteArray} (hx : IsTr N x ms) {vb : Value} {zb : List Int} (hb : Rd .u8 w vb zb) (hl : zb.length ≤ 2048) (hn : n ≤ 60000) :
    Calls Try.prog 11 #[.pointer (some ⟨tb, 0, none⟩), .int .i64 x, vb] w fun e w' => Tells w0 w' tb mb (n + 3) N rs e fun M c => IsTr M c (bstr zb :: ms) := by
  have hlen := nextN_len N x (bstr zb)
  have := h.len
  obtain ⟨h1, h2, h3⟩ := next_has h.good hx (bstr zb)
  exact (h.st.nextS x hb hl (by omega)).mono fun e w' ⟨he, hs⟩ => ⟨_, _, he, ⟨hs, h3, by omega⟩, h2, h1⟩
theorem Gd.mono (h : Gd w0 w tb mb N n rs) {n' : Nat} (hn : n ≤ n') : Gd w0 w tb mb N n' rs := ⟨h.st, h.good, Nat.le_trans h.len hn⟩
/-- A block that is there, of another type, is a guest. -/
theorem Sg.other (h : Sg w0 w tb mb N rs) {g : Nat} {c : Array Value} {e : TypeId} {fr : Nat × Nat} (hg : w.heap[g]? = some (.cells c e fr)) (h1 : e ≠ 56) (h2 : e ≠ 40) : Sg w0 w tb mb N ((g, .cells c e fr) :: rs) := by
  obtain ⟨nv, ht, hr⟩ := h.tab
  obtain ⟨L, hL, _, _⟩ := ht.ex
  refine ⟨⟨nv, ht, fun r hm => ?_⟩, fun r hm => ?_, h.bel⟩
  · rcases List.mem_cons.1 hm with rfl | hm
    · refine ⟨fun e1 => ?_, fun e1 => ?_, fun e1 => ?_⟩
      · simp only at e1; subst e1
        rw [hL.tab] at hg; cases hg; exact h1 rfl
      · simp only at e1; subst e1
        obtain ⟨D, ⟨es, clock, hb, _⟩, _⟩ := hL.map
        rw [hb] at hg; cases hg
      · obtain ⟨cur, hc⟩ := own_blk hL.nodes e1.symm
        simp only at hc
        rw [hc] at hg; cases hg; exact h2 rfl
    · exact hr r hm
  · rcases List.mem_cons.1 hm with rfl | hm
    · exact hg
    · exact h.own r hm
theorem Gd.lookM (h : Gd w0 w tb mb N n rs) {m : Int} {k a b : Int} (hm : Has N m (k, ByteArray.empty, [a, b])) :
    Calls Try.prog 25 #[.pointer (some ⟨tb, 0, none⟩), .int .i64 m] w fun e w' => ∃ g cap cur, e = .returned (.tuple #[.agg #[.int .i64 k, .string ByteArray.empty, .slice (some ⟨g, 0, none⟩) 2 cap], .bool true]) ∧ 2 ≤ cap ∧ cap ≤ 9223372036854775807 ∧ Gd w0 w' tb mb N n ((g, .cells cur 26 (0, 0)) :: rs) ∧ cur[0]? = some (.int .i64 a) ∧ cur[1]? = some (.int .i64 b) := by
  have hp := hm.pos
  have := h.st.st.look (m - 1).toNat _ hm.at'
  rw [show (((m - 1).toNat : Nat) : Int) + 1 = m by omega] at this
  refine this.mono ?_
  rintro e w' ⟨pv, rfl, ho, hb, hs⟩
  rcases ho.2 with ⟨_, h0⟩ | ⟨g, cap, cur, rfl, hg, hh, h1, h2, h3, h4⟩
  · cases h0
  · unfold maxLen at h2
    have hget : ∀ j, j < 2 → cur[j]? = (cs .i64 [a, b])[j]? := fun j hj => by
      rw [← Array.getElem?_toList]
      have h5 : (cur.toList.take ([a, b].length * 1))[j]? = (cs .i64 [a, b])[j]? := by rw [h4]
      rwa [List.getElem?_take_of_lt (by simpa using hj)] at h5
    have hk := h.keep hb
    exact ⟨g, cap, cur, rfl, h1, by omega, ⟨hk.st.other hh (by decide) (by decide), hk.good, hk.len⟩, hget 0 (by decide), hget 1 (by decide)⟩
theorem der_hm {N : List Nd} {m o x : Int} {lab : ByteArray} (h : Der N m o lab x) : ∃ c, (true = true ∧ c = x ∨ true = false ∧ Has N c (1, ByteArray.empty, [])) ∧ Der N m o lab c := ⟨x, .inl ⟨rfl, rfl⟩, h⟩
theorem der0_hm {N : List Nd} {m o x : Int} {lab : ByteArray} (h : Der0 N m o lab) : ∃ c, (false = true ∧ c = x ∨ false = false ∧ Has N c (1, ByteArray.empty, [])) ∧ Der N m o lab c := by
  obtain ⟨e, h1, h2⟩ := h
  exact ⟨e, .inr ⟨rfl, h1⟩, h2⟩
theorem guest_cell {w0 w : World} {tb mb n : Nat} {N : List Nd} {rs : List (Nat × Obj)} (h : Gd w0 w tb mb N n rs) {g j : Nat} {c : Array Value} {e : TypeId} {v : Value} (hm : (g, Obj.cells c e (0, 0)) ∈ rs) (hc : c[j]? = some v) : w.cell? ⟨g, j, none⟩ = some v :=
  (cell_of_row _ g j _ e (0, 0) (h.st.own _ hm)).trans hc

#print axioms guest_cell
end Go.Proofs.Ytipgidcpocgojaa
