/- The reference's table: what it holds; the kind of a number. -/
import Derived.Test.YtbhfilmbokaboaaSame
namespace Go.Proofs.Ytbhfilmbokaboaa
open Go Go.RowKit

/-- The reference's table lies at block rb; the blocks from B on hold it; its nodes are L's. -/
structure RTbl (w : World) (B rb : Nat) (nv : Value) (L : List (Nd × Value)) : Prop where
  brb : B ≤ rb
  tab : w.heap[rb]? = some (.cells #[nv] 28 (0, 0))
  nodes : w.ownsRow B 43 3 nv L.length (ncells L)
  parts : ∀ p ∈ L, w.ownsRow B 3 1 p.2 p.1.2.2.length (cs .i64 p.1.2.2)
  small : L.length ≤ 65536

theorem RTbl.same {w w' : World} {B rb : Nat} {nv : Value} {L : List (Nd × Value)} (h : RTbl w B rb nv L)
    (hk : ∀ k, k = rb ∨ nv.ownBlock = some k ∨ (∃ p ∈ L, p.2.ownBlock = some k) → w'.heap[k]? = w.heap[k]?) : RTbl w' B rb nv L :=
  { h with
    tab := by rw [hk rb (.inl rfl)]; exact h.tab
    nodes := own_keep h.nodes fun g hg => hk g (.inr (.inl hg))
    parts := fun p hp => own_keep (h.parts p hp) fun g hg => hk g (.inr (.inr ⟨p, hp, hg⟩)) }
theorem RTbl.keep {w w' : World} {B rb : Nat} {nv : Value} {L : List (Nd × Value)} (h : RTbl w B rb nv L) (hb : Below w.heap.size w w') : RTbl w' B rb nv L :=
  h.same fun k hk => hb.block k (by
    rcases hk with rfl | hk | ⟨p, hp, hk⟩
    · exact blk_lt h.tab
    · exact (h.nodes.lt k hk).2
    · exact ((h.parts p hp).lt k hk).2)

theorem row_cell {w : World} {B e : Nat} {nv : Value} {L : List (Nd × Value)} (h : w.ownsRow B e 3 nv L.length (ncells L)) (q : Nat) (hq : q < L.length) :
    ∃ g cap, nv = .slice (some ⟨g, 0, none⟩) L.length cap ∧ cap ≤ 9223372036854775807 ∧ L.length ≤ cap ∧ w.cell? ⟨g, q * 3, none⟩ = some (.int .i64 L[q].1.1) ∧ w.cell? ⟨g, q * 3 + 1, none⟩ = some (.string L[q].1.2.1) ∧ w.cell? ⟨g, q * 3 + 2, none⟩ = some L[q].2 := by
  have hn := h
  rcases h.2 with ⟨_, h0⟩ | ⟨g, cap, cur, rfl, _, _, h1, h2, _⟩
  · omega
  · obtain ⟨e1, e2, e3⟩ := ncells_get L q L[q] (List.getElem?_eq_getElem hq)
    refine ⟨g, cap, rfl, by unfold maxLen at h2; omega, h1, ?_, ?_, ?_⟩
    · rw [hn.cellAt _ (by omega)]; exact e1
    · rw [hn.cellAt _ (by omega)]; exact e2
    · rw [hn.cellAt _ (by omega)]; exact e3

theorem kindN_out (N : List Nd) (t : Int) (h : t < 1 ∨ (N.length : Int) < t) : kindN N t = 0 := by
  unfold kindN
  by_cases h1 : t < 1
  · rw [if_pos h1]
  · rw [if_neg h1, List.getElem?_eq_none (by omega)]
theorem kindN_in (L : List (Nd × Value)) (q : Nat) (hq : q < L.length) : kindN (nds L) ((q : Int) + 1) = L[q].1.1 := by
  unfold kindN nds
  rw [if_neg (by omega), show ((q : Int) + 1 - 1).toNat = q from by omega, List.getElem?_map, List.getElem?_eq_getElem hq]
  rfl

set_option maxHeartbeats 1000000 in
set_option maxRecDepth 20000 in
theorem kind_any {w : World} {B rb : Nat} {nv : Value} {L : List (Nd × Value)} (h : RTbl w B rb nv L) (t : Int) :
    Calls Try.prog 77 #[.pointer (some ⟨rb, 0, none⟩), .int .i64 t] w fun e w' => e = .returned (.int .i64 (kindN (nds L) t)) ∧ w = w' := by
  have hc0 : w.cell? ⟨rb, 0, none⟩ = some nv := by simp [World.cell?, h.tab]
  obtain ⟨ao, cap, hnv, _, hcm⟩ := own_shape h.nodes
  have hsm := h.small
  by_cases h1 : t < 1
  · have hk := kindN_out (nds L) t (.inl h1)
    rw [hk]
    clear h hk hsm
    go_enter Try.func77, Try.ntmps77
    go_wp2_with fail
    go_ret
    exact ⟨rfl, rfl⟩
  · by_cases h2 : (L.length : Int) < t
    · have hk := kindN_out (nds L) t (.inr (by rw [nds_len]; exact h2))
      rw [hk]
      subst hnv
      clear h hk hsm
      go_enter Try.func77, Try.ntmps77
      go_wp2_with fail
      go_ret
      exact ⟨rfl, rfl⟩
    · obtain ⟨q, rfl⟩ : ∃ q : Nat, t = (q : Int) + 1 := ⟨(t - 1).toNat, by omega⟩
      have hq : q < L.length := by omega
      obtain ⟨g, c, hnv', hc9, hLc, hcell0, _, _⟩ := row_cell h.nodes q hq
      rw [kindN_in L q hq]
      have hqI : (q : Int) < (L.length : Int) := by omega
      have HSM := Lib.hid hsm
      subst hnv'
      generalize L[q].1.1 = K at *
      clear h hnv hcm hsm
      go_enter Try.func77, Try.ntmps77
      go_wp2_with fail
      go_ret
      exact ⟨rfl, rfl⟩
#print axioms kind_any
end Go.Proofs.Ytbhfilmbokaboaa
