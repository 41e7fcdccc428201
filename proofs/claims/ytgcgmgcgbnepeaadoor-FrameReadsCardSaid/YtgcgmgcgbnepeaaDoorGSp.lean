/- Slices of spans in memory: what reads as a list of spans; where it lies; append onto such a row. -/
import Derived.Test.YtgcgmgcgbnepeaaDoorFBytes
import Derived.Maps.AppendAt
namespace Go.Proofs.YtgcgmgcgbnepeaaDoor
open Go Go.RowKit

abbrev Sp := Int × Int
/-- The cells of spans. -/
def sc : List Sp → List Value
  | [] => []
  | p :: r => .int .i64 p.1 :: .int .i64 p.2 :: sc r
theorem sc_len (S : List Sp) : (sc S).length = S.length * 2 := by
  induction S with | nil => rfl | cons p r ih => simp [sc, ih]; omega
theorem sc_app (S T : List Sp) : sc (S ++ T) = sc S ++ sc T := by
  induction S with | nil => rfl | cons p r ih => simp [sc, ih]
theorem sc_one (S : List Sp) : ∀ u ∈ sc S, u.oneCell' = true := by
  induction S with
  | nil => intro u h; cases h
  | cons p r ih =>
    intro u h
    simp only [sc, List.mem_cons] at h
    rcases h with rfl | rfl | h
    · rfl
    · rfl
    · exact ih u h
theorem sc_get (S : List Sp) (j : Nat) (h : j < S.length) : (sc S)[j * 2]? = some (.int .i64 (S.getD j (0, 0)).1) ∧ (sc S)[j * 2 + 1]? = some (.int .i64 (S.getD j (0, 0)).2) := by
  induction S generalizing j with
  | nil => simp at h
  | cons p r ih =>
    cases j with
    | zero => simp [sc]
    | succ j =>
      have := ih j (by simpa using h)
      rw [show (j + 1) * 2 = j * 2 + 2 by omega, show j * 2 + 2 + 1 = (j * 2 + 1) + 2 by omega]
      simpa [sc] using this
theorem sc_at (S : List Sp) (i : Nat) (u : Value) (h : (sc S)[i]? = some u) : ∃ j, j < S.length ∧ ((i = j * 2 ∧ u = .int .i64 (S.getD j (0, 0)).1) ∨ (i = j * 2 + 1 ∧ u = .int .i64 (S.getD j (0, 0)).2)) := by
  have hlt : i < (sc S).length := (List.getElem?_eq_some_iff.1 h).1
  rw [sc_len] at hlt
  refine ⟨i / 2, by omega, ?_⟩
  have hg := sc_get S (i / 2) (by omega)
  by_cases he : i % 2 = 0
  · have e : i / 2 * 2 = i := by omega
    rw [e] at hg
    exact Or.inl ⟨e.symm, by rw [h] at hg; simpa using hg.1⟩
  · have e : i / 2 * 2 + 1 = i := by omega
    rw [e] at hg
    exact Or.inr ⟨e.symm, by rw [h] at hg; simpa using hg.2⟩

/-- The value v is a slice that reads as the spans S. -/
def Rs (w : World) (v : Value) (S : List Sp) : Prop :=
  ∃ (ao : Option Addr) (cap : Nat), v = .slice ao S.length cap ∧ S.length ≤ cap ∧ cap ≤ maxLen ∧ (ao = none → cap = 0) ∧
    (∀ a, ao = some a → ∀ j, j < S.length → w.cell? (a.add (j * 2)) = some (.int .i64 (S.getD j (0, 0)).1) ∧ w.cell? (a.add (j * 2 + 1)) = some (.int .i64 (S.getD j (0, 0)).2))
theorem Rs.nil (w : World) : Rs w (.slice none 0 0) [] := ⟨none, 0, rfl, by simp, by simp [maxLen], fun _ => rfl, fun a h => by cases h⟩
theorem Rs.keep {w w' : World} {v : Value} {S : List Sp} (h : Rs w v S) (hb : ∀ ad x, w.cell? ad = some x → (∃ n cap, v = .slice (some ⟨ad.block, 0, none⟩) n cap ∨ True) → w'.cell? ad = some x) : Rs w' v S := by
  obtain ⟨ao, cap, hv, h1, h2, h3, hc⟩ := h
  exact ⟨ao, cap, hv, h1, h2, h3, fun a ha j hj => ⟨hb _ _ (hc a ha j hj).1 ⟨0, 0, Or.inr trivial⟩, hb _ _ (hc a ha j hj).2 ⟨0, 0, Or.inr trivial⟩⟩⟩
theorem Rs.below {w w' : World} {v : Value} {S : List Sp} (h : Rs w v S) (hb : Below w.heap.size w w') : Rs w' v S := by
  obtain ⟨ao, cap, hv, h1, h2, h3, hc⟩ := h
  refine ⟨ao, cap, hv, h1, h2, h3, fun a ha j hj => ?_⟩
  have h := hc a ha j hj
  exact ⟨by rw [hb.cell (cell_lt h.1)]; exact h.1, by rw [hb.cell (cell_lt h.2)]; exact h.2⟩
/-- The shapes: none, or the cells lie in one block. -/
theorem Rs.cases {w : World} {v : Value} {S : List Sp} (h : Rs w v S) :
    (S = [] ∧ ∃ ao cap, v = .slice ao 0 cap ∧ cap ≤ 9223372036854775807) ∨
    ∃ b off cap, v = .slice (some ⟨b, off, none⟩) S.length cap ∧ 0 < S.length ∧ S.length ≤ cap ∧ cap ≤ 9223372036854775807 ∧ b < w.heap.size ∧
      ∀ j, j < S.length → w.cell? ⟨b, off + j * 2, none⟩ = some (.int .i64 (S.getD j (0, 0)).1) ∧ w.cell? ⟨b, off + j * 2 + 1, none⟩ = some (.int .i64 (S.getD j (0, 0)).2) := by
  obtain ⟨ao, cap, hv, h1, h2, h3, hc⟩ := h
  unfold maxLen at h2
  by_cases hz : S = []
  · subst hz; exact .inl ⟨rfl, ao, cap, hv, by omega⟩
  · have hl : 0 < S.length := List.length_pos_iff.2 hz
    cases ao with
    | none => have := h3 rfl; omega
    | some a =>
      obtain ⟨b, off, spot⟩ := a
      have h0 := (hc _ rfl 0 hl).1
      have hs : spot = none := by simpa [Addr.add] using World.cell?_spot h0
      subst hs
      refine .inr ⟨b, off, cap, hv, hl, h1, by omega, cell_lt (by simpa [Addr.add] using h0), fun j hj => ?_⟩
      have h := hc _ rfl j hj
      rw [Addr.add_lit, Addr.add_lit] at h
      exact h
theorem Rs.of_own {w : World} {base e : Nat} {v : Value} {n : Nat} {S : List Sp} (h : w.ownsRow base e 2 v n (sc S)) : Rs w v S ∧ n = S.length := by
  have hn : S.length = n := by have := h.1; rw [sc_len] at this; omega
  subst hn
  refine ⟨?_, rfl⟩
  have hcell := fun g (hg : v.ownBlock = some g) => World.ownsRow.cells h hg
  rcases h.2 with ⟨rfl, h0⟩ | ⟨g, cap, cur, rfl, _, hh, h1, h2, h3, h4⟩
  · have : S = [] := List.eq_nil_of_length_eq_zero h0
    subst this; exact Rs.nil w
  · refine ⟨some ⟨g, 0, none⟩, cap, rfl, h1, h2, (fun h => by cases h), fun a ha j hj => ?_⟩
    cases ha
    exact ⟨hcell g rfl _ _ (sc_get S j hj).1, hcell g rfl _ _ (sc_get S j hj).2⟩
/-- What reads as spans reads as the first, the last of them. -/
theorem Rs.take {w : World} {ao : Option Addr} {n cap : Nat} {S : List Sp} (h : Rs w (.slice ao n cap) S) (k : Nat) (hk : k ≤ S.length) : Rs w (.slice ao k cap) (S.take k) := by
  obtain ⟨a', c', hv, h1, h2, h3, hc⟩ := h
  cases hv
  have hl : (S.take k).length = k := by simp; omega
  refine ⟨_, _, by rw [hl], by omega, h2, h3, fun a ha j hj => ?_⟩
  rw [hl] at hj
  have e : (S.take k).getD j (0, 0) = S.getD j (0, 0) := by simp [List.getD, hj]
  rw [e]
  exact hc a ha j (by omega)

/-- append of spans onto a row that the call owns. -/
theorem wpList_append_spans {P : Program} {w : World} {ops : Array Oper} {rest : List Oper} {o : Oper} {a : Act} {Q : Exit → Act → World → Prop} (e : Nat) (s x : Operand) (t : TypeId)
    (hgd : Region.wanted o (yielded ops a.tmps) = true) (ho : o.op = .call { callee := .builtin .append, args := #[s, x], argTypes := #[t, t] })
    (hinfo : (P.info? e).map (fun i => (i.zero.map (·.cells.size), i.size, i.bytes)) = some (some 2, 2, 16)) (ht : P.underlying t = some (.slice e))
    (base : Nat) (v : Value) (n : Nat) (S : List Sp) (hs : a.eval s = v) (hown : w.ownsRow base e 2 v n (sc S))
    (xv : Value) (T : List Sp) (hx : a.eval x = xv) (hr : Rs w xv T) (hb1 : n + T.length ≤ 100000) (hbase : base ≤ w.heap.size)
    (h : ∀ v' w', w'.ownsRow base e 2 v' (n + T.length) (sc (S ++ T)) → Below base w w' → w.grownBy w' v.ownBlock → wpList P ops Q rest (a.put o.dst v') w') : wpList P ops Q (o :: rest) a w := by
  refine wpList_step fun K hK => ?_
  rw [if_pos hgd]
  obtain ⟨i, hi, hz⟩ : ∃ i, P.info? e = some i ∧ (i.zero.map (·.cells.size), i.size, i.bytes) = (some 2, 2, 16) := by
    cases he : P.info? e with
    | none => rw [he] at hinfo; cases hinfo
    | some i => rw [he] at hinfo; exact ⟨i, rfl, by simpa using hinfo⟩
  simp only [Prod.mk.injEq, Option.map_eq_some_iff] at hz
  obtain ⟨⟨z, hz0, hz3⟩, hz1, hz2⟩ := hz
  obtain ⟨ao, cap, rfl, h1, h2, h3, hc⟩ := hr
  cases ao with
  | none =>
    have hcap := h3 rfl
    have hy : T = [] := List.eq_nil_of_length_eq_zero (by omega)
    subst hy; subst hcap
    have hrun := run_append_owned_none (P := P) (w := w) base t o.type e i 2 ht hi v n (sc S) hown
    unfold Oper.wp
    simp [execOp, ho, resolve, invoke, builtin, hs, hx, hrun, Result.andThen]
    exact hK _ _ (h v w (by simpa using hown) (Below.refl _ _) (World.grownBy.refl _ _))
  | some ad =>
    refine wp_append_own w s x t ho base e i z 2 16 ht hi hz0 hz1 hz2 hz3 (by decide) v n (sc S) hs hown ad T.length cap (sc T) hx (by simp [sc_len]) ?_ (sc_one T) (by unfold maxLen; omega) (by omega) hbase ?_
    · intro j u hu
      obtain ⟨k, hk, ⟨rfl, rfl⟩ | ⟨rfl, rfl⟩⟩ := sc_at T j u hu
      · exact (hc ad rfl k hk).1
      · exact (hc ad rfl k hk).2
    · intro v' w' hown' hg _
      exact hK _ _ (h v' w' (by rw [sc_app]; exact hown') (below_own hown hbase hg) hg)
theorem info44 : (Tryd.prog.info? 56).map (fun i => (i.zero.map (·.cells.size), i.size, i.bytes)) = some (some 2, 2, 16) := by kernel_rfl
theorem info52 : (Tryd.prog.info? 55).map (fun i => (i.zero.map (·.cells.size), i.size, i.bytes)) = some (some 2, 2, 16) := by kernel_rfl

theorem rs_shape {w : World} {v : Value} {S : List Sp} (h : Rs w v S) : ∃ ao cap, v = .slice ao S.length cap := by
  obtain ⟨ao, cap, e, _⟩ := h; exact ⟨ao, cap, e⟩
theorem add_block (a : Addr) (k : Nat) : (a.add k).block = a.block := by unfold Addr.add; split <;> rfl
/-- It reads as spans, and where it has cells they lie from block lo on. -/
structure RsA (lo : Nat) (w : World) (v : Value) (S : List Sp) : Prop where
  rd : Rs w v S
  far : ∀ (a : Addr) (n cap : Nat), v = .slice (some a) n cap → S ≠ [] → lo ≤ a.block
theorem RsA.nil (lo : Nat) (w : World) : RsA lo w (.slice none 0 0) [] := ⟨Rs.nil w, fun _ _ _ h => by cases h⟩
theorem RsA.below {lo : Nat} {w w' : World} {v : Value} {S : List Sp} (h : RsA lo w v S) (hb : Below w.heap.size w w') : RsA lo w' v S := ⟨h.rd.below hb, h.far⟩
theorem RsA.mono {lo lo' : Nat} {w : World} {v : Value} {S : List Sp} (h : RsA lo w v S) (hl : lo' ≤ lo) : RsA lo' w v S := ⟨h.rd, fun a n c e hz => Nat.le_trans hl (h.far a n c e hz)⟩
/-- What lies from lo on stays where no block from lo on has changed. -/
theorem RsA.keep {lo : Nat} {w w' : World} {v : Value} {S : List Sp} (h : RsA lo w v S) (hb : ∀ k, k < w.heap.size → lo ≤ k → w'.heap[k]? = w.heap[k]?) : RsA lo w' v S := by
  refine ⟨?_, h.far⟩
  obtain ⟨ao, cap, hv, h1, h2, h3, hc⟩ := h.rd
  refine ⟨ao, cap, hv, h1, h2, h3, fun a ha j hj => ?_⟩
  have hz : S ≠ [] := fun e => by rw [e] at hj; simp at hj
  have hf := h.far a S.length cap (by rw [hv, ha]) hz
  have hx := hc a ha j hj
  have hlt := cell_lt hx.1
  rw [add_block] at hlt
  have key : ∀ k, w'.cell? (a.add k) = w.cell? (a.add k) := fun k => by
    unfold World.cell?
    rw [add_block, hb _ hlt hf]
  exact ⟨by rw [key]; exact hx.1, by rw [key]; exact hx.2⟩
theorem Ra.keep {lo : Nat} {w w' : World} {v : Value} {zs : List Int} (h : Ra lo w v zs) (hb : ∀ k, k < w.heap.size → lo ≤ k → w'.heap[k]? = w.heap[k]?) : Ra lo w' v zs := by
  refine ⟨?_, h.far⟩
  obtain ⟨ao, cap, hv, h1, h2, h3, h4, hc⟩ := h.rd
  refine ⟨ao, cap, hv, h1, h2, h3, h4, fun a ha j hj => ?_⟩
  have hz : zs ≠ [] := fun e => by rw [e] at hj; simp at hj
  have hf := h.far a zs.length cap (by rw [hv, ha]) hz
  have hx := hc a ha j hj
  have hlt := cell_lt hx
  rw [add_block] at hlt
  have key : w'.cell? (a.add j) = w.cell? (a.add j) := by
    unfold World.cell?
    rw [add_block, hb _ hlt hf]
  rw [key]; exact hx
theorem rsa_own {w : World} {base e : Nat} {v : Value} {n : Nat} {S : List Sp} (h : w.ownsRow base e 2 v n (sc S)) : RsA base w v S := by
  refine ⟨(Rs.of_own h).1, fun a n c e _ => ?_⟩
  rcases h.2 with ⟨rfl, _⟩ | ⟨g, cap, cur, rfl, hg, _⟩
  · cases e
  · cases e; exact hg
theorem own_keepG {w w' : World} {base : Nat} {e : TypeId} {size : Nat} {v : Value} {n : Nat} {xs : List Value} (h : w.ownsRow base e size v n xs) (hb : ∀ k, k < w.heap.size → base ≤ k → w'.heap[k]? = w.heap[k]?) : w'.ownsRow base e size v n xs := by
  obtain ⟨h1, h2⟩ := h
  refine ⟨h1, ?_⟩
  rcases h2 with h2 | ⟨g, cap, cur, hv, hg, hh, r⟩
  · exact .inl h2
  · exact .inr ⟨g, cap, cur, hv, hg, by rw [hb g (Array.getElem?_eq_some_iff.1 hh).1 hg]; exact hh, r⟩
#print axioms wpList_append_spans
#print axioms RsA.keep
end Go.Proofs.YtgcgmgcgbnepeaaDoor
