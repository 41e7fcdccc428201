/- The terms below one that weren't asked: what the mind's iterator hands its loop, whatever the loop does with them. -/
import Derived.Test.YtmplcibaoanlnaaKyA
import Derived.Test.YtmplcibaoanlnaaMgH
import Derived.RangeFuncNested
import Derived.RangeFuncBound
import Derived.RangeFuncCalls
import Derived.RangeFuncLeaves
import Derived.Shelf.Abstract
import Derived.Shelf.RegionOpen
import Derived.OwnWalkIn
import Derived.TacticsInMore
import Derived.LoopNIn
import Derived.LoopIn
import Derived.Sort.LoopGhostIn
import Derived.Maps.OwnIn
namespace Go.Proofs.Ytmplcibaoanlnaa
open Go Go.RowKit

theorem zeroNd (w : World) : (zeroValue 47).run Try.prog w = .ok (.agg #[.int .i64 0, .string ByteArray.empty, .slice none 0 0]) w := by kernel_rfl
/-- A store, for a walk inside a fence. -/
theorem wpListIn_updG {F : Fence} {nF : Nat} {w : World} {ops : Array Oper} {rest : List Oper} {o : Oper} {a : Act} {Q : Exit → Act → World → Prop} (hg : o.guard = none) (m x v : Operand) (t E : TypeId) (hop : o.op = Op.mapUpdate t m x v) (ht : Try.prog.underlying t = some (.map 26 E))
    {mb : Nat} {f : Int → Option Value} (h : MapG w mb f) {k : Int} (h1 : 1 ≤ k) (h2 : k ≤ 65536) (u : Value) (hm : a.eval m = .map (some mb)) (hx : a.eval x = .int .i64 k) (hv : a.eval v = u)
    (hK : ∀ w', MapG w' mb (fun j => if j = k then some u else f j) → w.grownBy w' (some mb) → wpListIn F nF Try.prog ops Q rest (a.put o.dst undef) w') : wpListIn F nF Try.prog ops Q (o :: rest) a w := by
  have hs := h.small
  obtain ⟨D, d1, d2⟩ := h.ex
  refine wpListIn_mapUpdate_own w hg m x v t hop 26 E keyT ht hR mb 65536 D hm d1 (by unfold maxLen; omega) _ _ _ hx hv (keyOfT (wfT h1 h2)) _ [] rfl fun w' hw hg => ?_
  have d3 := d2.put d1.isMap (wfT h1 h2) u
  have s3 : ∀ j v, (if j = k then some u else f j) = some v → 1 ≤ j ∧ j ≤ 65536 := fun j v hj => by
    by_cases e : j = k
    · exact ⟨by omega, by omega⟩
    · rw [if_neg e] at hj; exact hs j v hj
  exact hK w' ⟨⟨_, size_of_small hw (d3.small s3), d3⟩, s3⟩ hg
/-- A row of the call's own, cut by one. -/
theorem own_cut {w : World} {base : Nat} {g cap : Nat} {xs : List Int} {x : Int} (h : w.ownsRow base 26 1 (.slice (some ⟨g, 0, none⟩) (xs.length + 1) cap) (xs.length + 1) (cs .i64 (xs ++ [x]))) :
    w.ownsRow base 26 1 (.slice (some ⟨g, 0, none⟩) xs.length cap) xs.length (cs .i64 xs) := by
  obtain ⟨_, h2⟩ := h
  refine ⟨by simp [cs_len], .inr ?_⟩
  rcases h2 with ⟨h2, _⟩ | ⟨g', cap', cur, e, hg, hh, r1, r2, r3, r4⟩
  · cases h2
  · cases e
    refine ⟨g, cap, cur, rfl, hg, hh, by omega, r2, r3, ?_⟩
    have := congrArg (List.take xs.length) r4
    rw [List.take_take, Nat.mul_one] at this
    rw [Nat.mul_one, ← Nat.min_eq_left (Nat.le_succ xs.length), this, cs_app, List.take_append_of_le_length (by simp [cs_len])]
    exact List.take_of_length_le (by simp [cs_len])
/-- What holds while the terms below one are gathered. -/
structure Dfs (N : List Nd) (S : MS) (h : Int) (W : World) (f : Int → Option Value) (V O : List Int) (ov : Value) (wr : World) : Prop where
  own : wr.ownsRow (W.heap.size + 1) 26 1 ov O.length (cs .i64 O)
  map : MapG wr W.heap.size f
  bel : Below W.heap.size W wr
  vs : ∀ x, f x ≠ none ↔ x ∈ V
  nd : V.Nodup
  inn : ∀ x ∈ V, 1 ≤ x ∧ x ≤ (N.length : Int) ∧ S.st x = 0
  node : ∀ x v, f x = some v → ∃ s a cp, v = .agg #[.int .i64 (kindN N x), .string s, .slice a (partsN N x).length cp] ∧ wr.ownsRow (W.heap.size + 1) 26 1 (.slice a (partsN N x).length cp) (partsN N x).length (cs .i64 (partsN N x)) ∧ (∀ g, (Value.slice a (partsN N x).length cp).ownBlock = some g → ov.ownBlock ≠ some g)
  down : ∀ x ∈ V, ∀ y ∈ partsN N x, y ∈ V ∨ y ∈ O ∨ S.st y ≠ 0
  top : h ∈ V ∨ h ∈ O ∨ S.st h ≠ 0 ∨ ¬ (1 ≤ h ∧ h ≤ (N.length : Int))
  wf : ∀ y ∈ O, (Lit.int .i64 y).wf = true
/-- One is taken off that need not be gone through. -/
theorem Dfs.pop {N : List Nd} {S : MS} {h : Int} {W : World} {f : Int → Option Value} {V O : List Int} {x : Int} {g cap : Nat} {wr w' : World} (d : Dfs N S h W f V (O ++ [x]) (.slice (some ⟨g, 0, none⟩) (O.length + 1) cap) wr)
    (hx : x ∈ V ∨ S.st x ≠ 0 ∨ ¬ (1 ≤ x ∧ x ≤ (N.length : Int))) (hN : Wf N) (hb : Below wr.heap.size wr w') : Dfs N S h W f V O (.slice (some ⟨g, 0, none⟩) O.length cap) w' where
  own := own_below (own_cut (by simpa using d.own)) hb
  map := d.map.keep (hb.block _ d.map.lt)
  bel := d.bel.trans (hb.mono d.bel.size)
  vs := d.vs
  nd := d.nd
  inn := d.inn
  node := fun y v e => by
    obtain ⟨s, a, cp, h1, h2, h3⟩ := d.node y v e
    exact ⟨s, a, cp, h1, own_below h2 hb, h3⟩
  down := fun y hy z hz => by
    rcases d.down y hy z hz with e | e | e
    · exact .inl e
    · rcases List.mem_append.1 e with e | e
      · exact .inr (.inl e)
      · rw [List.mem_singleton] at e
        subst e
        have hl := hN.low y (d.inn y hy).1 (d.inn y hy).2.1 z hz
        have := (d.inn y hy).2.1
        rcases hx with e | e | e
        · exact .inl e
        · exact .inr (.inr e)
        · exact absurd ⟨hl.1, by omega⟩ e
    · exact .inr (.inr e)
  top := by
    rcases d.top with e | e | e | e
    · exact .inl e
    · rcases List.mem_append.1 e with e | e
      · exact .inr (.inl e)
      · rw [List.mem_singleton] at e
        subst e
        rcases hx with e | e | e
        · exact .inl e
        · exact .inr (.inr (.inl e))
        · exact .inr (.inr (.inr e))
    · exact .inr (.inr (.inl e))
    · exact .inr (.inr (.inr e))
  wf := fun y hy => d.wf y (by simp [hy])
/-- One is gone through: its parts are to be. -/
theorem Dfs.push {N : List Nd} {S : MS} {h : Int} {W : World} {f : Int → Option Value} {V O : List Int} {x : Int} {g cap : Nat} {wr w4 w5 w6 : World} {s : ByteArray} {ap : Option Addr} {cp : Nat} {v' : Value} (d : Dfs N S h W f V (O ++ [x]) (.slice (some ⟨g, 0, none⟩) (O.length + 1) cap) wr)
    (hx : 1 ≤ x ∧ x ≤ (N.length : Int)) (hst : S.st x = 0) (hnew : f x = none) (hN : Wf N) (hb : Below wr.heap.size wr w4) (hpv : w4.ownsRow wr.heap.size 26 1 (.slice ap (partsN N x).length cp) (partsN N x).length (cs .i64 (partsN N x)))
    (hm : MapG w5 W.heap.size (fun j => if j = x then some (.agg #[.int .i64 (kindN N x), .string s, .slice ap (partsN N x).length cp]) else f j)) (hg5 : w4.grownBy w5 (some W.heap.size))
    (ho : w6.ownsRow (W.heap.size + 1) 26 1 v' (O.length + (partsN N x).length) (cs .i64 (O ++ partsN N x))) (hg6 : w5.grownBy w6 (some g)) (hl : v'.ownBlock = some g ∨ v'.ownBlock = some w5.heap.size) :
    Dfs N S h W (fun j => if j = x then some (.agg #[.int .i64 (kindN N x), .string s, .slice ap (partsN N x).length cp]) else f j) (x :: V) (O ++ partsN N x) v' w6 := by
  have b5 : Below 0 w4 w5 := (Below.refl 0 w4).grown hg5 (Nat.zero_le _) fun k _ => Nat.zero_le _
  have b6 : Below 0 w5 w6 := (Below.refl 0 w5).grown hg6 (Nat.zero_le _) fun k _ => Nat.zero_le _
  have s4 := hb.size
  have s5 := b5.size
  have s6 := b6.size
  have hgd := d.own.lt g rfl
  have hnb := d.map.lt
  have keep : ∀ k, k < w4.heap.size → k ≠ W.heap.size → k ≠ g → w6.heap[k]? = w4.heap[k]? := fun k hk h1 h2 => by
    rw [hg6.block k (by omega) (fun e => h2 (Option.some.inj e)), hg5.block k hk (fun e => h1 (Option.some.inj e))]
  have hlow := hN.low x hx.1 hx.2
  exact
  { own := by simpa using ho
    map := hm.keep (hg6.block _ hm.lt (fun e => by have := Option.some.inj e; omega))
    bel := ((d.bel.trans (hb.mono d.bel.size)).grown hg5 (by have := d.bel.size; omega) (fun k e => by cases e; exact Nat.le_refl _)).grown hg6 (by have := d.bel.size; omega) (fun k e => by cases e; omega)
    vs := fun y => by
      by_cases e : y = x
      · simp [e]
      · simp only [e, if_false, List.mem_cons, false_or]; exact d.vs y
    nd := List.nodup_cons.2 ⟨fun e => (d.vs x).2 e hnew, d.nd⟩
    inn := fun y hy => by
      rcases List.mem_cons.1 hy with rfl | hy
      · exact ⟨hx.1, hx.2, hst⟩
      · exact d.inn y hy
    node := fun y v e => by
      by_cases ey : y = x
      · subst ey
        rw [if_pos rfl] at e
        cases e
        refine ⟨s, ap, cp, rfl, own_mono (own_keep hpv fun k hk => keep k (hpv.lt k hk).2 (by have := (hpv.lt k hk).1; omega) (by have := (hpv.lt k hk).1; omega)) (by omega), fun k hk e2 => ?_⟩
        have := hpv.lt k hk
        rcases hl with e3 | e3
        · rw [e3] at e2; cases e2; omega
        · rw [e3] at e2; cases e2; omega
      · rw [if_neg ey] at e
        obtain ⟨s', a', c', h1, h2, h3⟩ := d.node y v e
        refine ⟨s', a', c', h1, own_keep (own_below h2 hb) fun k hk => ?_, fun k hk e2 => ?_⟩
        · have h4 := h2.lt k hk
          exact keep k (by omega) (by omega) (fun e4 => h3 k hk (by rw [e4]; rfl))
        · have h4 := h2.lt k hk
          rcases hl with e3 | e3
          · rw [e3] at e2; exact h3 k hk e2
          · rw [e3] at e2; cases e2; omega
    down := fun y hy z hz => by
      rcases List.mem_cons.1 hy with rfl | hy
      · exact .inr (.inl (by simp [hz]))
      · rcases d.down y hy z hz with e | e | e
        · exact .inl (by simp [e])
        · rcases List.mem_append.1 e with e | e
          · exact .inr (.inl (by simp [e]))
          · rw [List.mem_singleton] at e; exact .inl (by simp [e])
        · exact .inr (.inr e)
    top := by
      rcases d.top with e | e | e | e
      · exact .inl (by simp [e])
      · rcases List.mem_append.1 e with e | e
        · exact .inr (.inl (by simp [e]))
        · rw [List.mem_singleton] at e; exact .inl (by simp [e])
      · exact .inr (.inr (.inl e))
      · exact .inr (.inr (.inr e))
    wf := fun y hy => by
      rcases List.mem_append.1 hy with hy | hy
      · exact d.wf y (by simp [hy])
      · have := hlow y hy
        have := hN.few
        exact wfT (by omega) (by omega) }
theorem grown_size {w w' : World} {row : Option Nat} (h : w.grownBy w' row) : w.heap.size ≤ w'.heap.size := h.size
theorem own_sync {N : List Nd} {S : MS} {h : Int} {W : World} {f : Int → Option Value} {V O : List Int} {x : Int} {g cap : Nat} {wr w1 w5 : World} (d : Dfs N S h W f V (O ++ [x]) (.slice (some ⟨g, 0, none⟩) (O.length + 1) cap) wr) (hb : Below wr.heap.size wr w1) (hg : w1.grownBy w5 (some W.heap.size)) :
    w5.ownsRow (W.heap.size + 1) 26 1 (.slice (some ⟨g, 0, none⟩) O.length cap) O.length (cs .i64 O) := by
  have h0 := own_below (own_cut (by simpa using d.own)) hb
  exact own_keep h0 fun k hk => hg.block k (h0.lt k hk).2 (fun e => by have h1 := (h0.lt k hk).1; have := Option.some.inj e; omega)
theorem rd_sync {N : List Nd} {S : MS} {h : Int} {W : World} {f : Int → Option Value} {V O : List Int} {ov : Value} {wr w4 w5 : World} {o : Obj} {pv : Value} {ps : List Int} (d : Dfs N S h W f V O ov wr) (ho : (w4.alloc o).ownsRow (wr.alloc (.cells #[.int .i64 0, .string ByteArray.empty, .slice none 0 0] 47)).heap.size 26 1 pv ps.length (cs .i64 ps)) (hg : (w4.alloc o).grownBy w5 (some W.heap.size)) : Rd .i64 w5 pv ps := by
  have := d.map.lt
  exact (Rd.of_own (own_keep ho fun k hk => hg.block k (ho.lt k hk).2 (fun e => by have h1 := (ho.lt k hk).1; have := Option.some.inj e; simp at h1; omega))).1
theorem wpListIn_append_list {F : Fence} {nF : Nat} {w : World} {ops : Array Oper} {rest : List Oper} {o : Oper} {a : Act} {Q : Exit → Act → World → Prop} (s x : Operand)
    (hgd : o.guard = none) (ho : o.op = .call { callee := .builtin .append, args := #[s, x], argTypes := #[31, 31] })
    (base : Nat) (v : Value) (n : Nat) (xs : List Int) (hs : a.eval s = v) (hown : w.ownsRow base 26 1 v n (cs .i64 xs))
    (xv : Value) (ys : List Int) (hx : a.eval x = xv) (hr : Rd .i64 w xv ys) (hn : n ≤ 2000000) (hy : ys.length ≤ 1000) (hbase : base ≤ w.heap.size)
    (h : ∀ v' w', w'.ownsRow base 26 1 v' (n + ys.length) (cs .i64 (xs ++ ys)) → w.grownBy w' v.ownBlock → (v'.ownBlock = v.ownBlock ∨ v'.ownBlock = some w.heap.size) → wpListIn F nF Try.prog ops Q rest (a.put o.dst v') w') : wpListIn F nF Try.prog ops Q (o :: rest) a w := by
  obtain ⟨i, hi, hz0, hz1, hz2⟩ := info_parts info32
  obtain ⟨ao, cap, rfl, h1, h2, h3, hc⟩ := hr
  cases ao with
  | none =>
    have hcap := h3 rfl
    have hy : ys = [] := List.eq_nil_of_length_eq_zero (by omega)
    subst hy; subst hcap
    refine wpListIn_plain hgd fun K hK => ?_
    have hrun := run_append_owned_none (P := Try.prog) (w := w) base 31 o.type 26 i 1 Try.underlying31 hi v n (cs .i64 xs) hown
    unfold Oper.wpIn
    refine ⟨by simp [Oper.about, ho, resolve, Target.leads, Sem.run_pure], ?_⟩
    rw [Oper.semAt_plain F _ _ (by rw [ho]; intro c hc'; cases hc')]
    simp [execOp, ho, resolve, invoke, builtin, hs, hx, hrun, Result.andThen]
    exact hK _ _ (h v w (by simpa using hown) (World.grownBy.refl _ _) (.inl rfl))
  | some ad =>
    refine wpListIn_append_own_at w hgd s x 31 ho base 26 i (.int .i64 0) 1 8 Try.underlying31 hi hz0 hz1 hz2 rfl (by decide) v n (cs .i64 xs) hs hown ad ys.length cap (cs .i64 ys) hx (by simp [cs_len]) ?_ (cs_one .i64 ys) (by unfold maxLen; omega) (by omega) hbase ?_
    · intro j u hu
      have hj : j < ys.length := by
        have := (List.getElem?_eq_some_iff.1 hu).1
        simpa [cs_len] using this
      rw [cs_get .i64 ys j hj] at hu
      cases hu
      exact hc ad rfl j hj
    · intro v' w' ho' hg _ hl
      exact h v' w' (by rw [cs_app]; exact ho') hg hl
#print axioms Dfs.push
end Go.Proofs.Ytmplcibaoanlnaa
