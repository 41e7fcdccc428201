/- add puts a node behind the table's nodes, where there is room; the map stays. -/
import Derived.Test.YtmplcibaoanlnaaNew
import Derived.Deep.RegionLaw
import Derived.BigRegion
namespace Go.Proofs.Ytmplcibaoanlnaa
open Go Go.RowKit

theorem info38 : (Try.prog.info? 47).map (fun i => (i.zero, i.size, i.bytes)) = some (some (.agg #[.int .i64 0, .string ByteArray.empty, .slice none 0 0]), 3, 48) := by kernel_rfl

/-- append of one node, as a step of a region that draws its order. -/
theorem step_append_node {ops : Array Oper} {o : Oper} {a : Act} {w : World} {K : Act → World → Prop} {Q : Exit → Act → World → Prop} {E : Prop} (s x : Operand)
    (hgd : o.guard = none) (ho : o.op = .call { callee := .builtin .append, args := #[s, x], argTypes := #[41, 41] })
    {B : Nat} {nv : Value} {L : List (Nd × Value)} (hs : a.eval s = nv) (hown : w.ownsRow B 47 3 nv L.length (ncells L)) (p : Nd × Value) (g : Nat) (hx : a.eval x = .slice (some ⟨g, 0, none⟩) 1 1)
    (hg : w.heap[g]? = some (.cells (ncells [p]).toArray 47 (0, 0))) (h1 : p.2.oneCell' = true) (hsmall : L.length < 65536) (hbase : B ≤ w.heap.size)
    (h : ∀ v' w', w'.ownsRow B 47 3 v' (L.length + 1) (ncells (L ++ [p])) → w.grownBy w' nv.ownBlock → (v'.ownBlock = nv.ownBlock ∨ v'.ownBlock = some w.heap.size) → K (a.put o.dst v') w') :
    if Region.wanted o (yielded ops a.tmps) = true then Oper.wp Try.prog o a w K Q else E := by
  have hw : Region.wanted o (yielded ops a.tmps) = true := by simp [Region.wanted, hgd]
  rw [if_pos hw]
  obtain ⟨i, hi, hz0, hz1, hz2⟩ := info_parts info38
  obtain ⟨v', w', hr, h2, h3, _, h5⟩ := run_append_own_at (P := Try.prog) w B 41 o.type 47 i _ 3 48 Try.underlying41 hi hz0 hz1 hz2 rfl (by decide) nv L.length (ncells L) hown ⟨g, 0, none⟩ 1 1 (ncells [p]) rfl
    (fun j u hu => by rw [Addr.add_lit, Nat.zero_add, cell_of_row w g j _ 47 (0, 0) hg]; simpa using hu)
    (fun u hu => by
      simp only [ncells, List.mem_cons, List.not_mem_nil, or_false] at hu
      rcases hu with rfl | rfl | rfl
      · rfl
      · rfl
      · exact h1) (by unfold maxLen; omega) (by omega) hbase
  unfold Oper.wp execOp
  simp only [ho, resolve, invoke, builtin, Sem.run_bind, Sem.run_pure, Result.andThen_ok, List.map_toArray, List.map_cons, List.map_nil, hs, hx, hr]
  exact h v' w' (by rw [ncells_app]; exact h2) h3 h5

theorem slice_one {w : World} {base : Nat} {e : TypeId} {size : Nat} {v : Value} {n : Nat} {xs : List Value} (h : w.ownsRow base e size v n xs) : v.oneCell' = true := by
  obtain ⟨ao, cap, rfl, _⟩ := own_shape h; rfl

theorem Tbl.tb_ne {w : World} {B tb mb : Nat} {nv : Value} {L : List (Nd × Value)} {f : Int → ByteArray → List Int → Option Int} (h : Tbl w B tb mb nv L f) : some tb ≠ nv.ownBlock := fun e => by
  obtain ⟨cur, hc⟩ := own_blk h.nodes e.symm
  rw [h.tab] at hc; cases hc
theorem Tbl.mb_ne {w : World} {B tb mb : Nat} {nv : Value} {L : List (Nd × Value)} {f : Int → ByteArray → List Int → Option Int} (h : Tbl w B tb mb nv L f) : some mb ≠ nv.ownBlock ∧ mb ≠ tb := by
  obtain ⟨D, ⟨es, clock, hb, _⟩, _⟩ := h.map
  refine ⟨fun e => ?_, fun e => ?_⟩
  · obtain ⟨cur, hc⟩ := own_blk h.nodes e.symm
    rw [hb] at hc; cases hc
  · rw [e, h.tab] at hb; cases hb

/-- Behind the append: the table's own block is as it was. -/
theorem add_mid {w w2 : World} {B tb mb : Nat} {nv : Value} {L : List (Nd × Value)} {f : Int → ByteArray → List Int → Option Int} (h : Tbl w B tb mb nv L f) (A O : Obj) (hg : ((w.alloc A).alloc O).drew.grownBy w2 nv.ownBlock) :
    w2.heap[tb]? = some (.cells #[nv, .map (some mb)] 43 (0, 0)) ∧ ∀ k, k < w.heap.size → some k ≠ nv.ownBlock → w2.heap[k]? = w.heap[k]? := by
  have hk : ∀ k, k < w.heap.size → some k ≠ nv.ownBlock → w2.heap[k]? = w.heap[k]? := fun k hk hne => by
    rw [hg.block k (by simp [World.drew]; omega) hne]
    show ((w.alloc A).alloc O).heap[k]? = _
    rw [Below.heap_alloc _ _ _ (by simp; omega)]
    exact Below.heap_alloc w A k hk
  refine ⟨?_, hk⟩
  rw [hk tb (blk_lt h.tab) h.tb_ne]; exact h.tab

theorem add_end {w w2 : World} {B tb mb : Nat} {nv v' : Value} {L : List (Nd × Value)} {f : Int → ByteArray → List Int → Option Int} (h : Tbl w B tb mb nv L f) (A O : Obj) (hg : ((w.alloc A).alloc O).drew.grownBy w2 nv.ownBlock)
    {p : Nd × Value} (hok : NdOk p.1) (hp : w.ownsRow B 26 1 p.2 p.1.2.2.length (cs .i64 p.1.2.2)) (hroom : L.length < 65536)
    (hown : w2.ownsRow B 47 3 v' (L.length + 1) (ncells (L ++ [p]))) (hloc : v'.ownBlock = nv.ownBlock ∨ v'.ownBlock = some ((w.alloc A).alloc O).drew.heap.size) :
    Tbl (w2.setCell ⟨tb, 0, none⟩ v') B tb mb v' (L ++ [p]) f ∧ Frm tb mb nv w (w2.setCell ⟨tb, 0, none⟩ v') ∧ Moved w nv v' ∧ (w2.setCell ⟨tb, 0, none⟩ v').heap[mb]? = w.heap[mb]? := by
  obtain ⟨h1, h2⟩ := add_mid h A O hg
  have hsz : w.heap.size + 2 ≤ w2.heap.size := by have := hg.size; simp [World.drew] at this; omega
  have hne : ∀ g, v'.ownBlock = some g → g ≠ tb := by
    intro g hgv e
    subst e
    obtain ⟨cur, hc⟩ := own_blk hown hgv
    rw [h1] at hc; cases hc
  have hset : ∀ k, k ≠ tb → (w2.setCell ⟨tb, 0, none⟩ v').heap[k]? = w2.heap[k]? := fun k hk => heap_setCell_other w2 _ k _ hk
  have htab : (w2.setCell ⟨tb, 0, none⟩ v').heap[tb]? = some (.cells #[v', .map (some mb)] 43 (0, 0)) := by
    rw [heap_setCell_same w2 tb 0 _ 43 _ h1]; rfl
  have hpart : ∀ {v : Value} {n : Nat} {xs : List Value}, w.ownsRow B 26 1 v n xs → (w2.setCell ⟨tb, 0, none⟩ v').ownsRow B 26 1 v n xs := fun ho => by
    refine own_keep ho fun g hgo => ?_
    obtain ⟨cur, hc⟩ := own_blk ho hgo
    have e1 : g ≠ tb := fun e => by rw [e, h.tab] at hc; cases hc
    rw [hset g e1, h2 g (ho.lt g hgo).2 (fun e => ?_)]
    obtain ⟨cur2, hc2⟩ := own_blk h.nodes e.symm
    rw [hc] at hc2; cases hc2
  refine ⟨⟨h.btb, h.bmb, htab, ?_, ?_, ?_, by simp; omega, ?_⟩, ⟨hg.os, hg.tape, hg.output, by simp [World.setCell]; omega, ?_⟩, ?_, ?_⟩
  · rw [List.length_append]
    exact own_keep hown fun g hgv => hset g (hne g hgv)
  · intro q hq
    rcases List.mem_append.1 hq with hq | hq
    · exact hpart (h.parts q hq)
    · obtain rfl := List.mem_singleton.1 hq; exact hpart hp
  · refine (h.map.mono (by simp)).keep ?_
    rw [hset mb h.mb_ne.2, h2 mb h.map.lt h.mb_ne.1]
  · intro q hq
    rcases List.mem_append.1 hq with hq | hq
    · exact h.ok q hq
    · obtain rfl := List.mem_singleton.1 hq; exact hok
  · intro k hk h3 _ h5
    rw [hset k h3, h2 k hk h5]
  · rcases hloc with e | e
    · exact .inl e
    · refine .inr fun g hgv => ?_
      rw [e] at hgv
      simp [World.drew] at hgv
      omega
  · rw [hset mb h.mb_ne.2, h2 mb h.map.lt h.mb_ne.1]

set_option maxHeartbeats 1000000 in
set_option maxRecDepth 20000 in
theorem add_any {w : World} {B tb mb : Nat} {nv : Value} {L : List (Nd × Value)} {f : Int → ByteArray → List Int → Option Int} (h : Tbl w B tb mb nv L f) (k : Int) (s : ByteArray) (ps : List Int) (pv : Value)
    (hok : NdOk (k, s, ps)) (hp : w.ownsRow B 26 1 pv ps.length (cs .i64 ps)) (hroom : L.length < 65536) :
    Calls Try.prog 20 #[.pointer (some ⟨tb, 0, none⟩), .agg #[.int .i64 k, .string s, pv]] w fun e w' => e = .returned (.int .i64 ((L.length : Int) + 1)) ∧ ∃ nv', Tbl w' B tb mb nv' (L ++ [((k, s, ps), pv)]) f ∧ Frm tb mb nv w w' ∧ Moved w nv nv' ∧ w'.heap[mb]? = w.heap[mb]? := by
  obtain ⟨ao, cap, hnv, hc1, hc2⟩ := own_shape h.nodes
  have htl := blk_lt h.tab
  have hpo := slice_one hp
  have hcT : w.cell? ⟨tb, 0, none⟩ = some nv := by simp [World.cell?, h.tab]
  have hfT : w.frozen? ⟨tb, 0, none⟩ = false := by simp [World.frozen?, h.tab]
  have hne : tb ≠ w.heap.size := by omega
  have HH := Lib.hid h
  have hB : B ≤ w.heap.size := by have := h.btb; omega
  clear h
  have hA : ((w.alloc (.cells #[.int .i64 k, .string s, pv] 47)).alloc (.cells #[.int .i64 k, .string s, pv] 47)).drew.heap[w.heap.size + 1]? = some (.cells (ncells [((k, s, ps), pv)]).toArray 47 (0, 0)) := by
    have := heap_alloc_new (w.alloc (.cells #[.int .i64 k, .string s, pv] 47)) (.cells #[.int .i64 k, .string s, pv] 47)
    simpa [World.drew, ncells] using this
  have hB2 : B ≤ ((w.alloc (.cells #[.int .i64 k, .string s, pv] 47)).alloc (.cells #[.int .i64 k, .string s, pv] 47)).drew.heap.size := by simp [World.drew]; omega
  have HA := Lib.hid hA
  have HB2 := Lib.hid hB2
  clear hA hB2
  obtain ⟨n, hn⟩ : ∃ n, n = L.length := ⟨_, rfl⟩
  rw [← hn] at hnv
  subst hnv
  have HN := Lib.hid hn
  have hd : (decide ((65536 : Int) ≤ (n : Int))) = false := by rw [decide_eq_false_iff_not]; omega
  have HR := Lib.hid hroom
  clear hn hc1 hc2 hroom
  go_enter Try.func20, Try.ntmps20
  go_wp2
  go_region_law (refine step_append_node (.tmp 15) (.tmp 17) rfl rfl (B := B) (nv := .slice ao n cap) (L := L) rfl (own_alloc (own_alloc HH.out.nodes _) _) ((k, s, ps), pv) (w.heap.size + 1) rfl ?_ hpo HR.out ?_ ?_; (next => exact HA.out); (next => exact HB2.out); intro v' w2 hown2 hg2 hloc2; have hm2 := (add_mid HH.out _ _ hg2).1; have hcT2 : w2.cell? ⟨tb, 0, none⟩ = some (.slice ao n cap) := (by simp [World.cell?, hm2]); have hfT2 : w2.frozen? ⟨tb, 0, none⟩ = false := (by simp [World.frozen?, hm2]); obtain ⟨ao', cap', rfl, _⟩ := own_shape hown2; have HG2 := Lib.hid hg2; clear hg2 hm2)
  all_goals
    go_wp2
    go_ret
    refine ⟨by simp, _, add_end HH.out _ _ HG2.out hok hp HR.out hown2 hloc2⟩
#print axioms add_any
end Go.Proofs.Ytmplcibaoanlnaa
