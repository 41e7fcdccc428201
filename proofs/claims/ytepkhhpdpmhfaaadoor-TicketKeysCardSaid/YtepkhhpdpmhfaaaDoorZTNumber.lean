/- number tells the number of a node that may be there already, and puts it there if it is not. -/
import Derived.Test.YtepkhhpdpmhfaaaDoorZTNew
import Derived.Deep.RegionLaw
import Derived.BigRegion
namespace Go.Proofs.YtepkhhpdpmhfaaaDoor.T
open Go Go.RowKit

theorem info38 : (Tryd.prog.info? 54).map (fun i => (i.zero, i.size, i.bytes)) = some (some (.agg #[.int .i64 0, .string ByteArray.empty, .slice none 0 0]), 3, 48) := by kernel_rfl

/-- append of one node, as a step of a region that draws its order. -/
theorem step_append_node {ops : Array Oper} {o : Oper} {a : Act} {w : World} {K : Act → World → Prop} {Q : Exit → Act → World → Prop} {E : Prop} (s x : Operand)
    (hgd : o.guard = none) (ho : o.op = .call { callee := .builtin .append, args := #[s, x], argTypes := #[49, 49] })
    {B : Nat} {nv : Value} {L : List (Nd × Value)} (hs : a.eval s = nv) (hown : w.ownsRow B 54 3 nv L.length (ncells L)) (p : Nd × Value) (g : Nat) (hx : a.eval x = .slice (some ⟨g, 0, none⟩) 1 1)
    (hg : w.heap[g]? = some (.cells (ncells [p]).toArray 54 (0, 0))) (h1 : p.2.oneCell' = true) (hsmall : L.length < 65536) (hbase : B ≤ w.heap.size)
    (h : ∀ v' w', w'.ownsRow B 54 3 v' (L.length + 1) (ncells (L ++ [p])) → w.grownBy w' nv.ownBlock → (v'.ownBlock = nv.ownBlock ∨ v'.ownBlock = some w.heap.size) → K (a.put o.dst v') w') :
    if Region.wanted o (yielded ops a.tmps) = true then Oper.wp Tryd.prog o a w K Q else E := by
  have hw : Region.wanted o (yielded ops a.tmps) = true := by simp [Region.wanted, hgd]
  rw [if_pos hw]
  obtain ⟨i, hi, hz0, hz1, hz2⟩ := info_parts info38
  obtain ⟨v', w', hr, h2, h3, _, h5⟩ := run_append_own_at (P := Tryd.prog) w B 49 o.type 54 i _ 3 48 Tryd.underlying49 hi hz0 hz1 hz2 rfl (by decide) nv L.length (ncells L) hown ⟨g, 0, none⟩ 1 1 (ncells [p]) rfl
    (fun j u hu => by rw [Addr.add_lit, Nat.zero_add, cell_of_row w g j _ 54 (0, 0) hg]; simpa using hu)
    (fun u hu => by
      simp only [ncells, List.mem_cons, List.not_mem_nil, or_false] at hu
      rcases hu with rfl | rfl | rfl
      · rfl
      · rfl
      · exact h1) (by unfold maxLen; omega) (by omega) hbase
  unfold Oper.wp execOp
  simp only [ho, resolve, invoke, builtin, Sem.run_bind, Sem.run_pure, Result.andThen_ok, List.map_toArray, List.map_cons, List.map_nil, hs, hx, hr]
  exact h v' w' (by rw [ncells_app]; exact h2) h3 h5

theorem slice_one {w : World} {base : Nat} {e : TypeId} {size : Nat} {v : Value} {n : Nat} {xs : List Value} (h : w.ownsRow base e size v n xs) : v.oneCell' = true := by
  obtain ⟨ao, cap, rfl, _⟩ := own_shape h; rfl

theorem Tbl.tb_ne {w : World} {B tb mb : Nat} {nv : Value} {L : List (Nd × Value)} {f : Int → ByteArray → List Int → Option Int} (h : Tbl w B tb mb nv L f) : some tb ≠ nv.ownBlock := fun e => by
  obtain ⟨cur, hc⟩ := own_blk h.nodes e.symm
  rw [h.tab] at hc; cases hc
theorem Tbl.mb_ne {w : World} {B tb mb : Nat} {nv : Value} {L : List (Nd × Value)} {f : Int → ByteArray → List Int → Option Int} (h : Tbl w B tb mb nv L f) : some mb ≠ nv.ownBlock ∧ mb ≠ tb := by
  obtain ⟨D, ⟨es, clock, hb, _⟩, _⟩ := h.map
  refine ⟨fun e => ?_, fun e => ?_⟩
  · obtain ⟨cur, hc⟩ := own_blk h.nodes e.symm
    rw [hb] at hc; cases hc
  · rw [e, h.tab] at hb; cases hb

/-- Behind the append: the table's own block is as it was. -/
theorem add_mid {w w2 : World} {B tb mb : Nat} {nv : Value} {L : List (Nd × Value)} {f : Int → ByteArray → List Int → Option Int} (h : Tbl w B tb mb nv L f) (A O : Obj) (hg : ((w.alloc A).alloc O).drew.grownBy w2 nv.ownBlock) :
    w2.heap[tb]? = some (.cells #[nv, .map (some mb)] 51 (0, 0)) ∧ ∀ k, k < w.heap.size → some k ≠ nv.ownBlock → w2.heap[k]? = w.heap[k]? := by
  have hk : ∀ k, k < w.heap.size → some k ≠ nv.ownBlock → w2.heap[k]? = w.heap[k]? := fun k hk hne => by
    rw [hg.block k (by simp [World.drew]; omega) hne]
    show ((w.alloc A).alloc O).heap[k]? = _
    rw [Below.heap_alloc _ _ _ (by simp; omega)]
    exact Below.heap_alloc w A k hk
  refine ⟨?_, hk⟩
  rw [hk tb (blk_lt h.tab) h.tb_ne]; exact h.tab

theorem add_end {w w2 : World} {B tb mb : Nat} {nv v' : Value} {L : List (Nd × Value)} {f : Int → ByteArray → List Int → Option Int} (h : Tbl w B tb mb nv L f) (A O : Obj) (hg : ((w.alloc A).alloc O).drew.grownBy w2 nv.ownBlock)
    {p : Nd × Value} (hok : NdOk p.1) (hp : w.ownsRow B 27 1 p.2 p.1.2.2.length (cs .i64 p.1.2.2)) (hroom : L.length < 65536)
    (hown : w2.ownsRow B 54 3 v' (L.length + 1) (ncells (L ++ [p]))) (hloc : v'.ownBlock = nv.ownBlock ∨ v'.ownBlock = some ((w.alloc A).alloc O).drew.heap.size) :
    Tbl (w2.setCell ⟨tb, 0, none⟩ v') B tb mb v' (L ++ [p]) f ∧ Frm tb mb nv w (w2.setCell ⟨tb, 0, none⟩ v') ∧ Moved w nv v' ∧ (w2.setCell ⟨tb, 0, none⟩ v').heap[mb]? = w.heap[mb]? := by
  obtain ⟨h1, h2⟩ := add_mid h A O hg
  have hsz : w.heap.size + 2 ≤ w2.heap.size := by have := hg.size; simp [World.drew] at this; omega
  have hne : ∀ g, v'.ownBlock = some g → g ≠ tb := by
    intro g hgv e
    subst e
    obtain ⟨cur, hc⟩ := own_blk hown hgv
    rw [h1] at hc; cases hc
  have hset : ∀ k, k ≠ tb → (w2.setCell ⟨tb, 0, none⟩ v').heap[k]? = w2.heap[k]? := fun k hk => heap_setCell_other w2 _ k _ hk
  have htab : (w2.setCell ⟨tb, 0, none⟩ v').heap[tb]? = some (.cells #[v', .map (some mb)] 51 (0, 0)) := by
    rw [heap_setCell_same w2 tb 0 _ 51 _ h1]; rfl
  have hpart : ∀ {v : Value} {n : Nat} {xs : List Value}, w.ownsRow B 27 1 v n xs → (w2.setCell ⟨tb, 0, none⟩ v').ownsRow B 27 1 v n xs := fun ho => by
    refine own_keep ho fun g hgo => ?_
    obtain ⟨cur, hc⟩ := own_blk ho hgo
    have e1 : g ≠ tb := fun e => by rw [e, h.tab] at hc; cases hc
    rw [hset g e1, h2 g (ho.lt g hgo).2 (fun e => ?_)]
    obtain ⟨cur2, hc2⟩ := own_blk h.nodes e.symm
    rw [hc] at hc2; cases hc2
  refine ⟨⟨h.btb, h.bmb, htab, ?_, ?_, ?_, by simp; omega, ?_⟩, ⟨hg.os, hg.tape, hg.output, by simp [World.setCell]; omega, ?_⟩, ?_, ?_⟩
  · rw [List.length_append]
    exact own_keep hown fun g hgv => hset g (hne g hgv)
  · intro q hq
    rcases List.mem_append.1 hq with hq | hq
    · exact hpart (h.parts q hq)
    · obtain rfl := List.mem_singleton.1 hq; exact hpart hp
  · refine (h.map.mono (by simp)).keep ?_
    rw [hset mb h.mb_ne.2, h2 mb h.map.lt h.mb_ne.1]
  · intro q hq
    rcases List.mem_append.1 hq with hq | hq
    · exact h.ok q hq
    · obtain rfl := List.mem_singleton.1 hq; exact hok
  · intro k hk h3 _ h5
    rw [hset k h3, h2 k hk h5]
  · rcases hloc with e | e
    · exact .inl e
    · refine .inr fun g hgv => ?_
      rw [e] at hgv
      simp [World.drew] at hgv
      omega
  · rw [hset mb h.mb_ne.2, h2 mb h.map.lt h.mb_ne.1]

set_option maxHeartbeats 1000000 in
set_option maxRecDepth 20000 in
theorem add_any {w : World} {B tb mb : Nat} {nv : Value} {L : List (Nd × Value)} {f : Int → ByteArray → List Int → Option Int} (h : Tbl w B tb mb nv L f) (k : Int) (s : ByteArray) (ps : List Int) (pv : Value)
    (hok : NdOk (k, s, ps)) (hp : w.ownsRow B 27 1 pv ps.length (cs .i64 ps)) (hroom : L.length < 65536) :
    Calls Tryd.prog 16 #[.pointer (some ⟨tb, 0, none⟩), .agg #[.int .i64 k, .string s, pv]] w fun e w' => e = .returned (.int .i64 ((L.length : Int) + 1)) ∧ ∃ nv', Tbl w' B tb mb nv' (L ++ [((k, s, ps), pv)]) f ∧ Frm tb mb nv w w' ∧ Moved w nv nv' ∧ w'.heap[mb]? = w.heap[mb]? := by
  obtain ⟨ao, cap, hnv, hc1, hc2⟩ := own_shape h.nodes
  have htl := blk_lt h.tab
  have hpo := slice_one hp
  have hcT : w.cell? ⟨tb, 0, none⟩ = some nv := by simp [World.cell?, h.tab]
  have hfT : w.frozen? ⟨tb, 0, none⟩ = false := by simp [World.frozen?, h.tab]
  have hne : tb ≠ w.heap.size := by omega
  have HH := Lib.hid h
  have hB : B ≤ w.heap.size := by have := h.btb; omega
  clear h
  have hA : ((w.alloc (.cells #[.int .i64 k, .string s, pv] 54)).alloc (.cells #[.int .i64 k, .string s, pv] 54)).drew.heap[w.heap.size + 1]? = some (.cells (ncells [((k, s, ps), pv)]).toArray 54 (0, 0)) := by
    have := heap_alloc_new (w.alloc (.cells #[.int .i64 k, .string s, pv] 54)) (.cells #[.int .i64 k, .string s, pv] 54)
    simpa [World.drew, ncells] using this
  have hB2 : B ≤ ((w.alloc (.cells #[.int .i64 k, .string s, pv] 54)).alloc (.cells #[.int .i64 k, .string s, pv] 54)).drew.heap.size := by simp [World.drew]; omega
  have HA := Lib.hid hA
  have HB2 := Lib.hid hB2
  clear hA hB2
  obtain ⟨n, hn⟩ : ∃ n, n = L.length := ⟨_, rfl⟩
  rw [← hn] at hnv
  subst hnv
  have HN := Lib.hid hn
  have hd : (decide ((65536 : Int) ≤ (n : Int))) = false := by rw [decide_eq_false_iff_not]; omega
  have HR := Lib.hid hroom
  clear hn hc1 hc2 hroom
  go_enter Tryd.func16, Tryd.ntmps16
  go_wp2
  go_region_law (refine step_append_node (.tmp 15) (.tmp 17) rfl rfl (B := B) (nv := .slice ao n cap) (L := L) rfl (own_alloc (own_alloc HH.out.nodes _) _) ((k, s, ps), pv) (w.heap.size + 1) rfl ?_ hpo HR.out ?_ ?_; (next => exact HA.out); (next => exact HB2.out); intro v' w2 hown2 hg2 hloc2; have hm2 := (add_mid HH.out _ _ hg2).1; have hcT2 : w2.cell? ⟨tb, 0, none⟩ = some (.slice ao n cap) := (by simp [World.cell?, hm2]); have hfT2 : w2.frozen? ⟨tb, 0, none⟩ = false := (by simp [World.frozen?, hm2]); obtain ⟨ao', cap', rfl, _⟩ := own_shape hown2; have HG2 := Lib.hid hg2; clear hg2 hm2)
  all_goals
    go_wp2
    go_ret
    refine ⟨by simp, _, add_end HH.out _ _ HG2.out hok hp HR.out hown2 hloc2⟩
#print axioms add_any
end Go.Proofs.YtepkhhpdpmhfaaaDoor.T
namespace Go.Proofs.YtepkhhpdpmhfaaaDoor.T
open Go Go.RowKit

theorem info32 : (Tryd.prog.info? 27).map (fun i => (i.zero, i.size, i.bytes)) = some (some (.int .i64 0), 1, 8) := by kernel_rfl
set_option maxRecDepth 20000 in
theorem ret_int {k : IntKind} {a b : Int} (h : a = b) : Ending.returned (.int k a) = .returned (.int k b) := by rw [h]

set_option maxRecDepth 20000 in
theorem size_nil (w : World) : Calls Tryd.prog 48 #[.pointer none] w fun e w' => e = .returned (.int .i64 0) ∧ w = w' := by
  go_enter Tryd.func48, Tryd.ntmps48
  go_wp2
  go_ret
  exact ⟨rfl, rfl⟩
set_option maxHeartbeats 400000 in
set_option maxRecDepth 20000 in
theorem size_any {w : World} {B tb mb : Nat} {nv : Value} {L : List (Nd × Value)} {f : Int → ByteArray → List Int → Option Int} (h : Tbl w B tb mb nv L f) :
    Calls Tryd.prog 48 #[.pointer (some ⟨tb, 0, none⟩)] w fun e w' => e = .returned (.int .i64 (L.length : Int)) ∧ w = w' := by
  obtain ⟨ao, cap, hnv, _⟩ := own_shape h.nodes
  have hcT : w.cell? ⟨tb, 0, none⟩ = some nv := by simp [World.cell?, h.tab]
  subst hnv
  clear h
  go_enter Tryd.func48, Tryd.ntmps48
  go_wp2
  go_ret
  exact ⟨rfl, rfl⟩

set_option maxHeartbeats 400000 in
set_option maxRecDepth 20000 in
theorem has_yes {w : World} {B tb mb : Nat} {nv : Value} {L : List (Nd × Value)} {f : Int → ByteArray → List Int → Option Int} (h : Tbl w B tb mb nv L f) (t : Int) (h0 : 1 ≤ t) (h1 : t ≤ (L.length : Int)) :
    Calls Tryd.prog 33 #[.pointer (some ⟨tb, 0, none⟩), .int .i64 t] w fun e w' => e = .returned (.bool true) ∧ w = w' := by
  have hs := size_any h
  clear h
  generalize (L.length : Int) = n at *
  have h2 : 0 < t := by omega
  go_enter Tryd.func33, Tryd.ntmps33
  go_wp2_with (go_at_call 48; refine hs.mono ?_; rintro e w' ⟨rfl, rfl⟩)
  go_ret
  exact ⟨rfl, rfl⟩
set_option maxHeartbeats 400000 in
set_option maxRecDepth 20000 in
theorem has_no {w : World} {B tb mb : Nat} {nv : Value} {L : List (Nd × Value)} {f : Int → ByteArray → List Int → Option Int} (h : Tbl w B tb mb nv L f) (t : Int) (h0 : t < 1 ∨ (L.length : Int) < t) :
    Calls Tryd.prog 33 #[.pointer (some ⟨tb, 0, none⟩), .int .i64 t] w fun e w' => e = .returned (.bool false) ∧ w = w' := by
  have hs := size_any h
  clear h
  generalize (L.length : Int) = n at *
  by_cases h2 : 0 < t
  · have h1 : decide (t ≤ n) = false := by rw [decide_eq_false_iff_not]; omega
    clear h0
    go_enter Tryd.func33, Tryd.ntmps33
    go_wp2_with (go_at_call 48; refine hs.mono ?_; rintro e w' ⟨rfl, rfl⟩)
    go_ret
    exact ⟨rfl, rfl⟩
  · go_enter Tryd.func33, Tryd.ntmps33
    go_wp2_with (go_at_call 48; refine hs.mono ?_; rintro e w' ⟨rfl, rfl⟩)
    go_ret
    exact ⟨rfl, rfl⟩
set_option maxRecDepth 20000 in
theorem has_nil (w : World) (t : Int) : Calls Tryd.prog 33 #[.pointer none, .int .i64 t] w fun e w' => e = .returned (.bool false) ∧ w = w' := by
  by_cases h0 : 0 < t
  · have h1 : decide (t ≤ 0) = false := by rw [decide_eq_false_iff_not]; omega
    go_enter Tryd.func33, Tryd.ntmps33
    go_wp2_with (go_at_call 48; refine (size_nil _).mono ?_; rintro e w' ⟨rfl, rfl⟩)
    go_ret
    exact ⟨rfl, rfl⟩
  · go_enter Tryd.func33, Tryd.ntmps33
    go_wp2_with fail
    go_ret
    exact ⟨rfl, rfl⟩

set_option maxRecDepth 20000 in
theorem secret_nil (w : World) : Calls Tryd.prog 6 #[.pointer none] w fun e w' => e = .returned (.int .i64 0) ∧ w = w' := by
  go_enter Tryd.func6, Tryd.ntmps6
  go_wp2
  go_ret
  exact ⟨rfl, rfl⟩
/-- A secret's node. -/
def secretNd : Nd := (2, ByteArray.empty, [])
theorem secretNd_ok : NdOk secretNd := ⟨by decide, by decide, by decide, (fun p h => by cases h), (fun h => by cases h)⟩
set_option maxHeartbeats 400000 in
set_option maxRecDepth 20000 in
theorem secret_any {w : World} {B tb mb : Nat} {nv : Value} {L : List (Nd × Value)} (h : Tbl w B tb mb nv L (idx L)) (hroom : L.length < 65536) :
    Calls Tryd.prog 6 #[.pointer (some ⟨tb, 0, none⟩)] w fun e w' => e = .returned (.int .i64 ((L.length : Int) + 1)) ∧ ∃ nv', Tbl w' B tb mb nv' (L ++ [(secretNd, .slice none 0 0)]) (idx (L ++ [(secretNd, .slice none 0 0)])) ∧ Frm tb mb nv w w' ∧ Moved w nv nv' := by
  have hA := add_any h 2 ByteArray.empty [] (.slice none 0 0) secretNd_ok (World.ownsRow_nil _ _ _ _) hroom
  clear h hroom
  go_enter Tryd.func6, Tryd.ntmps6
  go_wp2_with fail
  refine hA.mono ?_
  rintro e w1 ⟨rfl, nv', ht, hf, hm, _⟩
  go_wp2_with fail
  go_ret
  refine ⟨rfl, nv', ?_, hf, hm⟩
  exact { ht with map := ht.map.congr fun k s ps _ => (idx_secret L _ rfl k s ps).symm }

set_option maxHeartbeats 400000 in
set_option maxRecDepth 20000 in
theorem clone_any {w : World} {v : Value} {zs : List Int} (h1 : Rd .i64 w v zs) (hb : zs.length ≤ 1000000) :
    Calls Tryd.prog 34 #[v] w fun e w' => ∃ v', e = .returned v' ∧ w'.ownsRow w.heap.size 27 1 v' zs.length (cs .i64 zs) ∧ Below w.heap.size w w' := by
  obtain ⟨i, hi, hz0, hz1, hz2⟩ := info_parts info32
  have h1' := h1
  obtain ⟨ao, cap, rfl, _⟩ := h1'
  have HB : zs.length ≤ maxLen := by unfold maxLen; omega
  go_enter Tryd.func34, Tryd.ntmps34
  go_wp2_with (first | (at_make; refine wpList_make_full _ rfl _ _ 38 rfl w.heap.size 27 i (.int .i64 0) 1 Tryd.underlying38 hi hz0 hz1 .i64 .i64 _ _ zs.length rfl rfl rfl rfl (by rw [hz2]; omega) HB (Nat.le_refl _) ?_; intro w1 hown1 hg1) | ((with_reducible show wpList _ _ _ _ _ _); refine wpList_copy_ints (o := ⟨some 9, _, _, _, _, _⟩) .i64 27 8 (.tmp 7) (.tmp 8) 38 rfl rfl info32 Tryd.underlying38 w.heap.size w.heap.size zs.length _ rfl hown1 _ zs rfl (h1.below (below_made hg1)) (Nat.le_refl _) ?_; intro w2 hown2 hb2))
  go_ret
  refine ⟨_, rfl, ?_, (below_made hg1).trans hb2⟩
  have e : List.drop zs.length (madeCells (Value.int .i64 0).cells (zs.length * 1)).toList = [] := List.drop_eq_nil_of_le (by simp [madeCells])
  rw [e, List.append_nil] at hown2
  exact hown2
#print axioms secret_any
#print axioms clone_any
end Go.Proofs.YtepkhhpdpmhfaaaDoor.T
namespace Go.Proofs.YtepkhhpdpmhfaaaDoor.T
open Go Go.RowKit

/-- The key before its parts are copied. -/
def kz (k : Int) (s : ByteArray) : List Value := .int .i64 k :: .string s :: List.replicate 16 (.int .i64 0)
theorem splice_pad (k : Int) (s : ByteArray) (ps : List Int) : splice (kz k s) 2 (cs .i64 ps) = .int .i64 k :: .string s :: cs .i64 (pad ps) := by
  have e : (List.replicate 16 (Value.int .i64 0)).drop ps.length = cs .i64 (List.replicate (16 - ps.length) 0) := by rw [List.drop_replicate]; simp only [cs, List.map_replicate]
  simp only [splice, kz, cs_len, List.take_succ_cons, List.take_zero, List.cons_append, List.nil_append]
  rw [Nat.add_comm 2 ps.length]
  simp only [List.drop_succ_cons]
  rw [e, pad, cs_app]

/-- The table, where only blocks from the heap's end on have changed. -/
theorem Tbl.to {w w' : World} {B tb mb : Nat} {nv : Value} {L : List (Nd × Value)} {f : Int → ByteArray → List Int → Option Int} (h : Tbl w B tb mb nv L f) (hb : Below w.heap.size w w') :
    Tbl w' B tb mb nv L f ∧ w'.cell? ⟨tb, 0, none⟩ = some nv ∧ w'.cell? ⟨tb, 1, none⟩ = some (.map (some mb)) := by
  have h' := h.keep hb
  exact ⟨h', by simp [World.cell?, h'.tab], by simp [World.cell?, h'.tab]⟩

theorem info71 : (Tryd.prog.info? 98).map (·.size) = some 18 := by kernel_rfl

/-- Behind the store into the map. -/
theorem number_end {w4 w5 : World} {B tb mb : Nat} {nv : Value} {L : List (Nd × Value)} {f f' : Int → ByteArray → List Int → Option Int} (h : Tbl w4 B tb mb nv L f) (hm : MapV w5 mb L.length f') (hg : w4.grownBy w5 (some mb)) :
    Tbl w5 B tb mb nv L f' ∧ Frm tb mb nv w4 w5 := by
  obtain ⟨D, ⟨es, clock, hmb, _⟩, _⟩ := h.map
  have hk : ∀ k, k < w4.heap.size → k ≠ mb → w5.heap[k]? = w4.heap[k]? := fun k hk hne => hg.block k hk (fun e => hne (Option.some.inj e))
  have hrow : ∀ {e : TypeId} {size : Nat} {v : Value} {n : Nat} {xs : List Value}, w4.ownsRow B e size v n xs → w5.ownsRow B e size v n xs := fun ho => by
    refine own_keep ho fun g hgo => hk g (ho.lt g hgo).2 fun e => ?_
    obtain ⟨cur, hc⟩ := own_blk ho hgo
    rw [e, hmb] at hc; cases hc
  exact ⟨⟨h.btb, h.bmb, by rw [hk tb (blk_lt h.tab) h.mb_ne.2.symm]; exact h.tab, hrow h.nodes, fun p hp => hrow (h.parts p hp), hm, h.small, h.ok⟩,
    ⟨hg.os, hg.tape, hg.output, hg.size, fun k hk' _ h2 _ => hk k hk' h2⟩⟩

/-- What number leaves: the number, and the table with the node in it. -/
def Numbered (w : World) (B tb mb : Nat) (nv : Value) (L : List (Nd × Value)) (p : Nd × Value) (c : Option Int) (e : Ending) (w' : World) : Prop :=
  match c with
  | some c => e = .returned (.int .i64 c) ∧ Below w.heap.size w w'
  | none => e = .returned (.int .i64 ((L.length : Int) + 1)) ∧ ∃ nv', Tbl w' B tb mb nv' (L ++ [p]) (idx (L ++ [p])) ∧ Frm tb mb nv w w' ∧ Moved w nv nv'

set_option maxRecDepth 20000 in
set_option maxHeartbeats 2000000 in
theorem number_any {w : World} {B tb mb : Nat} {nv : Value} {L : List (Nd × Value)} (h : Tbl w B tb mb nv L (idx L)) (k : Int) (s : ByteArray) (ps : List Int) (pv : Value)
    (hok : NdOk (k, s, ps)) (hk2 : k ≠ 2) (hp : w.ownsRow B 27 1 pv ps.length (cs .i64 ps)) (hroom : L.length < 65536) :
    Calls Tryd.prog 30 #[.pointer (some ⟨tb, 0, none⟩), .agg #[.int .i64 k, .string s, pv]] w fun e w' => Numbered w B tb mb nv L ((k, s, ps), pv) (idx L k s (pad ps)) e w' := by
  obtain ⟨ao, cap, hpv, hcap1, hcap2⟩ := own_shape hp
  have HPV := Lib.hid hpv
  have hpo := slice_one hp
  have HH := Lib.hid h
  have HR := Lib.hid hroom
  have HK2 := Lib.hid hk2
  have hlen16 := hok.2.2.1
  clear h hroom hpv hcap1 hcap2 hk2
  go_enter Tryd.func30, Tryd.ntmps30
  go_wp2
  have H1 : Hid (((w.alloc (.cells #[.int .i64 k, .string s, pv] 54)).alloc (.cells (kz k s).toArray 98)).heap[w.heap.size]? = some (.cells #[.int .i64 k, .string s, pv] 54 (0, 0))) := Lib.hid (heap_alloc2_old w _ _)
  have H2 : Hid (((w.alloc (.cells #[.int .i64 k, .string s, pv] 54)).alloc (.cells (kz k s).toArray 98)).heap[w.heap.size + 1]? = some (.cells (kz k s).toArray 98 (0, 0))) := Lib.hid (heap_alloc2_new w _ _)
  have H3 : Below w.heap.size w ((w.alloc (.cells #[.int .i64 k, .string s, pv] 54)).alloc (.cells (kz k s).toArray 98)) := (below_alloc w _).trans ((below_alloc _ _).mono (by simp))
  have H4 : Hid (((w.alloc (.cells #[.int .i64 k, .string s, pv] 54)).alloc (.cells (kz k s).toArray 98)).heap.size = w.heap.size + 2) := Lib.hid (by simp)
  change Code.wp _ _ _ _ ((w.alloc (.cells #[.int .i64 k, .string s, pv] 54)).alloc (.cells (kz k s).toArray 98))
  generalize (w.alloc (.cells #[.int .i64 k, .string s, pv] 54)).alloc (.cells (kz k s).toArray 98) = w1 at *
  have hcp : w1.cell? ⟨w.heap.size, 2, none⟩ = some pv := by simp [World.cell?, H1.out]
  rw [HPV.out] at hcp
  go_still_tail 4, (by kernel_rfl)
  have hps : ∀ a, ao = some a → ∀ j v, (cs .i64 ps)[j]? = some v → w1.drew.cell? (a.add j) = some v := by
    intro a ha j v hj
    have hp1 := own_below hp H3
    rw [HPV.out, ha] at hp1
    have hr := (Rd.of_own hp1).1
    obtain ⟨ao', cap', hv, _, _, _, hcell⟩ := hr
    simp only [Value.slice.injEq] at hv
    have hjl : j < ps.length := by
      have := (List.getElem?_eq_some_iff.1 hj).1
      simpa [cs_len] using this
    rw [cs_get .i64 ps j hjl] at hj
    cases hj
    exact hcell a hv.1.symm j hjl
  refine wpList_copy_splice (o := ⟨some 18, _, _, _, _, _⟩) rfl (.tmp 15) (.tmp 17) 38 38 rfl 27 Tryd.underlying38 (by kernel_rfl) (some ⟨w.heap.size + 1, 2, none⟩) ao 16 16 ps.length cap rfl rfl (w.heap.size + 1) 2 (kz k s) 98 H2.out (cs .i64 ps) (by rw [cs_len]; exact (Nat.min_eq_left hlen16).symm) ?_ (by rw [cs_len]; simp [kz]; omega) (cs_one .i64 ps) (w.heap.size + 1) w1.drew (Below.refl _ _) (Nat.le_refl _) ?_
  · intro hpos
    refine ⟨rfl, ?_⟩
    cases ao with
    | none =>
      exfalso
      rw [HPV.out] at hp
      rcases hp.2 with ⟨_, h0⟩ | ⟨g, _, _, hv, _⟩
      · rw [cs_len] at hpos; omega
      · simp at hv
    | some a => exact ⟨a, rfl, hps a rfl⟩
  intro w3 hw3 hb3
  have hk3 := hw3.out
  rw [splice_pad k s ps] at hk3
  have HK3 := Lib.hid hk3
  have B3 : Below w.heap.size w w3 := H3.drew.trans (hb3.mono (show w.heap.size ≤ w.heap.size + 1 by omega))
  have H31 : Hid (w3.heap[w.heap.size]? = some (.cells #[.int .i64 k, .string s, pv] 54 (0, 0))) := Lib.hid (by rw [hb3.block w.heap.size (by omega)]; exact H1.out)
  have S3 : w.heap.size + 2 ≤ w3.heap.size := by
    have h5 : w1.heap.size ≤ w3.heap.size := hb3.size
    have h4 := H4.out
    omega
  clear hk3 hw3 hps hcp
  obtain ⟨HT3, hc0, hc1⟩ := HH.out.to B3
  go_wp2
  have hc1' : w3.drew.cell? ⟨tb, 1, none⟩ = some (.map (some mb)) := hc1
  have HI : Hid ((Tryd.prog.info? 98).map (·.size) = some (Value.int .i64 k :: Value.string s :: cs .i64 (pad ps)).toArray.size) := Lib.hid (by rw [info71]; simp [cs_len, hok.key.2.2.1])
  refine wp_region_still_lit (by kernel_rfl) (by kernel_rfl) ?_
  still_step
  still_step
  still_step
  still_step
  refine wpStill_load_row rfl 98 (.tmp 5) rfl (w.heap.size + 1) rfl 98 _ (0, 0) _ HK3.out Tryd.underlying98 rfl HI.out ?_
  refine wpStill_lookup (.tmp 23) (.tmp 24) rfl rfl (HT3.map) rfl hok.key rfl ?_
  cases hC : idx L (k, s, ps).1 (k, s, ps).2.1 (pad (k, s, ps).2.2) with
  | some c =>
    have HC : Hid (idx L k s (pad ps) = some c) := Lib.hid hC
    clear hC
    still_step
    still_step
    still_step
    still_step
    still_step
    refine wpStill_nil ?_
    go_wp2
    go_ret
    rw [HC.out]
    exact ⟨rfl, B3.drew⟩
  | none =>
    have HC : Hid (idx L k s (pad ps) = none) := Lib.hid hC
    clear hC
    still_step
    still_step
    still_step
    still_step
    still_step
    refine wpStill_nil ?_
    have hb0 : w3.drew.cell? ⟨w.heap.size, 0, none⟩ = some (.int .i64 k) := (by simp [World.cell?, H31.out] : w3.cell? _ = _)
    have hb1 : w3.drew.cell? ⟨w.heap.size, 1, none⟩ = some (.string s) := (by simp [World.cell?, H31.out] : w3.cell? _ = _)
    have hb2 : w3.drew.cell? ⟨w.heap.size, 2, none⟩ = some pv := (by simp [World.cell?, H31.out] : w3.cell? _ = _)
    have hA := add_any (w := w3.drew) (HT3.keep (Below.refl _ _).drew) k s ps pv hok (own_below (own_below hp B3) (Below.refl _ _).drew) HR.out
    go_wp2_with (go_at_call 16; refine hA.mono ?_; rintro e w4 ⟨rfl, nv', ht4, hf4, hm4, hmb4⟩)
    have hc41 : w4.drew.cell? ⟨tb, 1, none⟩ = some (.map (some mb)) := (by simp [World.cell?, ht4.tab] : w4.cell? _ = _)
    have hkb : w4.drew.heap[w.heap.size + 1]? = some (.cells (Value.int .i64 k :: Value.string s :: cs .i64 (pad ps)).toArray 98 (0, 0)) := by
      have e1 := blk_lt HH.out.tab
      have e2 := HH.out.map.lt
      have e4 : w4.heap[w.heap.size + 1]? = w3.heap[w.heap.size + 1]? := hf4.block _ (show w.heap.size + 1 < w3.heap.size by omega) (by omega) (by omega) (fun e => by have := (HH.out.nodes.lt _ e.symm).2; omega)
      exact e4.trans HK3.out
    have HKB := Lib.hid hkb
    clear hkb
    refine wp_region_still_tail 6 (by kernel_rfl) (by kernel_rfl) ?_
    simp only [List.take_succ_cons, List.take_zero, List.drop_succ_cons, List.drop_zero]
    still_step
    still_step
    still_step
    still_step
    refine wpStill_load_row rfl 98 (.tmp 5) rfl (w.heap.size + 1) rfl 98 _ (0, 0) _ HKB.out Tryd.underlying98 rfl HI.out ?_
    still_step
    refine wpStill_nil ?_
    refine wpList_update (.tmp 38) (.tmp 39) (.tmp 40) rfl rfl ((HT3.map).keep (w' := w4.drew) hmb4) (by have := HR.out; unfold maxLen; omega) rfl hok.key rfl (wf_small _ (by omega) (by have := HR.out; omega)) rfl ?_
    intro w5 hmap5 hg5
    go_wp2
    go_ret
    rw [HC.out]
    have hT := number_end (w4 := w4.drew) (ht4.keep (Below.refl _ _).drew) ((hmap5.congr fun k' s' ps' _ => idx_new L ((k, s, ps), pv) HK2.out HC.out k' s' ps').mono (by simp)) hg5
    refine ⟨rfl, nv', hT.1, ?_, ?_⟩
    · exact ((Frm.of_below B3.drew).trans (Moved.refl _ _) (hf4.trans hm4 ((Frm.of_below (Below.refl _ _).drew).trans (Moved.refl _ _) hT.2)))
    · exact (Moved.refl w nv).trans B3.size hm4
#print axioms number_any
end Go.Proofs.YtepkhhpdpmhfaaaDoor.T
