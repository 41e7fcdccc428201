/- The table's small functions: Size, has, Secret, clone; and all of them on a table that is not there. -/
import Derived.Test.YtofklfahbhhoiaaDoorTNew
import Derived.Deep.RegionLaw
import Derived.BigRegion
namespace Go.Proofs.YtofklfahbhhoiaaDoor.T
open Go Go.RowKit

theorem info38 : (Tryd.prog.info? 40).map (fun i => (i.zero, i.size, i.bytes)) = some (some (.agg #[.int .i64 0, .string ByteArray.empty, .slice none 0 0]), 3, 48) := by kernel_rfl

/-- append of one node, as a step of a region that draws its order. -/
theorem step_append_node {ops : Array Oper} {o : Oper} {a : Act} {w : World} {K : Act → World → Prop} {Q : Exit → Act → World → Prop} {E : Prop} (s x : Operand)
    (hgd : o.guard = none) (ho : o.op = .call { callee := .builtin .append, args := #[s, x], argTypes := #[73, 73] })
    {B : Nat} {nv : Value} {L : List (Nd × Value)} (hs : a.eval s = nv) (hown : w.ownsRow B 40 3 nv L.length (ncells L)) (p : Nd × Value) (g : Nat) (hx : a.eval x = .slice (some ⟨g, 0, none⟩) 1 1)
    (hg : w.heap[g]? = some (.cells (ncells [p]).toArray 40 (0, 0))) (h1 : p.2.oneCell' = true) (hsmall : L.length < 65536) (hbase : B ≤ w.heap.size)
    (h : ∀ v' w', w'.ownsRow B 40 3 v' (L.length + 1) (ncells (L ++ [p])) → w.grownBy w' nv.ownBlock → (v'.ownBlock = nv.ownBlock ∨ v'.ownBlock = some w.heap.size) → K (a.put o.dst v') w') :
    if Region.wanted o (yielded ops a.tmps) = true then Oper.wp Tryd.prog o a w K Q else E := by
  have hw : Region.wanted o (yielded ops a.tmps) = true := by simp [Region.wanted, hgd]
  rw [if_pos hw]
  obtain ⟨i, hi, hz0, hz1, hz2⟩ := info_parts info38
  obtain ⟨v', w', hr, h2, h3, _, h5⟩ := run_append_own_at (P := Tryd.prog) w B 73 o.type 40 i _ 3 48 Tryd.underlying73 hi hz0 hz1 hz2 rfl (by decide) nv L.length (ncells L) hown ⟨g, 0, none⟩ 1 1 (ncells [p]) rfl
    (fun j u hu => by rw [Addr.add_lit, Nat.zero_add, cell_of_row w g j _ 40 (0, 0) hg]; simpa using hu)
    (fun u hu => by
      simp only [ncells, List.mem_cons, List.not_mem_nil, or_false] at hu
      rcases hu with rfl | rfl | rfl
      · rfl
      · rfl
      · exact h1) (by unfold maxLen; omega) (by omega) hbase
  unfold Oper.wp execOp
  simp only [ho, resolve, invoke, builtin, Sem.run_bind, Sem.run_pure, Result.andThen_ok, List.map_toArray, List.map_cons, List.map_nil, hs, hx, hr]
  exact h v' w' (by rw [ncells_app]; exact h2) h3 h5

theorem slice_one {w : World} {base : Nat} {e : TypeId} {size : Nat} {v : Value} {n : Nat} {xs : List Value} (h : w.ownsRow base e size v n xs) : v.oneCell' = true := by
  obtain ⟨ao, cap, rfl, _⟩ := own_shape h; rfl

theorem Tbl.tb_ne {w : World} {B tb mb : Nat} {nv : Value} {L : List (Nd × Value)} {f : Int → ByteArray → List Int → Option Int} (h : Tbl w B tb mb nv L f) : some tb ≠ nv.ownBlock := fun e => by
  obtain ⟨cur, hc⟩ := own_blk h.nodes e.symm
  rw [h.tab] at hc; cases hc
theorem Tbl.mb_ne {w : World} {B tb mb : Nat} {nv : Value} {L : List (Nd × Value)} {f : Int → ByteArray → List Int → Option Int} (h : Tbl w B tb mb nv L f) : some mb ≠ nv.ownBlock ∧ mb ≠ tb := by
  obtain ⟨D, ⟨es, clock, hb, _⟩, _⟩ := h.map
  refine ⟨fun e => ?_, fun e => ?_⟩
  · obtain ⟨cur, hc⟩ := own_blk h.nodes e.symm
    rw [hb] at hc; cases hc
  · rw [e, h.tab] at hb; cases hb

/-- Behind the append: the table's own block is as it was. -/
theorem add_mid {w w2 : World} {B tb mb : Nat} {nv : Value} {L : List (Nd × Value)} {f : Int → ByteArray → List Int → Option Int} (h : Tbl w B tb mb nv L f) (A O : Obj) (hg : ((w.alloc A).alloc O).drew.grownBy w2 nv.ownBlock) :
    w2.heap[tb]? = some (.cells #[nv, .map (some mb)] 75 (0, 0)) ∧ ∀ k, k < w.heap.size → some k ≠ nv.ownBlock → w2.heap[k]? = w.heap[k]? := by
  have hk : ∀ k, k < w.heap.size → some k ≠ nv.ownBlock → w2.heap[k]? = w.heap[k]? := fun k hk hne => by
    rw [hg.block k (by simp [World.drew]; omega) hne]
    show ((w.alloc A).alloc O).heap[k]? = _
    rw [Below.heap_alloc _ _ _ (by simp; omega)]
    exact Below.heap_alloc w A k hk
  refine ⟨?_, hk⟩
  rw [hk tb (blk_lt h.tab) h.tb_ne]; exact h.tab

theorem add_end {w w2 : World} {B tb mb : Nat} {nv v' : Value} {L : List (Nd × Value)} {f : Int → ByteArray → List Int → Option Int} (h : Tbl w B tb mb nv L f) (A O : Obj) (hg : ((w.alloc A).alloc O).drew.grownBy w2 nv.ownBlock)
    {p : Nd × Value} (hok : NdOk p.1) (hp : w.ownsRow B 29 1 p.2 p.1.2.2.length (cs .i64 p.1.2.2)) (hroom : L.length < 65536)
    (hown : w2.ownsRow B 40 3 v' (L.length + 1) (ncells (L ++ [p]))) (hloc : v'.ownBlock = nv.ownBlock ∨ v'.ownBlock = some ((w.alloc A).alloc O).drew.heap.size) :
    Tbl (w2.setCell ⟨tb, 0, none⟩ v') B tb mb v' (L ++ [p]) f ∧ Frm tb mb nv w (w2.setCell ⟨tb, 0, none⟩ v') ∧ Moved w nv v' ∧ (w2.setCell ⟨tb, 0, none⟩ v').heap[mb]? = w.heap[mb]? := by
  obtain ⟨h1, h2⟩ := add_mid h A O hg
  have hsz : w.heap.size + 2 ≤ w2.heap.size := by have := hg.size; simp [World.drew] at this; omega
  have hne : ∀ g, v'.ownBlock = some g → g ≠ tb := by
    intro g hgv e
    subst e
    obtain ⟨cur, hc⟩ := own_blk hown hgv
    rw [h1] at hc; cases hc
  have hset : ∀ k, k ≠ tb → (w2.setCell ⟨tb, 0, none⟩ v').heap[k]? = w2.heap[k]? := fun k hk => heap_setCell_other w2 _ k _ hk
  have htab : (w2.setCell ⟨tb, 0, none⟩ v').heap[tb]? = some (.cells #[v', .map (some mb)] 75 (0, 0)) := by
    rw [heap_setCell_same w2 tb 0 _ 75 _ h1]; rfl
  have hpart : ∀ {v : Value} {n : Nat} {xs : List Value}, w.ownsRow B 29 1 v n xs → (w2.setCell ⟨tb, 0, none⟩ v').ownsRow B 29 1 v n xs := fun ho => by
    refine own_keep ho fun g hgo => ?_
    obtain ⟨cur, hc⟩ := own_blk ho hgo
    have e1 : g ≠ tb := fun e => by rw [e, h.tab] at hc; cases hc
    rw [hset g e1, h2 g (ho.lt g hgo).2 (fun e => ?_)]
    obtain ⟨cur2, hc2⟩ := own_blk h.nodes e.symm
    rw [hc] at hc2; cases hc2
  refine ⟨⟨h.btb, h.bmb, htab, ?_, ?_, ?_, by simp; omega, ?_⟩, ⟨hg.os, hg.tape, hg.output, by simp [World.setCell]; omega, ?_⟩, ?_, ?_⟩
  · rw [List.length_append]
    exact own_keep hown fun g hgv => hset g (hne g hgv)
  · intro q hq
    rcases List.mem_append.1 hq with hq | hq
    · exact hpart (h.parts q hq)
    · obtain rfl := List.mem_singleton.1 hq; exact hpart hp
  · refine (h.map.mono (by simp)).keep ?_
    rw [hset mb h.mb_ne.2, h2 mb h.map.lt h.mb_ne.1]
  · intro q hq
    rcases List.mem_append.1 hq with hq | hq
    · exact h.ok q hq
    · obtain rfl := List.mem_singleton.1 hq; exact hok
  · intro k hk h3 _ h5
    rw [hset k h3, h2 k hk h5]
  · rcases hloc with e | e
    · exact .inl e
    · refine .inr fun g hgv => ?_
      rw [e] at hgv
      simp [World.drew] at hgv
      omega
  · rw [hset mb h.mb_ne.2, h2 mb h.map.lt h.mb_ne.1]

set_option maxHeartbeats 1000000 in
set_option maxRecDepth 20000 in
theorem add_any {w : World} {B tb mb : Nat} {nv : Value} {L : List (Nd × Value)} {f : Int → ByteArray → List Int → Option Int} (h : Tbl w B tb mb nv L f) (k : Int) (s : ByteArray) (ps : List Int) (pv : Value)
    (hok : NdOk (k, s, ps)) (hp : w.ownsRow B 29 1 pv ps.length (cs .i64 ps)) (hroom : L.length < 65536) :
    Calls Tryd.prog 32 #[.pointer (some ⟨tb, 0, none⟩), .agg #[.int .i64 k, .string s, pv]] w fun e w' => e = .returned (.int .i64 ((L.length : Int) + 1)) ∧ ∃ nv', Tbl w' B tb mb nv' (L ++ [((k, s, ps), pv)]) f ∧ Frm tb mb nv w w' ∧ Moved w nv nv' ∧ w'.heap[mb]? = w.heap[mb]? := by
  obtain ⟨ao, cap, hnv, hc1, hc2⟩ := own_shape h.nodes
  have htl := blk_lt h.tab
  have hpo := slice_one hp
  have hcT : w.cell? ⟨tb, 0, none⟩ = some nv := by simp [World.cell?, h.tab]
  have hfT : w.frozen? ⟨tb, 0, none⟩ = false := by simp [World.frozen?, h.tab]
  have hne : tb ≠ w.heap.size := by omega
  have HH := Lib.hid h
  have hB : B ≤ w.heap.size := by have := h.btb; omega
  clear h
  have hA : ((w.alloc (.cells #[.int .i64 k, .string s, pv] 40)).alloc (.cells #[.int .i64 k, .string s, pv] 40)).drew.heap[w.heap.size + 1]? = some (.cells (ncells [((k, s, ps), pv)]).toArray 40 (0, 0)) := by
    have := heap_alloc_new (w.alloc (.cells #[.int .i64 k, .string s, pv] 40)) (.cells #[.int .i64 k, .string s, pv] 40)
    simpa [World.drew, ncells] using this
  have hB2 : B ≤ ((w.alloc (.cells #[.int .i64 k, .string s, pv] 40)).alloc (.cells #[.int .i64 k, .string s, pv] 40)).drew.heap.size := by simp [World.drew]; omega
  have HA := Lib.hid hA
  have HB2 := Lib.hid hB2
  clear hA hB2
  obtain ⟨n, hn⟩ : ∃ n, n = L.length := ⟨_, rfl⟩
  rw [← hn] at hnv
  subst hnv
  have HN := Lib.hid hn
  have hd : (decide ((65536 : Int) ≤ (n : Int))) = false := by rw [decide_eq_false_iff_not]; omega
  have HR := Lib.hid hroom
  clear hn hc1 hc2 hroom
  go_enter Tryd.func32, Tryd.ntmps32
  go_wp2
  go_region_law (refine step_append_node (.tmp 15) (.tmp 17) rfl rfl (B := B) (nv := .slice ao n cap) (L := L) rfl (own_alloc (own_alloc HH.out.nodes _) _) ((k, s, ps), pv) (w.heap.size + 1) rfl ?_ hpo HR.out ?_ ?_; (next => exact HA.out); (next => exact HB2.out); intro v' w2 hown2 hg2 hloc2; have hm2 := (add_mid HH.out _ _ hg2).1; have hcT2 : w2.cell? ⟨tb, 0, none⟩ = some (.slice ao n cap) := (by simp [World.cell?, hm2]); have hfT2 : w2.frozen? ⟨tb, 0, none⟩ = false := (by simp [World.frozen?, hm2]); obtain ⟨ao', cap', rfl, _⟩ := own_shape hown2; have HG2 := Lib.hid hg2; clear hg2 hm2)
  all_goals
    go_wp2
    go_ret
    refine ⟨by simp, _, add_end HH.out _ _ HG2.out hok hp HR.out hown2 hloc2⟩
#print axioms add_any
end Go.Proofs.YtofklfahbhhoiaaDoor.T
namespace Go.Proofs.YtofklfahbhhoiaaDoor.T
open Go Go.RowKit

theorem info32 : (Tryd.prog.info? 29).map (fun i => (i.zero, i.size, i.bytes)) = some (some (.int .i64 0), 1, 8) := by kernel_rfl
set_option maxRecDepth 20000 in
theorem ret_int {k : IntKind} {a b : Int} (h : a = b) : Ending.returned (.int k a) = .returned (.int k b) := by rw [h]

set_option maxRecDepth 20000 in
theorem size_nil (w : World) : Calls Tryd.prog 50 #[.pointer none] w fun e w' => e = .returned (.int .i64 0) ∧ w = w' := by
  go_enter Tryd.func50, Tryd.ntmps50
  go_wp2
  go_ret
  exact ⟨rfl, rfl⟩
set_option maxHeartbeats 400000 in
set_option maxRecDepth 20000 in
theorem size_any {w : World} {B tb mb : Nat} {nv : Value} {L : List (Nd × Value)} {f : Int → ByteArray → List Int → Option Int} (h : Tbl w B tb mb nv L f) :
    Calls Tryd.prog 50 #[.pointer (some ⟨tb, 0, none⟩)] w fun e w' => e = .returned (.int .i64 (L.length : Int)) ∧ w = w' := by
  obtain ⟨ao, cap, hnv, _⟩ := own_shape h.nodes
  have hcT : w.cell? ⟨tb, 0, none⟩ = some nv := by simp [World.cell?, h.tab]
  subst hnv
  clear h
  go_enter Tryd.func50, Tryd.ntmps50
  go_wp2
  go_ret
  exact ⟨rfl, rfl⟩

set_option maxHeartbeats 400000 in
set_option maxRecDepth 20000 in
theorem has_yes {w : World} {B tb mb : Nat} {nv : Value} {L : List (Nd × Value)} {f : Int → ByteArray → List Int → Option Int} (h : Tbl w B tb mb nv L f) (t : Int) (h0 : 1 ≤ t) (h1 : t ≤ (L.length : Int)) :
    Calls Tryd.prog 38 #[.pointer (some ⟨tb, 0, none⟩), .int .i64 t] w fun e w' => e = .returned (.bool true) ∧ w = w' := by
  have hs := size_any h
  clear h
  generalize (L.length : Int) = n at *
  have h2 : 0 < t := by omega
  go_enter Tryd.func38, Tryd.ntmps38
  go_wp2_with (go_at_call 50; refine hs.mono ?_; rintro e w' ⟨rfl, rfl⟩)
  go_ret
  exact ⟨rfl, rfl⟩
set_option maxHeartbeats 400000 in
set_option maxRecDepth 20000 in
theorem has_no {w : World} {B tb mb : Nat} {nv : Value} {L : List (Nd × Value)} {f : Int → ByteArray → List Int → Option Int} (h : Tbl w B tb mb nv L f) (t : Int) (h0 : t < 1 ∨ (L.length : Int) < t) :
    Calls Tryd.prog 38 #[.pointer (some ⟨tb, 0, none⟩), .int .i64 t] w fun e w' => e = .returned (.bool false) ∧ w = w' := by
  have hs := size_any h
  clear h
  generalize (L.length : Int) = n at *
  by_cases h2 : 0 < t
  · have h1 : decide (t ≤ n) = false := by rw [decide_eq_false_iff_not]; omega
    clear h0
    go_enter Tryd.func38, Tryd.ntmps38
    go_wp2_with (go_at_call 50; refine hs.mono ?_; rintro e w' ⟨rfl, rfl⟩)
    go_ret
    exact ⟨rfl, rfl⟩
  · go_enter Tryd.func38, Tryd.ntmps38
    go_wp2_with (go_at_call 50; refine hs.mono ?_; rintro e w' ⟨rfl, rfl⟩)
    go_ret
    exact ⟨rfl, rfl⟩
set_option maxRecDepth 20000 in
theorem has_nil (w : World) (t : Int) : Calls Tryd.prog 38 #[.pointer none, .int .i64 t] w fun e w' => e = .returned (.bool false) ∧ w = w' := by
  by_cases h0 : 0 < t
  · have h1 : decide (t ≤ 0) = false := by rw [decide_eq_false_iff_not]; omega
    go_enter Tryd.func38, Tryd.ntmps38
    go_wp2_with (go_at_call 50; refine (size_nil _).mono ?_; rintro e w' ⟨rfl, rfl⟩)
    go_ret
    exact ⟨rfl, rfl⟩
  · go_enter Tryd.func38, Tryd.ntmps38
    go_wp2_with fail
    go_ret
    exact ⟨rfl, rfl⟩

set_option maxRecDepth 20000 in
theorem secret_nil (w : World) : Calls Tryd.prog 12 #[.pointer none] w fun e w' => e = .returned (.int .i64 0) ∧ w = w' := by
  go_enter Tryd.func12, Tryd.ntmps12
  go_wp2
  go_ret
  exact ⟨rfl, rfl⟩
/-- A secret's node. -/
def secretNd : Nd := (2, ByteArray.empty, [])
theorem secretNd_ok : NdOk secretNd := ⟨by decide, by decide, by decide, (fun p h => by cases h), (fun h => by cases h)⟩
set_option maxHeartbeats 400000 in
set_option maxRecDepth 20000 in
theorem secret_any {w : World} {B tb mb : Nat} {nv : Value} {L : List (Nd × Value)} (h : Tbl w B tb mb nv L (idx L)) (hroom : L.length < 65536) :
    Calls Tryd.prog 12 #[.pointer (some ⟨tb, 0, none⟩)] w fun e w' => e = .returned (.int .i64 ((L.length : Int) + 1)) ∧ ∃ nv', Tbl w' B tb mb nv' (L ++ [(secretNd, .slice none 0 0)]) (idx (L ++ [(secretNd, .slice none 0 0)])) ∧ Frm tb mb nv w w' ∧ Moved w nv nv' := by
  have hA := add_any h 2 ByteArray.empty [] (.slice none 0 0) secretNd_ok (World.ownsRow_nil _ _ _ _) hroom
  clear h hroom
  go_enter Tryd.func12, Tryd.ntmps12
  go_wp2_with fail
  refine hA.mono ?_
  rintro e w1 ⟨rfl, nv', ht, hf, hm, _⟩
  go_wp2_with fail
  go_ret
  refine ⟨rfl, nv', ?_, hf, hm⟩
  exact { ht with map := ht.map.congr fun k s ps _ => (idx_secret L _ rfl k s ps).symm }

set_option maxHeartbeats 400000 in
set_option maxRecDepth 20000 in
theorem clone_any {w : World} {v : Value} {zs : List Int} (h1 : Rd .i64 w v zs) (hb : zs.length ≤ 1000000) :
    Calls Tryd.prog 39 #[v] w fun e w' => ∃ v', e = .returned v' ∧ w'.ownsRow w.heap.size 29 1 v' zs.length (cs .i64 zs) ∧ Below w.heap.size w w' := by
  obtain ⟨i, hi, hz0, hz1, hz2⟩ := info_parts info32
  have h1' := h1
  obtain ⟨ao, cap, rfl, _⟩ := h1'
  have HB : zs.length ≤ maxLen := by unfold maxLen; omega
  go_enter Tryd.func39, Tryd.ntmps39
  go_wp2_with (first | (at_make; refine wpList_make_full _ rfl _ _ 38 rfl w.heap.size 29 i (.int .i64 0) 1 Tryd.underlying38 hi hz0 hz1 .i64 .i64 _ _ zs.length rfl rfl rfl rfl (by rw [hz2]; omega) HB (Nat.le_refl _) ?_; intro w1 hown1 hg1) | ((with_reducible show wpList _ _ _ _ _ _); refine wpList_copy_ints (o := ⟨some 9, _, _, _, _, _⟩) .i64 29 8 (.tmp 7) (.tmp 8) 38 rfl rfl info32 Tryd.underlying38 w.heap.size w.heap.size zs.length _ rfl hown1 _ zs rfl (h1.below (below_made hg1)) (Nat.le_refl _) ?_; intro w2 hown2 hb2))
  go_ret
  refine ⟨_, rfl, ?_, (below_made hg1).trans hb2⟩
  have e : List.drop zs.length (madeCells (Value.int .i64 0).cells (zs.length * 1)).toList = [] := List.drop_eq_nil_of_le (by simp [madeCells])
  rw [e, List.append_nil] at hown2
  exact hown2
#print axioms secret_any
#print axioms clone_any
end Go.Proofs.YtofklfahbhhoiaaDoor.T
