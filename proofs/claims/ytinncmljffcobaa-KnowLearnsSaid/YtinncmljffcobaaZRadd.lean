/- The reference's add: the number of a node, old or new. -/
import Derived.Test.YtinncmljffcobaaZRef
import Derived.StillTailTactics
import Derived.Deep.RegionLaw
import Derived.BigRegion
namespace Go.Proofs.Ytinncmljffcobaa
open Go Go.RowKit

/-- The place of the first node that is the same. -/
def idxR (i : Int) (N : List Nd) (n : Nd) : Option Int :=
  match N with
  | [] => none
  | m :: r => if sameN m n = true then some i else idxR (i + 1) r n
theorem idxR_drop (N : List Nd) (n : Nd) (j : Nat) (i : Int) (h : ∀ q, q < j → ∀ m, N[q]? = some m → sameN m n = false) (hj : j ≤ N.length) : idxR i N n = idxR (i + j) (N.drop j) n := by
  induction j generalizing N i with
  | zero => simp
  | succ j ih =>
    cases N with
    | nil => simp at hj
    | cons m r =>
      have h0 := h 0 (by omega) m rfl
      rw [idxR, if_neg (by rw [h0]; decide), ih r (i + 1) (fun q hq m' hm => h (q + 1) (by omega) m' (by simpa using hm)) (by simpa using hj), List.drop_succ_cons]
      congr 1
      omega
theorem idxR_at (N : List Nd) (n m : Nd) (j : Nat) (h : ∀ q, q < j → ∀ m, N[q]? = some m → sameN m n = false) (hm : N[j]? = some m) (hs : sameN m n = true) : idxR 1 N n = some ((j : Int) + 1) := by
  obtain ⟨hlt, hm'⟩ := List.getElem?_eq_some_iff.1 hm
  rw [idxR_drop N n j 1 h (by omega), List.drop_eq_getElem_cons hlt, hm', idxR, if_pos hs]
  congr 1
  omega
theorem idxR_none (N : List Nd) (n : Nd) (h : ∀ q, q < N.length → ∀ m, N[q]? = some m → sameN m n = false) : idxR 1 N n = none := by
  rw [idxR_drop N n N.length 1 h (Nat.le_refl _), List.drop_length]; rfl

theorem info43 : (Try.prog.info? 69).map (fun i => (i.zero, i.size, i.bytes)) = some (some (.agg #[.int .i64 0, .string ByteArray.empty, .slice none 0 0]), 3, 48) := by kernel_rfl

/-- append of one node, as a step of a region that draws its order. -/
theorem step_append_ref {ops : Array Oper} {o : Oper} {a : Act} {w : World} {K : Act → World → Prop} {Q : Exit → Act → World → Prop} {E : Prop} (s x : Operand)
    (hgd : o.guard = none) (ho : o.op = .call { callee := .builtin .append, args := #[s, x], argTypes := #[28, 28] })
    {B : Nat} {nv : Value} {L : List (Nd × Value)} (hs : a.eval s = nv) (hown : w.ownsRow B 69 3 nv L.length (ncells L)) (p : Nd × Value) (g : Nat) (hx : a.eval x = .slice (some ⟨g, 0, none⟩) 1 1)
    (hg : w.heap[g]? = some (.cells (ncells [p]).toArray 69 (0, 0))) (h1 : p.2.oneCell' = true) (hsmall : L.length < 65536) (hbase : B ≤ w.heap.size)
    (h : ∀ v' w', w'.ownsRow B 69 3 v' (L.length + 1) (ncells (L ++ [p])) → w.grownBy w' nv.ownBlock → (v'.ownBlock = nv.ownBlock ∨ v'.ownBlock = some w.heap.size) → K (a.put o.dst v') w') :
    if Region.wanted o (yielded ops a.tmps) = true then Oper.wp Try.prog o a w K Q else E := by
  have hw : Region.wanted o (yielded ops a.tmps) = true := by simp [Region.wanted, hgd]
  rw [if_pos hw]
  obtain ⟨i, hi, hz0, hz1, hz2⟩ := info_parts info43
  obtain ⟨v', w', hr, h2, h3, _, h5⟩ := run_append_own_at (P := Try.prog) w B 28 o.type 69 i _ 3 48 Try.underlying28 hi hz0 hz1 hz2 rfl (by decide) nv L.length (ncells L) hown ⟨g, 0, none⟩ 1 1 (ncells [p]) rfl
    (fun j u hu => by rw [Addr.add_lit, Nat.zero_add, cell_of_row w g j _ 69 (0, 0) hg]; simpa using hu)
    (fun u hu => by
      simp only [ncells, List.mem_cons, List.not_mem_nil, or_false] at hu
      rcases hu with rfl | rfl | rfl
      · rfl
      · rfl
      · exact h1) (by unfold maxLen; omega) (by omega) hbase
  unfold Oper.wp execOp
  simp only [ho, resolve, invoke, builtin, Sem.run_bind, Sem.run_pure, Result.andThen_ok, List.map_toArray, List.map_cons, List.map_nil, hs, hx, hr]
  exact h v' w' (by rw [ncells_app]; exact h2) h3 h5

theorem radd_tab {w w2 : World} {B rb : Nat} {nv : Value} {L : List (Nd × Value)} (h : RTbl w B rb nv L) (hg : w.grownBy w2 nv.ownBlock) : w2.heap[rb]? = some (.cells #[nv] 30 (0, 0)) := by
  rw [hg.block rb (blk_lt h.tab) (fun e => ?_)]
  · exact h.tab
  · obtain ⟨cur, hc⟩ := own_blk h.nodes e.symm
    rw [h.tab] at hc; cases hc
theorem radd_end {w w2 : World} {B rb : Nat} {nv v' : Value} {L : List (Nd × Value)} (h : RTbl w B rb nv L) (hg : w.grownBy w2 nv.ownBlock)
    {p : Nd × Value} (hp : w.ownsRow B 3 1 p.2 p.1.2.2.length (cs .i64 p.1.2.2)) (hroom : L.length < 65536)
    (hown : w2.ownsRow B 69 3 v' (L.length + 1) (ncells (L ++ [p]))) (hloc : v'.ownBlock = nv.ownBlock ∨ v'.ownBlock = some w.heap.size) :
    RTbl (w2.setCell ⟨rb, 0, none⟩ v') B rb v' (L ++ [p]) ∧ Frm rb rb nv w (w2.setCell ⟨rb, 0, none⟩ v') ∧ Moved w nv v' := by
  have hrn : some rb ≠ nv.ownBlock := fun e => by
    obtain ⟨cur, hc⟩ := own_blk h.nodes e.symm
    rw [h.tab] at hc; cases hc
  have h1 : w2.heap[rb]? = some (.cells #[nv] 30 (0, 0)) := by rw [hg.block rb (blk_lt h.tab) hrn]; exact h.tab
  have hset : ∀ k, k ≠ rb → (w2.setCell ⟨rb, 0, none⟩ v').heap[k]? = w2.heap[k]? := fun k hk => heap_setCell_other w2 _ k _ hk
  have hne : ∀ g, v'.ownBlock = some g → g ≠ rb := fun g hgv e => by
    subst e
    obtain ⟨cur, hc⟩ := own_blk hown hgv
    rw [h1] at hc; cases hc
  have hpart : ∀ {v : Value} {n : Nat} {xs : List Value}, w.ownsRow B 3 1 v n xs → (w2.setCell ⟨rb, 0, none⟩ v').ownsRow B 3 1 v n xs := fun ho => by
    refine own_keep ho fun g hgo => ?_
    obtain ⟨cur, hc⟩ := own_blk ho hgo
    have e1 : g ≠ rb := fun e => by rw [e, h.tab] at hc; cases hc
    rw [hset g e1, hg.block g (ho.lt g hgo).2 (fun e => ?_)]
    obtain ⟨cur2, hc2⟩ := own_blk h.nodes e.symm
    rw [hc] at hc2; cases hc2
  refine ⟨⟨h.brb, ?_, ?_, ?_, by simp; omega⟩, ⟨hg.os, hg.tape, hg.output, by simpa [World.setCell] using hg.size, ?_⟩, ?_⟩
  · rw [heap_setCell_same w2 rb 0 _ 30 _ h1]; rfl
  · rw [List.length_append]
    exact own_keep hown fun g hgv => hset g (hne g hgv)
  · intro q hq
    rcases List.mem_append.1 hq with hq | hq
    · exact hpart (h.parts q hq)
    · obtain rfl := List.mem_singleton.1 hq; exact hpart hp
  · intro k hk h3 _ h5
    rw [hset k h3, hg.block k hk h5]
  · rcases hloc with e | e
    · exact .inl e
    · refine .inr fun g hgv => ?_
      rw [e] at hgv
      cases hgv
      exact Nat.le_refl _

set_option maxHeartbeats 2000000 in
set_option maxRecDepth 20000 in
theorem radd_any {w : World} {B rb : Nat} {nv : Value} {L : List (Nd × Value)} (h : RTbl w B rb nv L) (k : Int) (s : ByteArray) (ps : List Int) (pv : Value) (hp : w.ownsRow B 3 1 pv ps.length (cs .i64 ps)) (hroom : L.length < 65536) :
    Calls Try.prog 43 #[.pointer (some ⟨rb, 0, none⟩), .agg #[.int .i64 k, .string s, pv]] w fun e w' => (∃ c, idxR 1 (nds L) (k, s, ps) = some c ∧ e = .returned (.int .i64 c) ∧ Below w.heap.size w w') ∨ (idxR 1 (nds L) (k, s, ps) = none ∧ e = .returned (.int .i64 ((L.length : Int) + 1)) ∧ ∃ nv', RTbl w' B rb nv' (L ++ [((k, s, ps), pv)]) ∧ Frm rb rb nv w w' ∧ Moved w nv nv') := by
  obtain ⟨ao, cap, hnv, hc1, hcm⟩ := own_shape h.nodes
  subst hnv
  have hrd := (Rd.of_own hp).1
  obtain ⟨aop, capp, rfl, _, _⟩ := own_shape hp
  have hrb := blk_lt h.tab
  have HH := Lib.hid h
  have HR := Lib.hid hroom
  have HP := Lib.hid hp
  obtain ⟨n, hn⟩ : ∃ n, n = L.length := ⟨_, rfl⟩
  rw [← hn]
  have HN := Lib.hid hn
  have hd : (decide ((65536 : Int) ≤ (n : Int))) = false := by rw [decide_eq_false_iff_not]; omega
  have hX := heap_alloc_new w (.cells #[.int .i64 k, .string s, .slice aop ps.length capp] 69)
  have hB := below_alloc w (.cells #[.int .i64 k, .string s, .slice aop ps.length capp] 69)
  have hS : (w.alloc (.cells #[.int .i64 k, .string s, .slice aop ps.length capp] 69)).heap.size = w.heap.size + 1 := by simp
  clear h hp hroom hn hc1
  go_enter Try.func43, Try.ntmps43
  go_wp2_with fail
  generalize (w.alloc (.cells #[.int .i64 k, .string s, .slice aop ps.length capp] 69)) = W at *
  go_loopw [5] (fun i wr => ∃ j : Nat, j ≤ n ∧ i = .int .i64 j ∧ (∀ q, q < j → ∀ m, (nds L)[q]? = some m → sameN m (k, s, ps) = false) ∧ Below W.heap.size W wr) (fun i _ => n - (intOf i).toNat)
  case atStart => exact ⟨0, Nat.zero_le _, rfl, (fun q hq => by omega), Below.refl _ _⟩
  case round =>
    obtain ⟨j, hj, rfl, hno, hb⟩ := hrel
    have hBr := hB.trans (hb.mono (by omega))
    have hR := HH.out.keep hBr
    have hX2 : wr.heap[w.heap.size]? = _ := (hb.block _ (by omega)).trans hX
    have x0 : wr.cell? ⟨w.heap.size, 0, none⟩ = some (.int .i64 k) := by simp [World.cell?, hX2]
    have x1 : wr.cell? ⟨w.heap.size, 1, none⟩ = some (.string s) := by simp [World.cell?, hX2]
    have x2 : wr.cell? ⟨w.heap.size, 2, none⟩ = some (.slice aop ps.length capp) := by simp [World.cell?, hX2]
    have r0 : wr.cell? ⟨rb, 0, none⟩ = some (.slice ao L.length cap) := by simp [World.cell?, hR.tab]
    rw [← HN.out] at r0
    have HNO := Lib.hid hno
    clear hno hX2
    by_cases hlt : j < n
    · have hlt' : (j : Int) < (n : Int) := by omega
      have hq : j < L.length := by have := HN.out; omega
      obtain ⟨g, c, he, hc9, hLc, y0, y1, y2⟩ := row_cell hR.nodes j hq
      have hpart := hR.parts L[j] (List.getElem_mem hq)
      have hrp := (Rd.of_own hpart).1
      have hm : (nds L)[j]? = some L[j].1 := by unfold nds; rw [List.getElem?_map, List.getElem?_eq_getElem hq]; rfl
      cases he
      obtain ⟨ao4, cp4, hpv4, _, _⟩ := own_shape hpart
      generalize L[j] = p at *
      obtain ⟨⟨k4, s4, ps4⟩, pv4⟩ := p
      simp only at y0 y1 y2 hrp hpv4 hm
      subst hpv4
      have hcall := same_any (w := wr.drew) (k1 := k4) (k2 := k) (t1 := s4) (t2 := s) (hrp.below (Below.refl _ _).drew) ((hrd.below hBr).below (Below.refl _ _).drew)
      have HM := Lib.hid hm
      clear hR hpart hrp hm
      go_wp2_with fail
      go_still_tail 8, (by kernel_rfl)
      go_wp2_with fail
      refine hcall.mono ?_
      rintro e w4 ⟨rfl, hb4⟩
      clear hcall
      have hb5 := hb.drew.trans (hb4.mono hb.size)
      cases hs : sameN (k4, s4, ps4) (k, s, ps) with
      | true =>
        have HS := Lib.hid hs
        clear hs
        go_wp2_with fail
        go_ret
        exact .inl ⟨_, idxR_at (nds L) (k, s, ps) _ j HNO.out HM.out HS.out, rfl, hB.trans (hb5.mono (by omega))⟩
      | false =>
        have HS := Lib.hid hs
        clear hs
        go_wp2_with fail
        go_roundw
        case rel =>
          refine ⟨j + 1, by omega, by go_num, fun q hq2 m hm2 => ?_, hb5⟩
          by_cases hqj : q < j
          · exact HNO.out q hqj m hm2
          · obtain rfl : q = j := by omega
            rw [HM.out] at hm2
            cases hm2
            exact HS.out
        case measure => simp [intOf]; omega
    · obtain rfl : j = n := by omega
      have HH2 : RTbl w B rb (.slice ao j cap) L := by rw [HN.out]; exact HH.out
      have bA : Below w.heap.size w (wr.alloc (.cells #[.int .i64 k, .string s, .slice aop ps.length capp] 69)).drew := (hBr.trans ((below_alloc wr (.cells #[.int .i64 k, .string s, .slice aop ps.length capp] 69)).mono hBr.size)).drew
      have rA := HH2.keep bA
      have hA : (wr.alloc (.cells #[.int .i64 k, .string s, .slice aop ps.length capp] 69)).drew.heap[wr.heap.size]? = some (.cells (ncells [((k, s, ps), .slice aop ps.length capp)]).toArray 69 (0, 0)) := by
        have := heap_alloc_new wr (.cells #[.int .i64 k, .string s, .slice aop ps.length capp] 69)
        simpa [World.drew, ncells] using this
      have hpA := own_below HP.out bA
      have hBA : B ≤ (wr.alloc (.cells #[.int .i64 k, .string s, .slice aop ps.length capp] 69)).drew.heap.size := Nat.le_trans (Nat.le_trans HH2.brb (Nat.le_of_lt hrb)) bA.size
      have hrt := rA.tab
      have hnone : idxR 1 (nds L) (k, s, ps) = none := idxR_none _ _ fun q hq => HNO.out q (by rw [nds_len] at hq; have := HN.out; omega)
      have f0 : wr.frozen? ⟨rb, 0, none⟩ = false := by
        have := (HH2.keep hBr).tab
        simp [World.frozen?, this]
      have HRA := Lib.hid rA
      have HA := Lib.hid hA
      have HPA := Lib.hid hpA
      have HBA := Lib.hid hBA
      have HNONE := Lib.hid hnone
      have HBL := Lib.hid bA
      have hpo : (Value.slice aop ps.length capp).oneCell' = true := rfl
      have hneW : rb ≠ wr.heap.size := by have := hBr.size; omega
      have hlt2 : rb < wr.heap.size := by have := hBr.size; omega
      have cA : (wr.alloc (.cells #[.int .i64 k, .string s, .slice aop ps.length capp] 69)).cell? ⟨rb, 0, none⟩ = some (.slice ao j cap) := by rw [(below_alloc wr _).cell hlt2]; exact r0
      have fA : (wr.alloc (.cells #[.int .i64 k, .string s, .slice aop ps.length capp] 69)).frozen? ⟨rb, 0, none⟩ = false := by
        have := (below_alloc wr (.cells #[.int .i64 k, .string s, .slice aop ps.length capp] 69)).block rb hlt2
        unfold World.frozen? at f0 ⊢
        rw [this]; exact f0
      clear rA hA hpA hBA hnone bA hrt
      go_wp2_with fail
      go_region_law (refine step_append_ref (.tmp 36) (.tmp 38) rfl rfl (B := B) (nv := .slice ao j cap) (L := L) rfl HRA.out.nodes ((k, s, ps), .slice aop ps.length capp) wr.heap.size rfl ?_ hpo HR.out ?_ ?_; (next => exact HA.out); (next => exact HBA.out); intro v' w2 hown2 hg2 hloc2; have hrb2 := radd_tab HRA.out hg2; have hcT2 : w2.cell? ⟨rb, 0, none⟩ = some (.slice ao j cap) := (by simp [World.cell?, hrb2]); have hfT2 : w2.frozen? ⟨rb, 0, none⟩ = false := (by simp [World.frozen?, hrb2]); obtain ⟨ao', cap', rfl, _⟩ := own_shape hown2; have HG2 := Lib.hid hg2; clear hg2 hrb2)
      all_goals
        go_wp2
        go_ret
        obtain ⟨q1, q2, q3⟩ := radd_end HRA.out HG2.out (p := ((k, s, ps), .slice aop ps.length capp)) HPA.out HR.out hown2 hloc2
        refine .inr ⟨HNONE.out, (by have := HN.out; simp; omega), _, q1, (Frm.of_below HBL.out).trans (Moved.refl _ _) q2, (Moved.refl _ _).trans HBL.out.size q3⟩
#print axioms radd_any
end Go.Proofs.Ytinncmljffcobaa
