/- number tells the number of a node that may be there already, and puts it there if it is not. -/
import Derived.Test.YtmplcibaoanlnaaSmall
namespace Go.Proofs.Ytmplcibaoanlnaa
open Go Go.RowKit

/-- The key before its parts are copied. -/
def kz (k : Int) (s : ByteArray) : List Value := .int .i64 k :: .string s :: List.replicate 16 (.int .i64 0)
theorem splice_pad (k : Int) (s : ByteArray) (ps : List Int) : splice (kz k s) 2 (cs .i64 ps) = .int .i64 k :: .string s :: cs .i64 (pad ps) := by
  have e : (List.replicate 16 (Value.int .i64 0)).drop ps.length = cs .i64 (List.replicate (16 - ps.length) 0) := by rw [List.drop_replicate]; simp only [cs, List.map_replicate]
  simp only [splice, kz, cs_len, List.take_succ_cons, List.take_zero, List.cons_append, List.nil_append]
  rw [Nat.add_comm 2 ps.length]
  simp only [List.drop_succ_cons]
  rw [e, pad, cs_app]

/-- The table, where only blocks from the heap's end on have changed. -/
theorem Tbl.to {w w' : World} {B tb mb : Nat} {nv : Value} {L : List (Nd × Value)} {f : Int → ByteArray → List Int → Option Int} (h : Tbl w B tb mb nv L f) (hb : Below w.heap.size w w') :
    Tbl w' B tb mb nv L f ∧ w'.cell? ⟨tb, 0, none⟩ = some nv ∧ w'.cell? ⟨tb, 1, none⟩ = some (.map (some mb)) := by
  have h' := h.keep hb
  exact ⟨h', by simp [World.cell?, h'.tab], by simp [World.cell?, h'.tab]⟩

theorem info71 : (Try.prog.info? 64).map (·.size) = some 18 := by kernel_rfl

/-- Behind the store into the map. -/
theorem number_end {w4 w5 : World} {B tb mb : Nat} {nv : Value} {L : List (Nd × Value)} {f f' : Int → ByteArray → List Int → Option Int} (h : Tbl w4 B tb mb nv L f) (hm : MapV w5 mb L.length f') (hg : w4.grownBy w5 (some mb)) :
    Tbl w5 B tb mb nv L f' ∧ Frm tb mb nv w4 w5 := by
  obtain ⟨D, ⟨es, clock, hmb, _⟩, _⟩ := h.map
  have hk : ∀ k, k < w4.heap.size → k ≠ mb → w5.heap[k]? = w4.heap[k]? := fun k hk hne => hg.block k hk (fun e => hne (Option.some.inj e))
  have hrow : ∀ {e : TypeId} {size : Nat} {v : Value} {n : Nat} {xs : List Value}, w4.ownsRow B e size v n xs → w5.ownsRow B e size v n xs := fun ho => by
    refine own_keep ho fun g hgo => hk g (ho.lt g hgo).2 fun e => ?_
    obtain ⟨cur, hc⟩ := own_blk ho hgo
    rw [e, hmb] at hc; cases hc
  exact ⟨⟨h.btb, h.bmb, by rw [hk tb (blk_lt h.tab) h.mb_ne.2.symm]; exact h.tab, hrow h.nodes, fun p hp => hrow (h.parts p hp), hm, h.small, h.ok⟩,
    ⟨hg.os, hg.tape, hg.output, hg.size, fun k hk' _ h2 _ => hk k hk' h2⟩⟩

/-- What number leaves: the number, and the table with the node in it. -/
def Numbered (w : World) (B tb mb : Nat) (nv : Value) (L : List (Nd × Value)) (p : Nd × Value) (c : Option Int) (e : Ending) (w' : World) : Prop :=
  match c with
  | some c => e = .returned (.int .i64 c) ∧ Below w.heap.size w w'
  | none => e = .returned (.int .i64 ((L.length : Int) + 1)) ∧ ∃ nv', Tbl w' B tb mb nv' (L ++ [p]) (idx (L ++ [p])) ∧ Frm tb mb nv w w' ∧ Moved w nv nv'

set_option maxRecDepth 20000 in
set_option maxHeartbeats 2000000 in
theorem number_any {w : World} {B tb mb : Nat} {nv : Value} {L : List (Nd × Value)} (h : Tbl w B tb mb nv L (idx L)) (k : Int) (s : ByteArray) (ps : List Int) (pv : Value)
    (hok : NdOk (k, s, ps)) (hk2 : k ≠ 2) (hp : w.ownsRow B 26 1 pv ps.length (cs .i64 ps)) (hroom : L.length < 65536) :
    Calls Try.prog 24 #[.pointer (some ⟨tb, 0, none⟩), .agg #[.int .i64 k, .string s, pv]] w fun e w' => Numbered w B tb mb nv L ((k, s, ps), pv) (idx L k s (pad ps)) e w' := by
  obtain ⟨ao, cap, hpv, hcap1, hcap2⟩ := own_shape hp
  have HPV := Lib.hid hpv
  have hpo := slice_one hp
  have HH := Lib.hid h
  have HR := Lib.hid hroom
  have HK2 := Lib.hid hk2
  have hlen16 := hok.2.2.1
  clear h hroom hpv hcap1 hcap2 hk2
  go_enter Try.func24, Try.ntmps24
  go_wp2
  have H1 : Hid (((w.alloc (.cells #[.int .i64 k, .string s, pv] 47)).alloc (.cells (kz k s).toArray 64)).heap[w.heap.size]? = some (.cells #[.int .i64 k, .string s, pv] 47 (0, 0))) := Lib.hid (heap_alloc2_old w _ _)
  have H2 : Hid (((w.alloc (.cells #[.int .i64 k, .string s, pv] 47)).alloc (.cells (kz k s).toArray 64)).heap[w.heap.size + 1]? = some (.cells (kz k s).toArray 64 (0, 0))) := Lib.hid (heap_alloc2_new w _ _)
  have H3 : Below w.heap.size w ((w.alloc (.cells #[.int .i64 k, .string s, pv] 47)).alloc (.cells (kz k s).toArray 64)) := (below_alloc w _).trans ((below_alloc _ _).mono (by simp))
  have H4 : Hid (((w.alloc (.cells #[.int .i64 k, .string s, pv] 47)).alloc (.cells (kz k s).toArray 64)).heap.size = w.heap.size + 2) := Lib.hid (by simp)
  change Code.wp _ _ _ _ ((w.alloc (.cells #[.int .i64 k, .string s, pv] 47)).alloc (.cells (kz k s).toArray 64))
  generalize (w.alloc (.cells #[.int .i64 k, .string s, pv] 47)).alloc (.cells (kz k s).toArray 64) = w1 at *
  have hcp : w1.cell? ⟨w.heap.size, 2, none⟩ = some pv := by simp [World.cell?, H1.out]
  rw [HPV.out] at hcp
  go_still_tail 4, (by kernel_rfl)
  have hps : ∀ a, ao = some a → ∀ j v, (cs .i64 ps)[j]? = some v → w1.drew.cell? (a.add j) = some v := by
    intro a ha j v hj
    have hp1 := own_below hp H3
    rw [HPV.out, ha] at hp1
    have hr := (Rd.of_own hp1).1
    obtain ⟨ao', cap', hv, _, _, _, hcell⟩ := hr
    simp only [Value.slice.injEq] at hv
    have hjl : j < ps.length := by
      have := (List.getElem?_eq_some_iff.1 hj).1
      simpa [cs_len] using this
    rw [cs_get .i64 ps j hjl] at hj
    cases hj
    exact hcell a hv.1.symm j hjl
  refine wpList_copy_splice (o := ⟨some 18, _, _, _, _, _⟩) rfl (.tmp 15) (.tmp 17) 31 31 rfl 26 Try.underlying31 (by kernel_rfl) (some ⟨w.heap.size + 1, 2, none⟩) ao 16 16 ps.length cap rfl rfl (w.heap.size + 1) 2 (kz k s) 64 H2.out (cs .i64 ps) (by rw [cs_len]; exact (Nat.min_eq_left hlen16).symm) ?_ (by rw [cs_len]; simp [kz]; omega) (cs_one .i64 ps) (w.heap.size + 1) w1.drew (Below.refl _ _) (Nat.le_refl _) ?_
  · intro hpos
    refine ⟨rfl, ?_⟩
    cases ao with
    | none =>
      exfalso
      rw [HPV.out] at hp
      rcases hp.2 with ⟨_, h0⟩ | ⟨g, _, _, hv, _⟩
      · rw [cs_len] at hpos; omega
      · simp at hv
    | some a => exact ⟨a, rfl, hps a rfl⟩
  intro w3 hw3 hb3
  have hk3 := hw3.out
  rw [splice_pad k s ps] at hk3
  have HK3 := Lib.hid hk3
  have B3 : Below w.heap.size w w3 := H3.drew.trans (hb3.mono (show w.heap.size ≤ w.heap.size + 1 by omega))
  have H31 : Hid (w3.heap[w.heap.size]? = some (.cells #[.int .i64 k, .string s, pv] 47 (0, 0))) := Lib.hid (by rw [hb3.block w.heap.size (by omega)]; exact H1.out)
  have S3 : w.heap.size + 2 ≤ w3.heap.size := by
    have h5 : w1.heap.size ≤ w3.heap.size := hb3.size
    have h4 := H4.out
    omega
  clear hk3 hw3 hps hcp
  obtain ⟨HT3, hc0, hc1⟩ := HH.out.to B3
  go_wp2
  have hc1' : w3.drew.cell? ⟨tb, 1, none⟩ = some (.map (some mb)) := hc1
  have HI : Hid ((Try.prog.info? 64).map (·.size) = some (Value.int .i64 k :: Value.string s :: cs .i64 (pad ps)).toArray.size) := Lib.hid (by rw [info71]; simp [cs_len, hok.key.2.2.1])
  refine wp_region_still_lit (by kernel_rfl) (by kernel_rfl) ?_
  still_step
  still_step
  still_step
  still_step
  refine wpStill_load_row rfl 64 (.tmp 5) rfl (w.heap.size + 1) rfl 64 _ (0, 0) _ HK3.out Try.underlying64 rfl HI.out ?_
  refine wpStill_lookup (.tmp 23) (.tmp 24) rfl rfl (HT3.map) rfl hok.key rfl ?_
  cases hC : idx L (k, s, ps).1 (k, s, ps).2.1 (pad (k, s, ps).2.2) with
  | some c =>
    have HC : Hid (idx L k s (pad ps) = some c) := Lib.hid hC
    clear hC
    still_step
    still_step
    still_step
    still_step
    still_step
    refine wpStill_nil ?_
    go_wp2
    go_ret
    rw [HC.out]
    exact ⟨rfl, B3.drew⟩
  | none =>
    have HC : Hid (idx L k s (pad ps) = none) := Lib.hid hC
    clear hC
    still_step
    still_step
    still_step
    still_step
    still_step
    refine wpStill_nil ?_
    have hb0 : w3.drew.cell? ⟨w.heap.size, 0, none⟩ = some (.int .i64 k) := (by simp [World.cell?, H31.out] : w3.cell? _ = _)
    have hb1 : w3.drew.cell? ⟨w.heap.size, 1, none⟩ = some (.string s) := (by simp [World.cell?, H31.out] : w3.cell? _ = _)
    have hb2 : w3.drew.cell? ⟨w.heap.size, 2, none⟩ = some pv := (by simp [World.cell?, H31.out] : w3.cell? _ = _)
    have hA := add_any (w := w3.drew) (HT3.keep (Below.refl _ _).drew) k s ps pv hok (own_below (own_below hp B3) (Below.refl _ _).drew) HR.out
    go_wp2_with (go_at_call 20; refine hA.mono ?_; rintro e w4 ⟨rfl, nv', ht4, hf4, hm4, hmb4⟩)
    have hc41 : w4.drew.cell? ⟨tb, 1, none⟩ = some (.map (some mb)) := (by simp [World.cell?, ht4.tab] : w4.cell? _ = _)
    have hkb : w4.drew.heap[w.heap.size + 1]? = some (.cells (Value.int .i64 k :: Value.string s :: cs .i64 (pad ps)).toArray 64 (0, 0)) := by
      have e1 := blk_lt HH.out.tab
      have e2 := HH.out.map.lt
      have e4 : w4.heap[w.heap.size + 1]? = w3.heap[w.heap.size + 1]? := hf4.block _ (show w.heap.size + 1 < w3.heap.size by omega) (by omega) (by omega) (fun e => by have := (HH.out.nodes.lt _ e.symm).2; omega)
      exact e4.trans HK3.out
    have HKB := Lib.hid hkb
    clear hkb
    refine wp_region_still_tail 6 (by kernel_rfl) (by kernel_rfl) ?_
    simp only [List.take_succ_cons, List.take_zero, List.drop_succ_cons, List.drop_zero]
    still_step
    still_step
    still_step
    still_step
    refine wpStill_load_row rfl 64 (.tmp 5) rfl (w.heap.size + 1) rfl 64 _ (0, 0) _ HKB.out Try.underlying64 rfl HI.out ?_
    still_step
    refine wpStill_nil ?_
    refine wpList_update (.tmp 38) (.tmp 39) (.tmp 40) rfl rfl ((HT3.map).keep (w' := w4.drew) hmb4) (by have := HR.out; unfold maxLen; omega) rfl hok.key rfl (wf_small _ (by omega) (by have := HR.out; omega)) rfl ?_
    intro w5 hmap5 hg5
    go_wp2
    go_ret
    rw [HC.out]
    have hT := number_end (w4 := w4.drew) (ht4.keep (Below.refl _ _).drew) ((hmap5.congr fun k' s' ps' _ => idx_new L ((k, s, ps), pv) HK2.out HC.out k' s' ps').mono (by simp)) hg5
    refine ⟨rfl, nv', hT.1, ?_, ?_⟩
    · exact ((Frm.of_below B3.drew).trans (Moved.refl _ _) (hf4.trans hm4 ((Frm.of_below (Below.refl _ _).drew).trans (Moved.refl _ _) hT.2)))
    · exact (Moved.refl w nv).trans B3.size hm4
#print axioms number_any
end Go.Proofs.Ytmplcibaoanlnaa
