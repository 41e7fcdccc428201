/- What waits for a term is asked again. -/
import Derived.Test.YtepkhhpdpmhfaaaDoorZTEnd
namespace Go.Proofs.YtepkhhpdpmhfaaaDoor.T
open Go Go.RowKit

theorem take_succ_getD (xs : List Int) (j : Nat) (h : j < xs.length) : xs.take (j + 1) = xs.take j ++ [xs.getD j 0] := by
  rw [List.take_succ_eq_append_getElem h]; simp [h]
/-- A slice that reads, and lies in no block of F. -/
structure OutR (F : Nat → Prop) (w : World) (v : Value) (zs : List Int) : Prop where
  rd : Rd .i64 w v zs
  far : zs ≠ [] → ∀ (a : Addr) (n cap : Nat), v = .slice (some a) n cap → ¬ F a.block
theorem OutR.of {F : Nat → Prop} {w : World} {v : Value} {zs : List Int} (h : Rd .i64 w v zs) (ho : OutF F v) : OutR F w v zs := ⟨h, fun _ => ho⟩
theorem OutR.step {F F' : Nat → Prop} {w w' : World} {v : Value} {zs : List Int} (h : OutR F w v zs) (hs : Stp F w F' w') : OutR F' w' v zs := by
  by_cases hz : zs = []
  · subst hz
    obtain ⟨ao, cap, hv, h1, h2, h3, _⟩ := h.rd
    exact ⟨⟨ao, cap, hv, h1, h2, h3, fun a ha j hj => by simp at hj⟩, fun h => absurd rfl h⟩
  · have hl : 0 < zs.length := List.length_pos_iff.2 hz
    obtain ⟨ao, cap, hv, h1, h2, h3, h4⟩ := h.rd
    have key : ∀ a, ao = some a → a.block < w.heap.size ∧ ¬ F a.block := fun a ha => by
      have h0 := cell_lt (h4 a ha 0 hl)
      have e : (a.add 0).block = a.block := by unfold Addr.add; split <;> rfl
      exact ⟨by rw [← e]; exact h0, h.far hz a zs.length cap (by rw [hv, ha])⟩
    refine ⟨⟨ao, cap, hv, h1, h2, h3, fun a ha j hj => ?_⟩, fun _ a n cp e => ?_⟩
    · have e : (a.add j).block = a.block := by unfold Addr.add; split <;> rfl
      rw [← h4 a ha j hj]
      exact World.cell?_of_block (w := w) (by rw [e]; exact hs.block _ (key a ha).1 (key a ha).2)
    · rw [hv] at e
      cases e
      exact hs.out (key a rfl).1 (key a rfl).2
/-- A list of a mind's, and what it holds then. -/
theorem LW.pushed {c : Fx} {N : List Nd} {w w1 w2 w3 : World} {F : Nat → Prop} {r : Nat → Int → Option Value} {S S' : MS} (h : LW c N w F r S) (b0 : Nat) (k0 x : Int) (ch : Nat) (hb : (b0 = 0 ∧ ch = c.m3) ∨ (b0 = 1 ∧ ch = c.m4)) (h1 : Below w.heap.size w w1) {v' : Value}
    (ho : w2.ownsRow 0 27 1 v' ((lst S b0 k0).length + 1) (cs .i64 (lst S b0 k0 ++ [x]))) (hg : w1.grownBy w2 (val r b0 k0).ownBlock) (hl : v'.ownBlock = (val r b0 k0).ownBlock ∨ v'.ownBlock = some w1.heap.size)
    (h3 : w2.grownBy w3 (some ch)) (hm : MapG w3 ch (fun j => if j = k0 then some v' else r b0 j))
    (hst : S'.st = S.st) (hsh : S'.sh = S.sh) (hr : ∀ b k, (b ≠ b0 ∨ k ≠ k0) → lst S' b k = lst S b k) (hx : lst S' b0 k0 = lst S b0 k0 ++ [x]) (hin : Inr N.length S') :
    ∃ F', LW c N w3 F' (rset r b0 k0 (some v')) S' ∧ Stp F w F' w3 := by
  have hM := h.mnd
  have hne := hM.ne
  have hch : ch ≠ c.M ∧ ch ≠ c.m1 ∧ ch ≠ c.m2 ∧ (∀ b j, (val r b j).ownBlock ≠ some ch) ∧ ch < w.heap.size ∧ F ch := by
    rcases hb with ⟨_, rfl⟩ | ⟨_, rfl⟩
    · exact ⟨fun e => hM.out (e ▸ hM.f3), hne.2.1.symm, hne.2.2.2.1.symm, fun b j e => (hM.row_ne e).2.2.1 rfl, hM.shut.lt, hM.f3⟩
    · exact ⟨fun e => hM.out (e ▸ hM.f4), hne.2.2.1.symm, hne.2.2.2.2.1.symm, fun b j e => (hM.row_ne e).2.2.2.1 rfl, hM.waits.lt, hM.f4⟩
  have hs1 := h1.size
  have g12 : Below 0 w1 w2 := (Below.refl 0 w1).grown hg (Nat.zero_le _) fun k _ => Nat.zero_le _
  have hs2 := g12.size
  have hv' : v'.ownBlock ≠ some ch := fun e => by
    rcases hl with e2 | e2
    · rw [e2] at e; exact hch.2.2.2.1 b0 k0 e
    · rw [e2] at e
      have e3 := Option.some.inj e
      have := hch.2.2.2.2.1
      omega
  have keep : ∀ k, k < w.heap.size → k ≠ ch → (val r b0 k0).ownBlock ≠ some k → w3.heap[k]? = w.heap[k]? := fun k hk hn hr => by
    rw [h3.block k (by omega) (fun e => hn (Option.some.inj e)), hg.block k (by omega) (fun e => hr e.symm), h1.block k hk]
  have keep3 : ch ≠ c.m3 → w3.heap[c.m3]? = w.heap[c.m3]? := fun e => keep _ hM.shut.lt e.symm (fun e => (hM.row_ne e).2.2.1 rfl)
  have keep4 : ch ≠ c.m4 → w3.heap[c.m4]? = w.heap[c.m4]? := fun e => keep _ hM.waits.lt e.symm (fun e => (hM.row_ne e).2.2.2.1 rfl)
  have m3 : MapG w3 c.m3 (rset r b0 k0 (some v') 0) := by
    rcases hb with ⟨rfl, rfl⟩ | ⟨rfl, rfl⟩
    · exact hm.congr fun k => by simp [rset]
    · exact (hM.shut.keep (keep3 hne.2.2.2.2.2.symm)).congr fun k => by simp [rset]
  have m4 : MapG w3 c.m4 (rset r b0 k0 (some v') 1) := by
    rcases hb with ⟨rfl, rfl⟩ | ⟨rfl, rfl⟩
    · exact (hM.waits.keep (keep4 hne.2.2.2.2.2)).congr fun k => by simp [rset]
    · exact hm.congr fun k => by simp [rset]
  obtain ⟨q1, q2⟩ := hM.push (S' := S') b0 k0 x ch h1 ho hg hl h3 hv' ⟨hch.1, hch.2.1, hch.2.2.1, hch.2.2.2.1⟩ hst hsh m3 m4 hr hx hch.2.2.2.2.2
  have hb2 : b0 ≠ 2 := by rcases hb with ⟨rfl, _⟩ | ⟨rfl, _⟩ <;> decide
  have hN := h.nb_ne
  refine ⟨_, ⟨q1, ?_, q2.out (blk_lt h.box) h.boxF, ?_, .inl h.nbF, h.tab.step q2, hin, h.wf⟩, q2⟩
  · rw [q2.block c.X (blk_lt h.box) h.boxF]; exact h.box
  · rw [val_not r _ (.inl fun e => hb2 e.symm), keep _ (blk_lt h.nb) (by rcases hb with ⟨_, rfl⟩ | ⟨_, rfl⟩; exact hN.2.2.2.1; exact hN.2.2.2.2.1) (hN.2.2.2.2.2 b0 k0)]; exact h.nb
theorem waitP_snoc (S : MS) (x : Int) (l : List Int) (y : Int) : waitP S x (l ++ [y]) = { waitP S x l with waits := up (waitP S x l).waits y ((waitP S x l).waits y ++ [x]) } := by
  unfold waitP; rw [List.foldl_append]; rfl
theorem waitP_st (S : MS) (x : Int) (l : List Int) : (waitP S x l).st = S.st ∧ (waitP S x l).sh = S.sh ∧ (waitP S x l).shut = S.shut ∧ (waitP S x l).news = S.news := by
  induction l generalizing S with
  | nil => exact ⟨rfl, rfl, rfl, rfl⟩
  | cons y r ih => exact ih _
theorem step_append_far {w : World} {ops : Array Oper} {o : Oper} {a : Act} {K : Act → World → Prop} {Q : Exit → Act → World → Prop} {E : Prop} (hgd : o.guard = none) (s x : Operand)
    (ho : o.op = .call { callee := .builtin .append, args := #[s, x], argTypes := #[38, 38] })
    (v : Value) (n : Nat) (xs : List Int) (hs : a.eval s = v) (hown : w.ownsRow 0 27 1 v n (cs .i64 xs))
    (ad : Addr) (c : Nat) (z : Int) (hx : a.eval x = .slice (some ad) 1 c) (hz : w.cell? ad = some (.int .i64 z)) (hn : n ≤ 2199023255552)
    (h : ∀ v' w', w'.ownsRow 0 27 1 v' (n + 1) (cs .i64 (xs ++ [z])) → w.grownBy w' v.ownBlock → (v'.ownBlock = v.ownBlock ∨ v'.ownBlock = some w.heap.size) → K (a.put o.dst v') w') :
    if Region.wanted o (yielded ops a.tmps) = true then Oper.wp Tryd.prog o a w K Q else E := by
  have hw : Region.wanted o (yielded ops a.tmps) = true := by simp [Region.wanted, hgd]
  rw [if_pos hw]
  obtain ⟨i, hi, hz0, hz1, hz2⟩ := info_parts info32
  obtain ⟨v', w', hr, h2, h3, _, h5⟩ := run_append_own_at (P := Tryd.prog) w 0 38 o.type 27 i _ 1 8 Tryd.underlying38 hi hz0 hz1 hz2 rfl (by decide) v n (cs .i64 xs) hown ad 1 c (cs .i64 [z]) rfl
    (fun j u hu => by
      cases j with
      | zero => simp [cs] at hu; subst hu; simpa [Addr.add] using hz
      | succ j => simp [cs] at hu)
    (cs_one .i64 [z]) (by unfold maxLen; omega) (by omega) (Nat.zero_le _)
  unfold Oper.wp execOp
  simp only [ho, resolve, invoke, builtin, Sem.run_bind, Sem.run_pure, Result.andThen_ok, List.map_toArray, List.map_cons, List.map_nil, hs, hx, hr]
  exact h v' w' (by rw [cs_app]; exact h2) h3 h5
theorem MapG.store {w : World} {mb : Nat} {f : Int → Option Value} (h : MapG w mb f) {t E : TypeId} (ht : Tryd.prog.underlying t = some (.map 27 E)) {k : Int} (h1 : 1 ≤ k) (h2 : k ≤ 65536) (u : Value) :
    ∃ w', (Instr.mapUpdate t (.map (some mb)) (.int .i64 k) u).run Tryd.prog w = .ok () w' ∧ MapG w' mb (fun j => if j = k then some u else f j) ∧ w.grownBy w' (some mb) := by
  have hs := h.small
  obtain ⟨D, d1, d2⟩ := h.ex
  obtain ⟨w', hrun, hw, hg⟩ := d1.update keyT ht (by unfold maxLen; omega) (keyOfT (wfT h1 h2)) (show hR u = some (.held u, []) from rfl)
  have d3 := d2.put d1.isMap (wfT h1 h2) u
  have s3 : ∀ j v, (if j = k then some u else f j) = some v → 1 ≤ j ∧ j ≤ 65536 := fun j v hj => by
    by_cases e : j = k
    · exact ⟨by omega, by omega⟩
    · rw [if_neg e] at hj; exact hs j v hj
  exact ⟨w', hrun, ⟨⟨_, size_of_small hw (d3.small s3), d3⟩, s3⟩, hg⟩
theorem step_updG {w : World} {ops : Array Oper} {o : Oper} {a : Act} {K : Act → World → Prop} {Q : Exit → Act → World → Prop} {E : Prop} (hgd : o.guard = none) (m x v : Operand) (t El : TypeId) (hop : o.op = Op.mapUpdate t m x v) (ht : Tryd.prog.underlying t = some (.map 27 El))
    {mb : Nat} {f : Int → Option Value} (hm : MapG w mb f) {k : Int} (h1 : 1 ≤ k) (h2 : k ≤ 65536) (u : Value) (em : a.eval m = .map (some mb)) (ex : a.eval x = .int .i64 k) (ev : a.eval v = u)
    (h : ∀ w', MapG w' mb (fun j => if j = k then some u else f j) → w.grownBy w' (some mb) → K (a.put o.dst undef) w') :
    if Region.wanted o (yielded ops a.tmps) = true then Oper.wp Tryd.prog o a w K Q else E := by
  have hw : Region.wanted o (yielded ops a.tmps) = true := by simp [Region.wanted, hgd]
  rw [if_pos hw]
  obtain ⟨w', hrun, r1, r2⟩ := hm.store ht h1 h2 u
  unfold Oper.wp
  simp [execOp, hop, em, ex, ev, hrun, Result.andThen]
  exact h w' r1 r2
def Cq (m i : Nat) (mb : Nat) (f : Int → Option Value) (w' : World) : Prop := w'.cell? ⟨m, i, none⟩ = some (.map (some mb)) ∧ MapG w' mb f
theorem Cq.below {m i mb : Nat} {f : Int → Option Value} {w w' : World} (h : Cq m i mb f w) (hb : Below w.heap.size w w') : Cq m i mb f w' := ⟨keepS hb h.1, h.2.keep (hb.block _ h.2.lt)⟩
theorem Cq.grown {m i mb : Nat} {f : Int → Option Value} {w w' : World} {row : Option Nat} (h : Cq m i mb f w) (hb : w.grownBy w' row) (h1 : row ≠ some m) (h2 : row ≠ some mb) : Cq m i mb f w' :=
  ⟨by rw [World.cell?_of_block (w := w) (w' := w') (hb.block m (cell_lt h.1) (fun e => h1 e.symm))]; exact h.1, h.2.keep (hb.block _ h.2.lt (fun e => h2 e.symm))⟩

set_option maxHeartbeats 4000000 in
set_option maxRecDepth 20000 in
theorem ask_any {c : Fx} {N : List Nd} {w : World} {F : Nat → Prop} {r : Nat → Int → Option Value} {S : MS} (h : LW c N w F r S) {x : Int} (hx : 1 ≤ x ∧ x ≤ (N.length : Int)) {s : ByteArray} {pv : Value} (hp : OutR F w pv (partsN N x)) (hroom : Room S 549755813888) :
    Calls Tryd.prog 67 #[.pointer (some ⟨c.M, 0, none⟩), .int .i64 x, .agg #[.int .i64 (kindN N x), .string s, pv], rv c] w
      fun e w' => e = .returned (.tuple #[]) ∧ After c N w F (askP S x (kindN N x) (partsN N x)) w' := by
  have hw := h.wf1 hx.1 hx.2
  have hlow := h.wf.low x hx.1 hx.2
  have h16 := h.wf.sixteen x
  have h2 := h.wf.two x
  have hp' : ∃ ao cap, pv = .slice ao (partsN N x).length cap := by obtain ⟨ao, cap, e, _⟩ := hp.rd; exact ⟨ao, cap, e⟩
  obtain ⟨ao, cap, rfl⟩ := hp'
  have hAsk : askP S x (kindN N x) (partsN N x) = if lackP S (canP S) x (kindN N x) (partsN N x) = [] then riseP S x 2 else waitP S x (lackP S (canP S) x (kindN N x) (partsN N x)) := rfl
  have hLl := lack_len S (canP S) x (kindN N x) (partsN N x) (fun e => (h2 e).1)
  have hmem : ∀ y ∈ lackP S (canP S) x (kindN N x) (partsN N x), 1 ≤ y ∧ y ≤ (N.length : Int) := by
    intro y hy
    unfold lackP at hy
    split at hy
    · simp at hy; subst hy; exact hx
    · have hpp : ∀ z ∈ partsN N x, 1 ≤ z ∧ z ≤ (N.length : Int) := fun z hz => by have := hlow z hz; exact ⟨this.1, by omega⟩
      split at hy
      · split at hy
        · cases hy
        · exact hpp y hy
      · cases hf : (partsN N x).find? (fun y => !canP S y) with
        | none => rw [hf] at hy; cases hy
        | some z =>
          rw [hf] at hy
          simp only [oneL, List.mem_singleton] at hy
          subst hy
          exact hpp _ (List.mem_of_find?_eq_some hf)
  rw [hAsk]
  have hlk := lacks_m (c := c) (F := F) (r := r) (S := S) (w := w.alloc (.cells #[.int .i64 (kindN N x), .string s, .slice ao (partsN N x).length cap] 54)) (h.mnd.below (below_alloc w _)) (cn := canP S)
    (fun W hW y hy => (can_any ((h.mnd.below (below_alloc w _)).below hW) hy).mono fun e w' ⟨e1, e2⟩ => ⟨e1, e2 ▸ Below.refl _ _⟩) (x := x) (k := kindN N x) (s := s) (pv := .slice ao (partsN N x).length cap) (ps := partsN N x) (hp.rd.below (below_alloc w _))
    (fun hz a n cp e => hp.far hz a n cp e) (fun y hy => by have := hlow y hy; exact wfT this.1 (by have := h.wf.few; omega)) (fun e => (h2 e).1) h16
  generalize lackP S (canP S) x (kindN N x) (partsN N x) = L at *
  have HH := Lib.hid h
  have HX := Lib.hid hx
  have HRM := Lib.hid hroom
  have HM := Lib.hid hmem
  have HL := Lib.hid hLl
  generalize kindN N x = kx at *
  generalize partsN N x = ps at *
  clear h hx hroom hmem hAsk hlow h16 h2 hLl hp
  go_enter Tryd.func67, Tryd.ntmps67
  go_wp2_with (go_at_call 43; refine hlk.mono ?_; rintro e w1 ⟨v, rfl, hrd1, ho1, hb1⟩; obtain ⟨va, vc, rfl⟩ : ∃ va vc, v = .slice va L.length vc := by obtain ⟨a, c, e, _⟩ := hrd1; exact ⟨a, c, e⟩)
  have hb0 : Below w.heap.size w w1 := (below_alloc w _).trans (hb1.mono (by simp))
  have HS0 := Lib.hid (Stp.below (F := F) hb0)
  have HO1 := Lib.hid (OutR.of hrd1 ho1)
  have HW1 := Lib.hid (HH.out.below hb0)
  clear hrd1 ho1 hb1 hb0 hlk
  go_loopw [19] (fun i wr => ∃ (j : Nat) (F' : Nat → Prop) (r' : Nat → Int → Option Value), j ≤ L.length ∧ i = .int .i64 j ∧ LW c N wr F' r' (waitP S x (L.take j)) ∧ Stp F w F' wr ∧ OutR F' wr (.slice va L.length vc) L) (fun i _ => L.length - (RowKit.intOf i).toNat)
  case atStart => exact ⟨0, F, r, Nat.zero_le _, rfl, HW1.out, HS0.out, HO1.out⟩
  case round =>
    obtain ⟨j, F', r', hj, rfl, hl, hs, ho⟩ := hrel
    have hl2 := HL.out
    by_cases hlt : j < L.length
    · have hlt' : (j : Int) < (L.length : Int) := by omega
      rcases ho.rd.cases with ⟨h0, _⟩ | ⟨b, off, cp, e, _, _, _, _, hc⟩
      · rw [h0] at hlt; simp at hlt
      · cases e
        have hcj := hc j hlt
        have hy := HM.out _ (getD_mem hlt)
        have HT := Lib.hid (take_succ_getD L j hlt)
        have HLW := Lib.hid hl
        have HST := Lib.hid hs
        have HOR := Lib.hid ho
        have hC : Cq c.M 4 c.m4 (r' 1) wr := ⟨hl.mnd.fields.2.2.2.2, hl.mnd.waits⟩
        have hrow := (hl.mnd.rows 1 (L.getD j 0)).1
        have hlen := (hl.inr.waits (L.getD j 0))
        have hroom := ((HRM.out.wait x (L.take j)).waits (L.getD j 0))
        have hM4 : c.m4 ≠ c.M := fun e => hl.mnd.out (e ▸ hl.mnd.f4)
        have hRN : (val r' 1 (L.getD j 0)).ownBlock ≠ some c.M ∧ (val r' 1 (L.getD j 0)).ownBlock ≠ some c.m4 := ⟨fun e => (hl.mnd.row_ne e).2.2.2.2 rfl, fun e => (hl.mnd.row_ne e).2.2.2.1 rfl⟩
        have hN2 : L.getD j 0 ≤ 65536 := by have := hl.wf.few; omega
        have hwy := wfT hy.1 hN2
        have hgl : (L.take j).length ≤ 2 := by rw [List.length_take]; omega
        clear hl hs ho hc
        generalize L.getD j 0 = y at *
        go_wp2_with fail
        refine wp_region_end 14 (fun w' => Cq c.M 4 c.m4 (r' 1) w') (by kernel_rfl) ?_
        have HC := Lib.hid (hC.below (Below.refl _ _).drew)
        refine wpAnyE_take [0] (i := 0) (oi := { dst := some 23, op := Op.move (Operand.tmp 0), type := 66, pos := "know.go:186", after := #[], guard := none }) (v := ?_) rfl (by kernel_rfl) (by kernel_rfl) (by kernel_rfl) (by kernel_rfl) rfl rfl (by kernel_rfl) (by kernel_rfl) (fun _ _ _ h => h) (Or.inl ⟨by rfl, ?_⟩) (by exact HC.out) ?_
        rotate_left
        · intro w hSw; (try dsimp only at hSw); obtain ⟨q0, q1⟩ := hSw; have ql := q1.look Tryd.underlying104 zeroSl hwy; go_simp; try (with_reducible rfl)
        repeat (first | simp only [Act.put] | simp only [List.setIfInBounds_toArray] | simp only [List.set_cons_zero] | simp only [List.set_cons_succ])
        refine wpAnyE_take [1] (i := 1) (oi := { dst := some 24, op := Op.nilCheck (Operand.tmp 23), type := 0, pos := "know.go:186", after := #[{ on := 0, ground := Ground.data }], guard := none }) (v := ?_) rfl (by kernel_rfl) (by kernel_rfl) (by kernel_rfl) (by kernel_rfl) rfl rfl (by kernel_rfl) (by kernel_rfl) (fun _ _ _ h => h) (Or.inl ⟨by rfl, ?_⟩) (by exact HC.out) ?_
        rotate_left
        · intro w hSw; (try dsimp only at hSw); obtain ⟨q0, q1⟩ := hSw; have ql := q1.look Tryd.underlying104 zeroSl hwy; go_simp; try (with_reducible rfl)
        repeat (first | simp only [Act.put] | simp only [List.setIfInBounds_toArray] | simp only [List.set_cons_zero] | simp only [List.set_cons_succ])
        refine wpAnyE_take [2] (i := 2) (oi := { dst := some 25, op := Op.fieldAddr 106 (Operand.tmp 24) 4, type := 0, pos := "know.go:186", after := #[{ on := 1, ground := Ground.data }], guard := none }) (v := ?_) rfl (by kernel_rfl) (by kernel_rfl) (by kernel_rfl) (by kernel_rfl) rfl rfl (by kernel_rfl) (by kernel_rfl) (fun _ _ _ h => h) (Or.inl ⟨by rfl, ?_⟩) (by exact HC.out) ?_
        rotate_left
        · intro w hSw; (try dsimp only at hSw); obtain ⟨q0, q1⟩ := hSw; have ql := q1.look Tryd.underlying104 zeroSl hwy; go_simp; try (with_reducible rfl)
        repeat (first | simp only [Act.put] | simp only [List.setIfInBounds_toArray] | simp only [List.set_cons_zero] | simp only [List.set_cons_succ])
        refine wpAnyE_take [3] (i := 3) (oi := { dst := some 26, op := Op.load 104 (Operand.tmp 25), type := 104, pos := "know.go:186", after := #[{ on := 2, ground := Ground.data }], guard := none }) (v := ?_) rfl (by kernel_rfl) (by kernel_rfl) (by kernel_rfl) (by kernel_rfl) rfl rfl (by kernel_rfl) (by kernel_rfl) (fun _ _ _ h => h) (Or.inl ⟨by rfl, ?_⟩) (by exact HC.out) ?_
        rotate_left
        · intro w hSw; (try dsimp only at hSw); obtain ⟨q0, q1⟩ := hSw; have ql := q1.look Tryd.underlying104 zeroSl hwy; go_simp; try (with_reducible rfl)
        repeat (first | simp only [Act.put] | simp only [List.setIfInBounds_toArray] | simp only [List.set_cons_zero] | simp only [List.set_cons_succ])
        refine wpAnyE_take [4] (i := 4) (oi := { dst := some 27, op := Op.move (Operand.tmp 10), type := 27, pos := "know.go:186", after := #[], guard := none }) (v := ?_) rfl (by kernel_rfl) (by kernel_rfl) (by kernel_rfl) (by kernel_rfl) rfl rfl (by kernel_rfl) (by kernel_rfl) (fun _ _ _ h => h) (Or.inl ⟨by rfl, ?_⟩) (by exact HC.out) ?_
        rotate_left
        · intro w hSw; (try dsimp only at hSw); obtain ⟨q0, q1⟩ := hSw; have ql := q1.look Tryd.underlying104 zeroSl hwy; go_simp; try (with_reducible rfl)
        repeat (first | simp only [Act.put] | simp only [List.setIfInBounds_toArray] | simp only [List.set_cons_zero] | simp only [List.set_cons_succ])
        refine wpAnyE_take [5] (i := 5) (oi := { dst := some 28, op := Op.move (Operand.tmp 0), type := 66, pos := "know.go:186", after := #[], guard := none }) (v := ?_) rfl (by kernel_rfl) (by kernel_rfl) (by kernel_rfl) (by kernel_rfl) rfl rfl (by kernel_rfl) (by kernel_rfl) (fun _ _ _ h => h) (Or.inl ⟨by rfl, ?_⟩) (by exact HC.out) ?_
        rotate_left
        · intro w hSw; (try dsimp only at hSw); obtain ⟨q0, q1⟩ := hSw; have ql := q1.look Tryd.underlying104 zeroSl hwy; go_simp; try (with_reducible rfl)
        repeat (first | simp only [Act.put] | simp only [List.setIfInBounds_toArray] | simp only [List.set_cons_zero] | simp only [List.set_cons_succ])
        refine wpAnyE_take [6] (i := 6) (oi := { dst := some 29, op := Op.nilCheck (Operand.tmp 28), type := 0, pos := "know.go:186", after := #[{ on := 5, ground := Ground.data }], guard := none }) (v := ?_) rfl (by kernel_rfl) (by kernel_rfl) (by kernel_rfl) (by kernel_rfl) rfl rfl (by kernel_rfl) (by kernel_rfl) (fun _ _ _ h => h) (Or.inl ⟨by rfl, ?_⟩) (by exact HC.out) ?_
        rotate_left
        · intro w hSw; (try dsimp only at hSw); obtain ⟨q0, q1⟩ := hSw; have ql := q1.look Tryd.underlying104 zeroSl hwy; go_simp; try (with_reducible rfl)
        repeat (first | simp only [Act.put] | simp only [List.setIfInBounds_toArray] | simp only [List.set_cons_zero] | simp only [List.set_cons_succ])
        refine wpAnyE_take [7] (i := 7) (oi := { dst := some 30, op := Op.fieldAddr 106 (Operand.tmp 29) 4, type := 0, pos := "know.go:186", after := #[{ on := 6, ground := Ground.data }], guard := none }) (v := ?_) rfl (by kernel_rfl) (by kernel_rfl) (by kernel_rfl) (by kernel_rfl) rfl rfl (by kernel_rfl) (by kernel_rfl) (fun _ _ _ h => h) (Or.inl ⟨by rfl, ?_⟩) (by exact HC.out) ?_
        rotate_left
        · intro w hSw; (try dsimp only at hSw); obtain ⟨q0, q1⟩ := hSw; have ql := q1.look Tryd.underlying104 zeroSl hwy; go_simp; try (with_reducible rfl)
        repeat (first | simp only [Act.put] | simp only [List.setIfInBounds_toArray] | simp only [List.set_cons_zero] | simp only [List.set_cons_succ])
        refine wpAnyE_take [8] (i := 8) (oi := { dst := some 31, op := Op.load 104 (Operand.tmp 30), type := 104, pos := "know.go:186", after := #[{ on := 7, ground := Ground.data }], guard := none }) (v := ?_) rfl (by kernel_rfl) (by kernel_rfl) (by kernel_rfl) (by kernel_rfl) rfl rfl (by kernel_rfl) (by kernel_rfl) (fun _ _ _ h => h) (Or.inl ⟨by rfl, ?_⟩) (by exact HC.out) ?_
        rotate_left
        · intro w hSw; (try dsimp only at hSw); obtain ⟨q0, q1⟩ := hSw; have ql := q1.look Tryd.underlying104 zeroSl hwy; go_simp; try (with_reducible rfl)
        repeat (first | simp only [Act.put] | simp only [List.setIfInBounds_toArray] | simp only [List.set_cons_zero] | simp only [List.set_cons_succ])
        refine wpAnyE_take [9] (i := 9) (oi := { dst := some 32, op := Op.move (Operand.tmp 10), type := 27, pos := "know.go:186", after := #[], guard := none }) (v := ?_) rfl (by kernel_rfl) (by kernel_rfl) (by kernel_rfl) (by kernel_rfl) rfl rfl (by kernel_rfl) (by kernel_rfl) (fun _ _ _ h => h) (Or.inl ⟨by rfl, ?_⟩) (by exact HC.out) ?_
        rotate_left
        · intro w hSw; (try dsimp only at hSw); obtain ⟨q0, q1⟩ := hSw; have ql := q1.look Tryd.underlying104 zeroSl hwy; go_simp; try (with_reducible rfl)
        repeat (first | simp only [Act.put] | simp only [List.setIfInBounds_toArray] | simp only [List.set_cons_zero] | simp only [List.set_cons_succ])
        refine wpAnyE_take [10] (i := 10) (oi := { dst := some 33, op := Op.lookup 104 (Operand.tmp 31) (Operand.tmp 32) false, type := 38, pos := "know.go:186", after := #[{ on := 8, ground := Ground.data }, { on := 9, ground := Ground.data }], guard := none }) (v := ?_) rfl (by kernel_rfl) (by kernel_rfl) (by kernel_rfl) (by kernel_rfl) rfl rfl (by kernel_rfl) (by kernel_rfl) (fun _ _ _ h => h) (Or.inl ⟨by rfl, ?_⟩) (by exact HC.out) ?_
        rotate_left
        · intro w hSw; (try dsimp only at hSw); obtain ⟨q0, q1⟩ := hSw; have ql := q1.look Tryd.underlying104 zeroSl hwy; go_simp; try (with_reducible rfl)
        repeat (first | simp only [Act.put] | simp only [List.setIfInBounds_toArray] | simp only [List.set_cons_zero] | simp only [List.set_cons_succ])
        refine wpAnyE_take [11] (i := 11) (oi := { dst := some 34, op := Op.move (Operand.tmp 1), type := 27, pos := "know.go:186", after := #[], guard := none }) (v := ?_) rfl (by kernel_rfl) (by kernel_rfl) (by kernel_rfl) (by kernel_rfl) rfl rfl (by kernel_rfl) (by kernel_rfl) (fun _ _ _ h => h) (Or.inl ⟨by rfl, ?_⟩) (by exact HC.out) ?_
        rotate_left
        · intro w hSw; (try dsimp only at hSw); obtain ⟨q0, q1⟩ := hSw; have ql := q1.look Tryd.underlying104 zeroSl hwy; go_simp; try (with_reducible rfl)
        repeat (first | simp only [Act.put] | simp only [List.setIfInBounds_toArray] | simp only [List.set_cons_zero] | simp only [List.set_cons_succ])
        refine wpAnyE_one (i := 12) (o := { dst := some 35, op := Op.buildSlice 38 1 #[(0, Operand.tmp 34)], type := 38, pos := "know.go:186", after := #[{ on := 11, ground := Ground.data }], guard := none }) (by kernel_rfl) rfl (fun K hK => ?_)
        go_simp
        refine hK.out _ _ (fun hL => ?_) ?_
        · exact HC.out.below (below_alloc _ _)
        clear hK K
        repeat (first | simp only [Act.put] | simp only [List.setIfInBounds_toArray] | simp only [List.set_cons_zero] | simp only [List.set_cons_succ])
        refine wpAnyE_one (i := 13) (o := { dst := some 36, op := Op.call { callee := Callee.builtin Builtin.append, args := #[Operand.tmp 33, Operand.tmp 35], argTypes := #[38, 38] }, type := 38, pos := "know.go:186", after := #[{ on := 10, ground := Ground.data }, { on := 12, ground := Ground.data }], guard := none }) (by kernel_rfl) rfl (fun K hK => ?_)
        refine step_append_far (by rfl) _ _ (by rfl) (val r' 1 y) _ (lst (waitP S x (L.take j)) 1 y) (by rfl) (own_alloc (own_below hrow (Below.refl _ _).drew) _) ⟨wr.heap.size, 0, none⟩ 1 x (by rfl) (by simp) (by simp [lst] at hroom ⊢; omega) ?_
        intro v2 w2 ho2 hg2 hl2
        refine hK.out _ _ (fun hL => ?_) ?_
        · exact (HC.out.below (below_alloc _ _)).grown hg2 hRN.1 hRN.2
        clear hK K
        repeat (first | simp only [Act.put] | simp only [List.setIfInBounds_toArray] | simp only [List.set_cons_zero] | simp only [List.set_cons_succ])
        refine wpAnyE_one (i := 14) (o := { dst := none, op := Op.mapUpdate 104 (Operand.tmp 26) (Operand.tmp 27) (Operand.tmp 36), type := 0, pos := "know.go:186", after := #[{ on := 3, ground := Ground.data }, { on := 4, ground := Ground.data }, { on := 13, ground := Ground.data }, { on := 13, ground := Ground.chain }, { on := 0, ground := Ground.phase }, { on := 1, ground := Ground.phase }, { on := 2, ground := Ground.phase }, { on := 3, ground := Ground.phase }, { on := 4, ground := Ground.phase }, { on := 5, ground := Ground.phase }, { on := 6, ground := Ground.phase }, { on := 7, ground := Ground.phase }, { on := 8, ground := Ground.phase }, { on := 9, ground := Ground.phase }, { on := 10, ground := Ground.phase }, { on := 11, ground := Ground.phase }, { on := 12, ground := Ground.phase }, { on := 13, ground := Ground.phase }], guard := none }) (by kernel_rfl) rfl (fun K hK => ?_)
        refine step_updG (by rfl) _ _ _ 104 38 (by rfl) Tryd.underlying104 (((HC.out.below (below_alloc _ _)).grown hg2 hRN.1 hRN.2).2) hy.1 hN2 v2 (by rfl) (by rfl) (by rfl) ?_
        intro w3 hm3 hg3
        have HB1 := Lib.hid (((Below.refl wr.heap.size wr).drew).trans ((below_alloc wr.drew (.cells #[.int .i64 x] 27)).mono (Nat.le_refl _)))
        have HO2 := Lib.hid ho2
        have HG2 := Lib.hid hg2
        have HL2 := Lib.hid hl2
        have HG3 := Lib.hid hg3
        have HMP := Lib.hid hm3
        clear ho2 hg2 hl2 hg3 hm3 hC hrow
        refine hK.out _ _ (fun hL => absurd hL (by decide)) ?_
        clear hK K
        repeat (first | simp only [Act.put] | simp only [List.setIfInBounds_toArray] | simp only [List.set_cons_zero] | simp only [List.set_cons_succ])
        refine wpAnyE_done (by kernel_rfl) ?_ _
        simp only [Exit.inBlock, Exit.then]
        refine ‹∀ (a : Act) (w : World), Code.wp Tryd.prog _ _ a w → _› _ _ ?_
        have hpush := HLW.out.pushed (S' := waitP S x (L.take (j + 1))) 1 y x c.m4 (.inr ⟨rfl, rfl⟩) HB1.out HO2.out HG2.out HL2.out HG3.out HMP.out
          (by rw [HT.out, waitP_snoc]) (by rw [HT.out, waitP_snoc]) (fun b k e => ?_) (by rw [HT.out, waitP_snoc]; simp [lst, up_same]) (HH.out.inr.wait HX.out _)
        · obtain ⟨F2, p1, p2⟩ := hpush
          go_wp2_with fail
          go_roundw
          case rel => exact ⟨j + 1, F2, _, by omega, by go_num, p1, HST.out.trans p2, HOR.out.step p2⟩
          case measure => simp [RowKit.intOf]; omega
        · rw [HT.out, waitP_snoc]
          unfold lst
          by_cases e1 : b = 1
          · subst e1
            have hk : k ≠ y := by rcases e with e | e; exact absurd rfl e; exact e
            simp [up_other _ _ hk]
          · simp [e1]
    · obtain rfl : j = L.length := by omega
      rw [List.take_length] at hl
      by_cases hL : L = []
      · subst hL
        have hl' : LW c N wr F' r' S := hl
        have hri := rise_any hl' HX.out (to := 2) (by decide) (HRM.out.mono (by decide))
        have HST := Lib.hid hs
        clear hl hs ho hl' hlt
        unfold rv at *
        go_wp2_with (go_at_call 51; refine hri.mono ?_; rintro e w3 ⟨rfl, ha⟩)
        go_end0
        exact ⟨rfl, ha.after.pre HST.out⟩
      · have hne : ¬ ((L.length : Int) = 0) := fun e => hL (List.eq_nil_of_length_eq_zero (by omega))
        have HN := Lib.hid hL
        have HLW := Lib.hid hl
        have HST := Lib.hid hs
        clear hl hs ho hL
        go_wp2_with fail
        go_end0
        exact ⟨rfl, F', r', HLW.out, HST.out⟩

end Go.Proofs.YtepkhhpdpmhfaaaDoor.T
namespace Go.Proofs.YtepkhhpdpmhfaaaDoor.T
open Go Go.RowKit

theorem foldl_take {α : Type} (f : α → Int → α) (a : α) (l : List Int) (j : Nat) (h : j < l.length) : (l.take (j + 1)).foldl f a = f ((l.take j).foldl f a) (l.getD j 0) := by
  rw [take_succ_getD l j h, List.foldl_append]; rfl
theorem Room.step {N : List Nd} (hN : Wf N) {S : MS} {m : Nat} (h : Room S m) (x : Int) : Room (wakeStep N S x) (m + 2) := by
  unfold wakeStep
  split
  · exact h.mono (by omega)
  · exact h.ask x _ _ fun e => (hN.two x e).1
theorem Room.wakes {N : List Nd} (hN : Wf N) {S : MS} {m : Nat} (h : Room S m) (l : List Int) : Room (l.foldl (wakeStep N) S) (m + 2 * l.length) := by
  induction l generalizing S m with
  | nil => exact h
  | cons x r ih =>
    have := ih (h.step hN x)
    simp only [List.foldl_cons, List.length_cons]
    exact this.mono (by omega)
theorem Inr.step {N : List Nd} {S : MS} (h : Inr N.length S) {x : Int} (hx : 1 ≤ x ∧ x ≤ (N.length : Int)) : Inr N.length (wakeStep N S x) := by
  unfold wakeStep
  split
  · exact h
  · exact h.ask hx _ _
theorem Inr.steps {N : List Nd} {S : MS} (h : Inr N.length S) {l : List Int} (hl : ∀ x ∈ l, 1 ≤ x ∧ x ≤ (N.length : Int)) : Inr N.length (l.foldl (wakeStep N) S) := by
  induction l generalizing S with
  | nil => exact h
  | cons x r ih => exact ih (h.step (hl x (by simp))) fun y hy => hl y (by simp [hy])
theorem Room.clear1 {S : MS} {m : Nat} (h : Room S m) (k : Int) : Room { S with waits := up S.waits k [] } m := ⟨h.shut, fun j => by
  show (up S.waits k [] j).length ≤ m
  unfold up
  split
  · exact Nat.zero_le _
  · exact h.waits j, h.news⟩
theorem Room.clear0 {S : MS} {m : Nat} (h : Room S m) (k : Int) : Room { S with shut := up S.shut k [] } m := ⟨fun j => by
  show (up S.shut k [] j).length ≤ m
  unfold up
  split
  · exact Nat.zero_le _
  · exact h.shut j, h.waits, h.news⟩
theorem Inr.clear1 {n : Nat} {S : MS} (h : Inr n S) (k : Int) : Inr n { S with waits := up S.waits k [] } := ⟨h.st0, h.stb, h.sh0, h.shut, fun j x hx => by
  by_cases e : j = k
  · simp [e, up_same] at hx
  · simp only [up_other _ _ e] at hx; exact h.waits j x hx, h.news⟩
theorem Inr.clear0 {n : Nat} {S : MS} (h : Inr n S) (k : Int) : Inr n { S with shut := up S.shut k [] } := ⟨h.st0, h.stb, h.sh0, fun j x hx => by
  by_cases e : j = k
  · simp [e, up_same] at hx
  · simp only [up_other _ _ e] at hx; exact h.shut j x hx, h.waits, h.news⟩

/-- A row is taken out of its map: it is the mind's no more. -/
theorem LW.drop {c : Fx} {N : List Nd} {w w3 : World} {F : Nat → Prop} {r : Nat → Int → Option Value} {S S' : MS} (h : LW c N w F r S) (b0 : Nat) (k0 : Int) (ch : Nat) (hb : (b0 = 0 ∧ ch = c.m3) ∨ (b0 = 1 ∧ ch = c.m4))
    (h3 : w.grownBy w3 (some ch)) (hm : MapG w3 ch (fun j => if j = k0 then none else r b0 j))
    (hst : S'.st = S.st) (hsh : S'.sh = S.sh) (hr : ∀ b k, (b ≠ b0 ∨ k ≠ k0) → lst S' b k = lst S b k) (hx : lst S' b0 k0 = []) (hin : Inr N.length S') :
    LW c N w3 (fun k => F k ∧ (val r b0 k0).ownBlock ≠ some k) (rset r b0 k0 none) S' ∧ Stp F w (fun k => F k ∧ (val r b0 k0).ownBlock ≠ some k) w3 ∧ OutR (fun k => F k ∧ (val r b0 k0).ownBlock ≠ some k) w3 (val r b0 k0) (lst S b0 k0) := by
  have hM := h.mnd
  have hne := hM.ne
  have hch : ch ≠ c.M ∧ ch ≠ c.m1 ∧ ch ≠ c.m2 ∧ (∀ b j, (val r b j).ownBlock ≠ some ch) ∧ F ch := by
    rcases hb with ⟨_, rfl⟩ | ⟨_, rfl⟩
    · exact ⟨fun e => hM.out (e ▸ hM.f3), hne.2.1.symm, hne.2.2.2.1.symm, fun b j e => (hM.row_ne e).2.2.1 rfl, hM.f3⟩
    · exact ⟨fun e => hM.out (e ▸ hM.f4), hne.2.2.1.symm, hne.2.2.2.2.1.symm, fun b j e => (hM.row_ne e).2.2.2.1 rfl, hM.f4⟩
  have g : Below 0 w w3 := (Below.refl 0 w).grown h3 (Nat.zero_le _) fun k _ => Nat.zero_le _
  have keep : ∀ k, k < w.heap.size → k ≠ ch → w3.heap[k]? = w.heap[k]? := fun k hk hn => h3.block k hk (fun e => hn (Option.some.inj e))
  have m3 : MapG w3 c.m3 (rset r b0 k0 none 0) := by
    rcases hb with ⟨rfl, rfl⟩ | ⟨rfl, rfl⟩
    · exact hm.congr fun k => by simp [rset]
    · exact (hM.shut.keep (keep _ hM.shut.lt hne.2.2.2.2.2)).congr fun k => by simp [rset]
  have m4 : MapG w3 c.m4 (rset r b0 k0 none 1) := by
    rcases hb with ⟨rfl, rfl⟩ | ⟨rfl, rfl⟩
    · exact (hM.waits.keep (keep _ hM.waits.lt hne.2.2.2.2.2.symm)).congr fun k => by simp [rset]
    · exact hm.congr fun k => by simp [rset]
  have hstp : Stp F w (fun k => F k ∧ (val r b0 k0).ownBlock ≠ some k) w3 := ⟨g.os, g.tape, g.output, g.size, fun k hk hn => keep k hk (fun e => hn (e ▸ hch.2.2.2.2)), fun k hk => .inl hk.1⟩
  have hb2 : b0 ≠ 2 := by rcases hb with ⟨rfl, _⟩ | ⟨rfl, _⟩ <;> decide
  have hN := h.nb_ne
  have hrowF : ∀ b k, (b ≠ b0 ∨ k ≠ k0) → ∀ gg, (val r b k).ownBlock = some gg → F gg ∧ (val r b0 k0).ownBlock ≠ some gg := fun b k e gg hg => ⟨(hM.rows b k).2 gg hg, fun e2 => by
    obtain ⟨rfl, rfl⟩ := hM.apart _ _ _ _ _ hg e2
    rcases e with e | e <;> exact e rfl⟩
  refine ⟨⟨?_, ?_, fun e => h.boxF e.1, ?_, ⟨h.nbF, hN.2.2.2.2.2 _ _⟩, h.tab.step hstp, hin, h.wf⟩, hstp, ?_⟩
  · exact
    { lt := fun k hk => Nat.lt_of_lt_of_le (hM.lt k hk.1) g.size
      cell := by rw [keep _ (blk_lt hM.cell) (fun e => hch.1 e.symm)]; exact hM.cell
      out := fun e => hM.out e.1
      f1 := ⟨hM.f1, fun e => (hM.row_ne e).1 rfl⟩, f2 := ⟨hM.f2, fun e => (hM.row_ne e).2.1 rfl⟩, f3 := ⟨hM.f3, fun e => (hM.row_ne e).2.2.1 rfl⟩, f4 := ⟨hM.f4, fun e => (hM.row_ne e).2.2.2.1 rfl⟩
      ne := hne
      states := by rw [hst]; exact hM.states.keep (keep _ hM.states.lt (fun e => hch.2.1 e.symm))
      shown := by rw [hsh]; exact hM.shown.keep (keep _ hM.shown.lt (fun e => hch.2.2.1 e.symm))
      shut := m3, waits := m4
      rows := fun b k => by
        by_cases e : b ≠ b0 ∨ k ≠ k0
        · rw [val_not r _ e, hr b k e]
          exact (hM.rows b k).keep (fun gg hg => keep gg ((hM.rows b k).1.lt gg hg).2 (fun e2 => hch.2.2.2.1 b k (e2 ▸ hg))) (hrowF b k e)
        · have e1 : b = b0 := Classical.byContradiction fun e1 => e (.inl e1)
          have e2 : k = k0 := Classical.byContradiction fun e1 => e (.inr e1)
          subst e1; subst e2
          rw [val_del, hx]
          exact .nil _ _
      apart := fun b k b' k' gg hg hg' => by
        have nn : ∀ b k, (val (rset r b0 k0 none) b k).ownBlock = some gg → b ≠ b0 ∨ k ≠ k0 := fun b k hg => by
          by_cases e : b ≠ b0 ∨ k ≠ k0
          · exact e
          · have e1 : b = b0 := Classical.byContradiction fun e1 => e (.inl e1)
            have e2 : k = k0 := Classical.byContradiction fun e1 => e (.inr e1)
            subst e1; subst e2
            rw [val_del] at hg; cases hg
        rw [val_not r _ (nn b k hg)] at hg
        rw [val_not r _ (nn b' k' hg')] at hg'
        exact hM.apart _ _ _ _ _ hg hg' }
  · rw [keep _ (blk_lt h.box) (fun e => h.boxF (e ▸ hch.2.2.2.2))]; exact h.box
  · rw [val_not r _ (.inl fun e => hb2 e.symm), keep _ (blk_lt h.nb) (by rcases hb with ⟨_, rfl⟩ | ⟨_, rfl⟩; exact hN.2.2.2.1; exact hN.2.2.2.2.1)]; exact h.nb
  · have hrow := (hM.rows b0 k0).1
    refine ⟨(Rd.of_own (own_keep hrow fun gg hg => keep gg (hrow.lt gg hg).2 (fun e2 => hch.2.2.2.1 b0 k0 (e2 ▸ hg)))).1, fun hz a n cap e hF => hF.2 ?_⟩
    rcases hrow.2 with ⟨e2, _⟩ | ⟨g2, cap2, cur, e2, _⟩
    · rw [e2] at e; cases e
    · rw [e2] at e; cases e
      rw [e2]; rfl
theorem outR_own {F : Nat → Prop} {w : World} {base : Nat} {v : Value} {n : Nat} {zs : List Int} (h : w.ownsRow base 27 1 v n (cs .i64 zs)) (hF : ∀ k, F k → k < base) : OutR F w v zs := by
  refine ⟨(Rd.of_own h).1, fun _ a m cap e hk => ?_⟩
  have := hF _ hk
  rcases h.2 with ⟨e2, _⟩ | ⟨g2, cap2, cur, e2, hg, _⟩
  · rw [e2] at e; cases e
  · rw [e2] at e; cases e
    simp only at this
    omega
set_option maxHeartbeats 4000000 in
set_option maxRecDepth 20000 in
theorem wake_any {c : Fx} {N : List Nd} {w : World} {F : Nat → Prop} {r : Nat → Int → Option Value} {S : MS} (h : LW c N w F r S) {x : Int} (hx : 1 ≤ x ∧ x ≤ (N.length : Int)) (hroom : Room S 137438953472) :
    Calls Tryd.prog 60 #[.pointer (some ⟨c.M, 0, none⟩), .int .i64 x, rv c] w fun e w' => e = .returned (.tuple #[]) ∧ After c N w F (wakeP N S x) w' := by
  have hw := h.wf1 hx.1 hx.2
  obtain ⟨_, _, _, _, c4⟩ := h.mnd.fields
  have hl := (h.mnd.rowLook hw).2
  have hmap := h.mnd.waits
  have hsh := own_shape (h.mnd.rows 1 x).1
  obtain ⟨va, vc, hv, _⟩ := hsh
  have hLw : lst S 1 x = S.waits x := rfl
  rw [hv] at hl
  rw [hLw] at hl hv
  have HV := Lib.hid hv
  have HH := Lib.hid h
  have HRM := Lib.hid hroom
  have HIN := Lib.hid (h.inr.waits x)
  have HWk : Hid (wakeP N S x = (S.waits x).foldl (wakeStep N) { S with waits := up S.waits x [] }) := Lib.hid rfl
  have hdrop := fun w3 (h3 : w.grownBy w3 (some c.m4)) hm => h.drop (S' := { S with waits := up S.waits x [] }) 1 x c.m4 (.inr ⟨rfl, rfl⟩) h3 hm rfl rfl (fun b k e => by
    unfold lst
    by_cases e1 : b = 1
    · subst e1
      have hk : k ≠ x := by rcases e with e | e; exact absurd rfl e; exact e
      simp [up_other _ _ hk]
    · simp [e1]) (by simp [lst, up_same]) (h.inr.clear1 x)
  have hdrop' : ∀ w3 (_ : w.grownBy w3 (some c.m4)) (_ : MapG w3 c.m4 (fun j => if j = x then none else r 1 j)), LW c N w3 (fun k => F k ∧ (val r 1 x).ownBlock ≠ some k) (rset r 1 x none) { S with waits := up S.waits x [] } ∧ Stp F w (fun k => F k ∧ (val r 1 x).ownBlock ≠ some k) w3 ∧ OutR (fun k => F k ∧ (val r 1 x).ownBlock ≠ some k) w3 (val r 1 x) (S.waits x) := hdrop
  have HD := Lib.hid hdrop'
  clear hdrop'
  have hlen0 := hroom.waits x
  clear h hx hroom hv hdrop hLw
  generalize S.waits x = l at *
  go_enter Tryd.func60, Tryd.ntmps60
  go_wp2_with (at_delete; refine wpList_delG rfl _ _ 104 38 rfl Tryd.underlying104 hmap hw rfl rfl ?_; intro w1 hm1 hg1)
  obtain ⟨hl1, hs1, ho1⟩ := HD.out w1 hg1 hm1
  rw [HV.out] at hl1 hs1 ho1
  have HL1 := Lib.hid hl1
  have HS1 := Lib.hid hs1
  have HO1 := Lib.hid ho1
  clear hm1 hg1 hl1 hs1 ho1 hmap
  go_loopw [24] (fun i wr => ∃ (j : Nat) (F' : Nat → Prop) (r' : Nat → Int → Option Value), j ≤ l.length ∧ i = .int .i64 j ∧ LW c N wr F' r' ((l.take j).foldl (wakeStep N) { S with waits := up S.waits x [] }) ∧ Stp F w F' wr ∧ OutR F' wr (.slice va l.length vc) l) (fun i _ => l.length - (RowKit.intOf i).toNat)
  case atStart => exact ⟨0, _, _, Nat.zero_le _, rfl, HL1.out, HS1.out, HO1.out⟩
  case round =>
    obtain ⟨j, F', r', hj, rfl, hlw, hs, ho⟩ := hrel
    by_cases hlt : j < l.length
    · have hlt' : (j : Int) < (l.length : Int) := by omega
      rcases ho.rd.cases with ⟨h0, _⟩ | ⟨b, off, cp, e, _, _, hcap, _, hc⟩
      · rw [h0] at hlt; simp at hlt
      · cases e
        have hcj := hc j hlt
        have hy := HIN.out _ (getD_mem hlt)
        have HF := Lib.hid (foldl_take (wakeStep N) { S with waits := up S.waits x [] } l j hlt)
        have hrm : Room ((l.take j).foldl (wakeStep N) { S with waits := up S.waits x [] }) 549755813888 := ((HRM.out.clear1 x).wakes HH.out.wf (l.take j)).mono (by rw [List.length_take]; omega)
        have hwy := hlw.wf1 hy.1 hy.2
        have HRL := Lib.hid hrm
        have HLW := Lib.hid hlw
        have HST := Lib.hid hs
        have HOR := Lib.hid ho
        have HY := Lib.hid hy
        clear hlw hs ho hc hrm
        generalize l.getD j 0 = y at *
        generalize (l.take j).foldl (wakeStep N) { S with waits := up S.waits x [] } = Sj at *
        have hcn := can_any HLW.out.mnd hwy
        have hN0 := HLW.out.mnd.fields.1
        cases hcan : canP Sj y with
        | true =>
          rw [hcan] at hcn
          have HE : Hid (wakeStep N Sj y = Sj) := Lib.hid (by unfold wakeStep; rw [if_pos hcan])
          clear hcan hy hN0
          go_wp2_with (go_at_call 41; refine hcn.mono ?_; rintro e w3 ⟨rfl, rfl⟩)
          go_roundw
          case rel => exact ⟨j + 1, F', r', by omega, by go_num, by rw [HF.out, HE.out]; exact HLW.out, HST.out, HOR.out⟩
          case measure => simp [RowKit.intOf]; omega
        | false =>
          rw [hcan] at hcn
          have HE : Hid (wakeStep N Sj y = askP Sj y (kindN N y) (partsN N y)) := Lib.hid (by unfold wakeStep; rw [if_neg (by simp [hcan])])
          have hlk := HLW.out.tab.look HY.out.1 HY.out.2
          clear hcan hy
          go_wp2_with (first
            | (go_at_call 41; refine hcn.mono ?_; rintro e w3 ⟨rfl, rfl⟩)
            | (go_at_call 23; refine hlk.mono ?_; rintro e w4 ⟨s, pv, rfl, ho4, hb4⟩; obtain ⟨ap, cq, rfl, _⟩ := own_shape ho4))
          have hb5 := hb4.trans ((below_alloc w4 (.cells #[.int .i64 (kindN N y), .string s, .slice ap (partsN N y).length cq] 54)).mono hb4.size)
          have hask := ask_any (s := s) (HLW.out.below hb5) HY.out (outR_own (own_alloc ho4 (.cells #[.int .i64 (kindN N y), .string s, .slice ap (partsN N y).length cq] 54)) HLW.out.mnd.lt) HRL.out
          have HB5 := Lib.hid (Stp.below (F := F') hb5)
          clear ho4 hb4 hb5
          refine hask.mono ?_
          rintro e w6 ⟨rfl, F2, r2, p1, p2⟩
          have HP1 := Lib.hid p1
          have HP2 := Lib.hid (HB5.out.trans p2)
          clear p1 p2 hask
          go_wp2_with fail
          go_roundw
          case rel => exact ⟨j + 1, F2, r2, by omega, by go_num, by rw [HF.out, HE.out]; exact HP1.out, HST.out.trans HP2.out, HOR.out.step HP2.out⟩
          case measure => simp [RowKit.intOf]; omega
    · obtain rfl : j = l.length := by omega
      rw [List.take_length] at hlw
      have HLW := Lib.hid hlw
      have HST := Lib.hid hs
      clear hlw hs ho
      go_wp2_with fail
      go_end0
      exact ⟨rfl, by rw [HWk.out]; exact ⟨F', r', HLW.out, HST.out⟩⟩
end Go.Proofs.YtepkhhpdpmhfaaaDoor.T
