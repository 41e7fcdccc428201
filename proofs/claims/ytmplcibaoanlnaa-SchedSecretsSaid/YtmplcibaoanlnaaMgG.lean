/- What a mind asks of a term: it rises, or waits for what it lacks. -/
import Derived.Test.YtmplcibaoanlnaaMgF
import Derived.Test.YtmplcibaoanlnaaEnd
namespace Go.Proofs.Ytmplcibaoanlnaa
open Go Go.RowKit

theorem take_succ_getD (xs : List Int) (j : Nat) (h : j < xs.length) : xs.take (j + 1) = xs.take j ++ [xs.getD j 0] := by
  rw [List.take_succ_eq_append_getElem h]; simp [h]
/-- A slice that reads, and lies in no block of F. -/
structure OutR (F : Nat → Prop) (w : World) (v : Value) (zs : List Int) : Prop where
  rd : Rd .i64 w v zs
  far : zs ≠ [] → ∀ (a : Addr) (n cap : Nat), v = .slice (some a) n cap → ¬ F a.block
theorem OutR.of {F : Nat → Prop} {w : World} {v : Value} {zs : List Int} (h : Rd .i64 w v zs) (ho : OutF F v) : OutR F w v zs := ⟨h, fun _ => ho⟩
theorem OutR.step {F F' : Nat → Prop} {w w' : World} {v : Value} {zs : List Int} (h : OutR F w v zs) (hs : Stp F w F' w') : OutR F' w' v zs := by
  by_cases hz : zs = []
  · subst hz
    obtain ⟨ao, cap, hv, h1, h2, h3, _⟩ := h.rd
    exact ⟨⟨ao, cap, hv, h1, h2, h3, fun a ha j hj => by simp at hj⟩, fun h => absurd rfl h⟩
  · have hl : 0 < zs.length := List.length_pos_iff.2 hz
    obtain ⟨ao, cap, hv, h1, h2, h3, h4⟩ := h.rd
    have key : ∀ a, ao = some a → a.block < w.heap.size ∧ ¬ F a.block := fun a ha => by
      have h0 := cell_lt (h4 a ha 0 hl)
      have e : (a.add 0).block = a.block := by unfold Addr.add; split <;> rfl
      exact ⟨by rw [← e]; exact h0, h.far hz a zs.length cap (by rw [hv, ha])⟩
    refine ⟨⟨ao, cap, hv, h1, h2, h3, fun a ha j hj => ?_⟩, fun _ a n cp e => ?_⟩
    · have e : (a.add j).block = a.block := by unfold Addr.add; split <;> rfl
      rw [← h4 a ha j hj]
      exact World.cell?_of_block (w := w) (by rw [e]; exact hs.block _ (key a ha).1 (key a ha).2)
    · rw [hv] at e
      cases e
      exact hs.out (key a rfl).1 (key a rfl).2
/-- A list of a mind's, and what it holds then. -/
theorem LW.pushed {c : Fx} {N : List Nd} {w w1 w2 w3 : World} {F : Nat → Prop} {r : Nat → Int → Option Value} {S S' : MS} (h : LW c N w F r S) (b0 : Nat) (k0 x : Int) (ch : Nat) (hb : (b0 = 0 ∧ ch = c.m3) ∨ (b0 = 1 ∧ ch = c.m4)) (h1 : Below w.heap.size w w1) {v' : Value}
    (ho : w2.ownsRow 0 26 1 v' ((lst S b0 k0).length + 1) (cs .i64 (lst S b0 k0 ++ [x]))) (hg : w1.grownBy w2 (val r b0 k0).ownBlock) (hl : v'.ownBlock = (val r b0 k0).ownBlock ∨ v'.ownBlock = some w1.heap.size)
    (h3 : w2.grownBy w3 (some ch)) (hm : MapG w3 ch (fun j => if j = k0 then some v' else r b0 j))
    (hst : S'.st = S.st) (hsh : S'.sh = S.sh) (hr : ∀ b k, (b ≠ b0 ∨ k ≠ k0) → lst S' b k = lst S b k) (hx : lst S' b0 k0 = lst S b0 k0 ++ [x]) (hin : Inr N.length S') :
    ∃ F', LW c N w3 F' (rset r b0 k0 (some v')) S' ∧ Stp F w F' w3 := by
  have hM := h.mnd
  have hne := hM.ne
  have hch : ch ≠ c.M ∧ ch ≠ c.m1 ∧ ch ≠ c.m2 ∧ (∀ b j, (val r b j).ownBlock ≠ some ch) ∧ ch < w.heap.size ∧ F ch := by
    rcases hb with ⟨_, rfl⟩ | ⟨_, rfl⟩
    · exact ⟨fun e => hM.out (e ▸ hM.f3), hne.2.1.symm, hne.2.2.2.1.symm, fun b j e => (hM.row_ne e).2.2.1 rfl, hM.shut.lt, hM.f3⟩
    · exact ⟨fun e => hM.out (e ▸ hM.f4), hne.2.2.1.symm, hne.2.2.2.2.1.symm, fun b j e => (hM.row_ne e).2.2.2.1 rfl, hM.waits.lt, hM.f4⟩
  have hs1 := h1.size
  have g12 : Below 0 w1 w2 := (Below.refl 0 w1).grown hg (Nat.zero_le _) fun k _ => Nat.zero_le _
  have hs2 := g12.size
  have hv' : v'.ownBlock ≠ some ch := fun e => by
    rcases hl with e2 | e2
    · rw [e2] at e; exact hch.2.2.2.1 b0 k0 e
    · rw [e2] at e
      have e3 := Option.some.inj e
      have := hch.2.2.2.2.1
      omega
  have keep : ∀ k, k < w.heap.size → k ≠ ch → (val r b0 k0).ownBlock ≠ some k → w3.heap[k]? = w.heap[k]? := fun k hk hn hr => by
    rw [h3.block k (by omega) (fun e => hn (Option.some.inj e)), hg.block k (by omega) (fun e => hr e.symm), h1.block k hk]
  have keep3 : ch ≠ c.m3 → w3.heap[c.m3]? = w.heap[c.m3]? := fun e => keep _ hM.shut.lt e.symm (fun e => (hM.row_ne e).2.2.1 rfl)
  have keep4 : ch ≠ c.m4 → w3.heap[c.m4]? = w.heap[c.m4]? := fun e => keep _ hM.waits.lt e.symm (fun e => (hM.row_ne e).2.2.2.1 rfl)
  have m3 : MapG w3 c.m3 (rset r b0 k0 (some v') 0) := by
    rcases hb with ⟨rfl, rfl⟩ | ⟨rfl, rfl⟩
    · exact hm.congr fun k => by simp [rset]
    · exact (hM.shut.keep (keep3 hne.2.2.2.2.2.symm)).congr fun k => by simp [rset]
  have m4 : MapG w3 c.m4 (rset r b0 k0 (some v') 1) := by
    rcases hb with ⟨rfl, rfl⟩ | ⟨rfl, rfl⟩
    · exact (hM.waits.keep (keep4 hne.2.2.2.2.2)).congr fun k => by simp [rset]
    · exact hm.congr fun k => by simp [rset]
  obtain ⟨q1, q2⟩ := hM.push (S' := S') b0 k0 x ch h1 ho hg hl h3 hv' ⟨hch.1, hch.2.1, hch.2.2.1, hch.2.2.2.1⟩ hst hsh m3 m4 hr hx hch.2.2.2.2.2
  have hb2 : b0 ≠ 2 := by rcases hb with ⟨rfl, _⟩ | ⟨rfl, _⟩ <;> decide
  have hN := h.nb_ne
  refine ⟨_, ⟨q1, ?_, q2.out (blk_lt h.box) h.boxF, ?_, .inl h.nbF, h.tab.step q2, hin, h.wf⟩, q2⟩
  · rw [q2.block c.X (blk_lt h.box) h.boxF]; exact h.box
  · rw [val_not r _ (.inl fun e => hb2 e.symm), keep _ (blk_lt h.nb) (by rcases hb with ⟨_, rfl⟩ | ⟨_, rfl⟩; exact hN.2.2.2.1; exact hN.2.2.2.2.1) (hN.2.2.2.2.2 b0 k0)]; exact h.nb
theorem waitP_snoc (S : MS) (x : Int) (l : List Int) (y : Int) : waitP S x (l ++ [y]) = { waitP S x l with waits := up (waitP S x l).waits y ((waitP S x l).waits y ++ [x]) } := by
  unfold waitP; rw [List.foldl_append]; rfl
theorem waitP_st (S : MS) (x : Int) (l : List Int) : (waitP S x l).st = S.st ∧ (waitP S x l).sh = S.sh ∧ (waitP S x l).shut = S.shut ∧ (waitP S x l).news = S.news := by
  induction l generalizing S with
  | nil => exact ⟨rfl, rfl, rfl, rfl⟩
  | cons y r ih => exact ih _
theorem step_append_far {w : World} {ops : Array Oper} {o : Oper} {a : Act} {K : Act → World → Prop} {Q : Exit → Act → World → Prop} {E : Prop} (hgd : o.guard = none) (s x : Operand)
    (ho : o.op = .call { callee := .builtin .append, args := #[s, x], argTypes := #[31, 31] })
    (v : Value) (n : Nat) (xs : List Int) (hs : a.eval s = v) (hown : w.ownsRow 0 26 1 v n (cs .i64 xs))
    (ad : Addr) (c : Nat) (z : Int) (hx : a.eval x = .slice (some ad) 1 c) (hz : w.cell? ad = some (.int .i64 z)) (hn : n ≤ 2199023255552)
    (h : ∀ v' w', w'.ownsRow 0 26 1 v' (n + 1) (cs .i64 (xs ++ [z])) → w.grownBy w' v.ownBlock → (v'.ownBlock = v.ownBlock ∨ v'.ownBlock = some w.heap.size) → K (a.put o.dst v') w') :
    if Region.wanted o (yielded ops a.tmps) = true then Oper.wp Try.prog o a w K Q else E := by
  have hw : Region.wanted o (yielded ops a.tmps) = true := by simp [Region.wanted, hgd]
  rw [if_pos hw]
  obtain ⟨i, hi, hz0, hz1, hz2⟩ := info_parts info32
  obtain ⟨v', w', hr, h2, h3, _, h5⟩ := run_append_own_at (P := Try.prog) w 0 31 o.type 26 i _ 1 8 Try.underlying31 hi hz0 hz1 hz2 rfl (by decide) v n (cs .i64 xs) hown ad 1 c (cs .i64 [z]) rfl
    (fun j u hu => by
      cases j with
      | zero => simp [cs] at hu; subst hu; simpa [Addr.add] using hz
      | succ j => simp [cs] at hu)
    (cs_one .i64 [z]) (by unfold maxLen; omega) (by omega) (Nat.zero_le _)
  unfold Oper.wp execOp
  simp only [ho, resolve, invoke, builtin, Sem.run_bind, Sem.run_pure, Result.andThen_ok, List.map_toArray, List.map_cons, List.map_nil, hs, hx, hr]
  exact h v' w' (by rw [cs_app]; exact h2) h3 h5
theorem MapG.store {w : World} {mb : Nat} {f : Int → Option Value} (h : MapG w mb f) {t E : TypeId} (ht : Try.prog.underlying t = some (.map 26 E)) {k : Int} (h1 : 1 ≤ k) (h2 : k ≤ 65536) (u : Value) :
    ∃ w', (Instr.mapUpdate t (.map (some mb)) (.int .i64 k) u).run Try.prog w = .ok () w' ∧ MapG w' mb (fun j => if j = k then some u else f j) ∧ w.grownBy w' (some mb) := by
  have hs := h.small
  obtain ⟨D, d1, d2⟩ := h.ex
  obtain ⟨w', hrun, hw, hg⟩ := d1.update keyT ht (by unfold maxLen; omega) (keyOfT (wfT h1 h2)) (show hR u = some (.held u, []) from rfl)
  have d3 := d2.put d1.isMap (wfT h1 h2) u
  have s3 : ∀ j v, (if j = k then some u else f j) = some v → 1 ≤ j ∧ j ≤ 65536 := fun j v hj => by
    by_cases e : j = k
    · exact ⟨by omega, by omega⟩
    · rw [if_neg e] at hj; exact hs j v hj
  exact ⟨w', hrun, ⟨⟨_, size_of_small hw (d3.small s3), d3⟩, s3⟩, hg⟩
theorem step_updG {w : World} {ops : Array Oper} {o : Oper} {a : Act} {K : Act → World → Prop} {Q : Exit → Act → World → Prop} {E : Prop} (hgd : o.guard = none) (m x v : Operand) (t El : TypeId) (hop : o.op = Op.mapUpdate t m x v) (ht : Try.prog.underlying t = some (.map 26 El))
    {mb : Nat} {f : Int → Option Value} (hm : MapG w mb f) {k : Int} (h1 : 1 ≤ k) (h2 : k ≤ 65536) (u : Value) (em : a.eval m = .map (some mb)) (ex : a.eval x = .int .i64 k) (ev : a.eval v = u)
    (h : ∀ w', MapG w' mb (fun j => if j = k then some u else f j) → w.grownBy w' (some mb) → K (a.put o.dst undef) w') :
    if Region.wanted o (yielded ops a.tmps) = true then Oper.wp Try.prog o a w K Q else E := by
  have hw : Region.wanted o (yielded ops a.tmps) = true := by simp [Region.wanted, hgd]
  rw [if_pos hw]
  obtain ⟨w', hrun, r1, r2⟩ := hm.store ht h1 h2 u
  unfold Oper.wp
  simp [execOp, hop, em, ex, ev, hrun, Result.andThen]
  exact h w' r1 r2
def Cq (m i : Nat) (mb : Nat) (f : Int → Option Value) (w' : World) : Prop := w'.cell? ⟨m, i, none⟩ = some (.map (some mb)) ∧ MapG w' mb f
theorem Cq.below {m i mb : Nat} {f : Int → Option Value} {w w' : World} (h : Cq m i mb f w) (hb : Below w.heap.size w w') : Cq m i mb f w' := ⟨keepS hb h.1, h.2.keep (hb.block _ h.2.lt)⟩
theorem Cq.grown {m i mb : Nat} {f : Int → Option Value} {w w' : World} {row : Option Nat} (h : Cq m i mb f w) (hb : w.grownBy w' row) (h1 : row ≠ some m) (h2 : row ≠ some mb) : Cq m i mb f w' :=
  ⟨by rw [World.cell?_of_block (w := w) (w' := w') (hb.block m (cell_lt h.1) (fun e => h1 e.symm))]; exact h.1, h.2.keep (hb.block _ h.2.lt (fun e => h2 e.symm))⟩

set_option maxHeartbeats 4000000 in
set_option maxRecDepth 20000 in
theorem ask_any {c : Fx} {N : List Nd} {w : World} {F : Nat → Prop} {r : Nat → Int → Option Value} {S : MS} (h : LW c N w F r S) {x : Int} (hx : 1 ≤ x ∧ x ≤ (N.length : Int)) {s : ByteArray} {pv : Value} (hp : OutR F w pv (partsN N x)) (hroom : Room S 549755813888) :
    Calls Try.prog 54 #[.pointer (some ⟨c.M, 0, none⟩), .int .i64 x, .agg #[.int .i64 (kindN N x), .string s, pv], rv c] w
      fun e w' => e = .returned (.tuple #[]) ∧ After c N w F (askP S x (kindN N x) (partsN N x)) w' := by
  have hw := h.wf1 hx.1 hx.2
  have hlow := h.wf.low x hx.1 hx.2
  have h16 := h.wf.sixteen x
  have h2 := h.wf.two x
  have hp' : ∃ ao cap, pv = .slice ao (partsN N x).length cap := by obtain ⟨ao, cap, e, _⟩ := hp.rd; exact ⟨ao, cap, e⟩
  obtain ⟨ao, cap, rfl⟩ := hp'
  have hAsk : askP S x (kindN N x) (partsN N x) = if lackP S (canP S) x (kindN N x) (partsN N x) = [] then riseP S x 2 else waitP S x (lackP S (canP S) x (kindN N x) (partsN N x)) := rfl
  have hLl := lack_len S (canP S) x (kindN N x) (partsN N x) (fun e => (h2 e).1)
  have hmem : ∀ y ∈ lackP S (canP S) x (kindN N x) (partsN N x), 1 ≤ y ∧ y ≤ (N.length : Int) := by
    intro y hy
    unfold lackP at hy
    split at hy
    · simp at hy; subst hy; exact hx
    · have hpp : ∀ z ∈ partsN N x, 1 ≤ z ∧ z ≤ (N.length : Int) := fun z hz => by have := hlow z hz; exact ⟨this.1, by omega⟩
      split at hy
      · split at hy
        · cases hy
        · exact hpp y hy
      · cases hf : (partsN N x).find? (fun y => !canP S y) with
        | none => rw [hf] at hy; cases hy
        | some z =>
          rw [hf] at hy
          simp only [oneL, List.mem_singleton] at hy
          subst hy
          exact hpp _ (List.mem_of_find?_eq_some hf)
  rw [hAsk]
  have hlk := lacks_m (c := c) (F := F) (r := r) (S := S) (w := w.alloc (.cells #[.int .i64 (kindN N x), .string s, .slice ao (partsN N x).length cap] 47)) (h.mnd.below (below_alloc w _)) (cn := canP S)
    (fun W hW y hy => (can_any ((h.mnd.below (below_alloc w _)).below hW) hy).mono fun e w' ⟨e1, e2⟩ => ⟨e1, e2 ▸ Below.refl _ _⟩) (x := x) (k := kindN N x) (s := s) (pv := .slice ao (partsN N x).length cap) (ps := partsN N x) (hp.rd.below (below_alloc w _))
    (fun hz a n cp e => hp.far hz a n cp e) (fun y hy => by have := hlow y hy; exact wfT this.1 (by have := h.wf.few; omega)) (fun e => (h2 e).1) h16
  generalize lackP S (canP S) x (kindN N x) (partsN N x) = L at *
  have HH := Lib.hid h
  have HX := Lib.hid hx
  have HRM := Lib.hid hroom
  have HM := Lib.hid hmem
  have HL := Lib.hid hLl
  generalize kindN N x = kx at *
  generalize partsN N x = ps at *
  clear h hx hroom hmem hAsk hlow h16 h2 hLl hp
  go_enter Try.func54, Try.ntmps54
  go_wp2_with (go_at_call 40; refine hlk.mono ?_; rintro e w1 ⟨v, rfl, hrd1, ho1, hb1⟩; obtain ⟨va, vc, rfl⟩ : ∃ va vc, v = .slice va L.length vc := by obtain ⟨a, c, e, _⟩ := hrd1; exact ⟨a, c, e⟩)
  have hb0 : Below w.heap.size w w1 := (below_alloc w _).trans (hb1.mono (by simp))
  have HS0 := Lib.hid (Stp.below (F := F) hb0)
  have HO1 := Lib.hid (OutR.of hrd1 ho1)
  have HW1 := Lib.hid (HH.out.below hb0)
  clear hrd1 ho1 hb1 hb0 hlk
  go_loopw [19] (fun i wr => ∃ (j : Nat) (F' : Nat → Prop) (r' : Nat → Int → Option Value), j ≤ L.length ∧ i = .int .i64 j ∧ LW c N wr F' r' (waitP S x (L.take j)) ∧ Stp F w F' wr ∧ OutR F' wr (.slice va L.length vc) L) (fun i _ => L.length - (RowKit.intOf i).toNat)
  case atStart => exact ⟨0, F, r, Nat.zero_le _, rfl, HW1.out, HS0.out, HO1.out⟩
  case round =>
    obtain ⟨j, F', r', hj, rfl, hl, hs, ho⟩ := hrel
    have hl2 := HL.out
    by_cases hlt : j < L.length
    · have hlt' : (j : Int) < (L.length : Int) := by omega
      rcases ho.rd.cases with ⟨h0, _⟩ | ⟨b, off, cp, e, _, _, _, _, hc⟩
      · rw [h0] at hlt; simp at hlt
      · cases e
        have hcj := hc j hlt
        have hy := HM.out _ (getD_mem hlt)
        have HT := Lib.hid (take_succ_getD L j hlt)
        have HLW := Lib.hid hl
        have HST := Lib.hid hs
        have HOR := Lib.hid ho
        have hC : Cq c.M 4 c.m4 (r' 1) wr := ⟨hl.mnd.fields.2.2.2.2, hl.mnd.waits⟩
        have hrow := (hl.mnd.rows 1 (L.getD j 0)).1
        have hlen := (hl.inr.waits (L.getD j 0))
        have hroom := ((HRM.out.wait x (L.take j)).waits (L.getD j 0))
        have hM4 : c.m4 ≠ c.M := fun e => hl.mnd.out (e ▸ hl.mnd.f4)
        have hRN : (val r' 1 (L.getD j 0)).ownBlock ≠ some c.M ∧ (val r' 1 (L.getD j 0)).ownBlock ≠ some c.m4 := ⟨fun e => (hl.mnd.row_ne e).2.2.2.2 rfl, fun e => (hl.mnd.row_ne e).2.2.2.1 rfl⟩
        have hN2 : L.getD j 0 ≤ 65536 := by have := hl.wf.few; omega
        have hwy := wfT hy.1 hN2
        have hgl : (L.take j).length ≤ 2 := by rw [List.length_take]; omega
        clear hl hs ho hc
        generalize L.getD j 0 = y at *
        go_wp2_with fail
        refine wp_region_end 14 (fun w' => Cq c.M 4 c.m4 (r' 1) w') (by kernel_rfl) ?_
        have HC := Lib.hid (hC.below (Below.refl _ _).drew)
        refine wpAnyE_take [0] (i := 0) (oi := { dst := some 23, op := Op.move (Operand.tmp 0), type := 54, pos := "know.go:186", after := #[], guard := none }) (v := ?_) rfl (by kernel_rfl) (by kernel_rfl) (by kernel_rfl) (by kernel_rfl) rfl rfl (by kernel_rfl) (by kernel_rfl) (fun _ _ _ h => h) (Or.inl ⟨by rfl, ?_⟩) (by exact HC.out) ?_
        rotate_left
        · intro w hSw; (try dsimp only at hSw); obtain ⟨q0, q1⟩ := hSw; have ql := q1.look Try.underlying78 zeroSl hwy; go_simp; try (with_reducible rfl)
        repeat (first | simp only [Act.put] | simp only [List.setIfInBounds_toArray] | simp only [List.set_cons_zero] | simp only [List.set_cons_succ])
        refine wpAnyE_take [1] (i := 1) (oi := { dst := some 24, op := Op.nilCheck (Operand.tmp 23), type := 0, pos := "know.go:186", after := #[{ on := 0, ground := Ground.data }], guard := none }) (v := ?_) rfl (by kernel_rfl) (by kernel_rfl) (by kernel_rfl) (by kernel_rfl) rfl rfl (by kernel_rfl) (by kernel_rfl) (fun _ _ _ h => h) (Or.inl ⟨by rfl, ?_⟩) (by exact HC.out) ?_
        rotate_left
        · intro w hSw; (try dsimp only at hSw); obtain ⟨q0, q1⟩ := hSw; have ql := q1.look Try.underlying78 zeroSl hwy; go_simp; try (with_reducible rfl)
        repeat (first | simp only [Act.put] | simp only [List.setIfInBounds_toArray] | simp only [List.set_cons_zero] | simp only [List.set_cons_succ])
        refine wpAnyE_take [2] (i := 2) (oi := { dst := some 25, op := Op.fieldAddr 80 (Operand.tmp 24) 4, type := 0, pos := "know.go:186", after := #[{ on := 1, ground := Ground.data }], guard := none }) (v := ?_) rfl (by kernel_rfl) (by kernel_rfl) (by kernel_rfl) (by kernel_rfl) rfl rfl (by kernel_rfl) (by kernel_rfl) (fun _ _ _ h => h) (Or.inl ⟨by rfl, ?_⟩) (by exact HC.out) ?_
        rotate_left
        · intro w hSw; (try dsimp only at hSw); obtain ⟨q0, q1⟩ := hSw; have ql := q1.look Try.underlying78 zeroSl hwy; go_simp; try (with_reducible rfl)
        repeat (first | simp only [Act.put] | simp only [List.setIfInBounds_toArray] | simp only [List.set_cons_zero] | simp only [List.set_cons_succ])
        refine wpAnyE_take [3] (i := 3) (oi := { dst := some 26, op := Op.load 78 (Operand.tmp 25), type := 78, pos := "know.go:186", after := #[{ on := 2, ground := Ground.data }], guard := none }) (v := ?_) rfl (by kernel_rfl) (by kernel_rfl) (by kernel_rfl) (by kernel_rfl) rfl rfl (by kernel_rfl) (by kernel_rfl) (fun _ _ _ h => h) (Or.inl ⟨by rfl, ?_⟩) (by exact HC.out) ?_
        rotate_left
        · intro w hSw; (try dsimp only at hSw); obtain ⟨q0, q1⟩ := hSw; have ql := q1.look Try.underlying78 zeroSl hwy; go_simp; try (with_reducible rfl)
        repeat (first | simp only [Act.put] | simp only [List.setIfInBounds_toArray] | simp only [List.set_cons_zero] | simp only [List.set_cons_succ])
        refine wpAnyE_take [4] (i := 4) (oi := { dst := some 27, op := Op.move (Operand.tmp 10), type := 26, pos := "know.go:186", after := #[], guard := none }) (v := ?_) rfl (by kernel_rfl) (by kernel_rfl) (by kernel_rfl) (by kernel_rfl) rfl rfl (by kernel_rfl) (by kernel_rfl) (fun _ _ _ h => h) (Or.inl ⟨by rfl, ?_⟩) (by exact HC.out) ?_
        rotate_left
        · intro w hSw; (try dsimp only at hSw); obtain ⟨q0, q1⟩ := hSw; have ql := q1.look Try.underlying78 zeroSl hwy; go_simp; try (with_reducible rfl)
        repeat (first | simp only [Act.put] | simp only [List.setIfInBounds_toArray] | simp only [List.set_cons_zero] | simp only [List.set_cons_succ])
        refine wpAnyE_take [5] (i := 5) (oi := { dst := some 28, op := Op.move (Operand.tmp 0), type := 54, pos := "know.go:186", after := #[], guard := none }) (v := ?_) rfl (by kernel_rfl) (by kernel_rfl) (by kernel_rfl) (by kernel_rfl) rfl rfl (by kernel_rfl) (by kernel_rfl) (fun _ _ _ h => h) (Or.inl ⟨by rfl, ?_⟩) (by exact HC.out) ?_
        rotate_left
        · intro w hSw; (try dsimp only at hSw); obtain ⟨q0, q1⟩ := hSw; have ql := q1.look Try.underlying78 zeroSl hwy; go_simp; try (with_reducible rfl)
        repeat (first | simp only [Act.put] | simp only [List.setIfInBounds_toArray] | simp only [List.set_cons_zero] | simp only [List.set_cons_succ])
        refine wpAnyE_take [6] (i := 6) (oi := { dst := some 29, op := Op.nilCheck (Operand.tmp 28), type := 0, pos := "know.go:186", after := #[{ on := 5, ground := Ground.data }], guard := none }) (v := ?_) rfl (by kernel_rfl) (by kernel_rfl) (by kernel_rfl) (by kernel_rfl) rfl rfl (by kernel_rfl) (by kernel_rfl) (fun _ _ _ h => h) (Or.inl ⟨by rfl, ?_⟩) (by exact HC.out) ?_
        rotate_left
        · intro w hSw; (try dsimp only at hSw); obtain ⟨q0, q1⟩ := hSw; have ql := q1.look Try.underlying78 zeroSl hwy; go_simp; try (with_reducible rfl)
        repeat (first | simp only [Act.put] | simp only [List.setIfInBounds_toArray] | simp only [List.set_cons_zero] | simp only [List.set_cons_succ])
        refine wpAnyE_take [7] (i := 7) (oi := { dst := some 30, op := Op.fieldAddr 80 (Operand.tmp 29) 4, type := 0, pos := "know.go:186", after := #[{ on := 6, ground := Ground.data }], guard := none }) (v := ?_) rfl (by kernel_rfl) (by kernel_rfl) (by kernel_rfl) (by kernel_rfl) rfl rfl (by kernel_rfl) (by kernel_rfl) (fun _ _ _ h => h) (Or.inl ⟨by rfl, ?_⟩) (by exact HC.out) ?_
        rotate_left
        · intro w hSw; (try dsimp only at hSw); obtain ⟨q0, q1⟩ := hSw; have ql := q1.look Try.underlying78 zeroSl hwy; go_simp; try (with_reducible rfl)
        repeat (first | simp only [Act.put] | simp only [List.setIfInBounds_toArray] | simp only [List.set_cons_zero] | simp only [List.set_cons_succ])
        refine wpAnyE_take [8] (i := 8) (oi := { dst := some 31, op := Op.load 78 (Operand.tmp 30), type := 78, pos := "know.go:186", after := #[{ on := 7, ground := Ground.data }], guard := none }) (v := ?_) rfl (by kernel_rfl) (by kernel_rfl) (by kernel_rfl) (by kernel_rfl) rfl rfl (by kernel_rfl) (by kernel_rfl) (fun _ _ _ h => h) (Or.inl ⟨by rfl, ?_⟩) (by exact HC.out) ?_
        rotate_left
        · intro w hSw; (try dsimp only at hSw); obtain ⟨q0, q1⟩ := hSw; have ql := q1.look Try.underlying78 zeroSl hwy; go_simp; try (with_reducible rfl)
        repeat (first | simp only [Act.put] | simp only [List.setIfInBounds_toArray] | simp only [List.set_cons_zero] | simp only [List.set_cons_succ])
        refine wpAnyE_take [9] (i := 9) (oi := { dst := some 32, op := Op.move (Operand.tmp 10), type := 26, pos := "know.go:186", after := #[], guard := none }) (v := ?_) rfl (by kernel_rfl) (by kernel_rfl) (by kernel_rfl) (by kernel_rfl) rfl rfl (by kernel_rfl) (by kernel_rfl) (fun _ _ _ h => h) (Or.inl ⟨by rfl, ?_⟩) (by exact HC.out) ?_
        rotate_left
        · intro w hSw; (try dsimp only at hSw); obtain ⟨q0, q1⟩ := hSw; have ql := q1.look Try.underlying78 zeroSl hwy; go_simp; try (with_reducible rfl)
        repeat (first | simp only [Act.put] | simp only [List.setIfInBounds_toArray] | simp only [List.set_cons_zero] | simp only [List.set_cons_succ])
        refine wpAnyE_take [10] (i := 10) (oi := { dst := some 33, op := Op.lookup 78 (Operand.tmp 31) (Operand.tmp 32) false, type := 31, pos := "know.go:186", after := #[{ on := 8, ground := Ground.data }, { on := 9, ground := Ground.data }], guard := none }) (v := ?_) rfl (by kernel_rfl) (by kernel_rfl) (by kernel_rfl) (by kernel_rfl) rfl rfl (by kernel_rfl) (by kernel_rfl) (fun _ _ _ h => h) (Or.inl ⟨by rfl, ?_⟩) (by exact HC.out) ?_
        rotate_left
        · intro w hSw; (try dsimp only at hSw); obtain ⟨q0, q1⟩ := hSw; have ql := q1.look Try.underlying78 zeroSl hwy; go_simp; try (with_reducible rfl)
        repeat (first | simp only [Act.put] | simp only [List.setIfInBounds_toArray] | simp only [List.set_cons_zero] | simp only [List.set_cons_succ])
        refine wpAnyE_take [11] (i := 11) (oi := { dst := some 34, op := Op.move (Operand.tmp 1), type := 26, pos := "know.go:186", after := #[], guard := none }) (v := ?_) rfl (by kernel_rfl) (by kernel_rfl) (by kernel_rfl) (by kernel_rfl) rfl rfl (by kernel_rfl) (by kernel_rfl) (fun _ _ _ h => h) (Or.inl ⟨by rfl, ?_⟩) (by exact HC.out) ?_
        rotate_left
        · intro w hSw; (try dsimp only at hSw); obtain ⟨q0, q1⟩ := hSw; have ql := q1.look Try.underlying78 zeroSl hwy; go_simp; try (with_reducible rfl)
        repeat (first | simp only [Act.put] | simp only [List.setIfInBounds_toArray] | simp only [List.set_cons_zero] | simp only [List.set_cons_succ])
        refine wpAnyE_one (i := 12) (o := { dst := some 35, op := Op.buildSlice 31 1 #[(0, Operand.tmp 34)], type := 31, pos := "know.go:186", after := #[{ on := 11, ground := Ground.data }], guard := none }) (by kernel_rfl) rfl (fun K hK => ?_)
        go_simp
        refine hK.out _ _ (fun hL => ?_) ?_
        · exact HC.out.below (below_alloc _ _)
        clear hK K
        repeat (first | simp only [Act.put] | simp only [List.setIfInBounds_toArray] | simp only [List.set_cons_zero] | simp only [List.set_cons_succ])
        refine wpAnyE_one (i := 13) (o := { dst := some 36, op := Op.call { callee := Callee.builtin Builtin.append, args := #[Operand.tmp 33, Operand.tmp 35], argTypes := #[31, 31] }, type := 31, pos := "know.go:186", after := #[{ on := 10, ground := Ground.data }, { on := 12, ground := Ground.data }], guard := none }) (by kernel_rfl) rfl (fun K hK => ?_)
        refine step_append_far (by rfl) _ _ (by rfl) (val r' 1 y) _ (lst (waitP S x (L.take j)) 1 y) (by rfl) (own_alloc (own_below hrow (Below.refl _ _).drew) _) ⟨wr.heap.size, 0, none⟩ 1 x (by rfl) (by simp) (by simp [lst] at hroom ⊢; omega) ?_
        intro v2 w2 ho2 hg2 hl2
        refine hK.out _ _ (fun hL => ?_) ?_
        · exact (HC.out.below (below_alloc _ _)).grown hg2 hRN.1 hRN.2
        clear hK K
        repeat (first | simp only [Act.put] | simp only [List.setIfInBounds_toArray] | simp only [List.set_cons_zero] | simp only [List.set_cons_succ])
        refine wpAnyE_one (i := 14) (o := { dst := none, op := Op.mapUpdate 78 (Operand.tmp 26) (Operand.tmp 27) (Operand.tmp 36), type := 0, pos := "know.go:186", after := #[{ on := 3, ground := Ground.data }, { on := 4, ground := Ground.data }, { on := 13, ground := Ground.data }, { on := 13, ground := Ground.chain }, { on := 0, ground := Ground.phase }, { on := 1, ground := Ground.phase }, { on := 2, ground := Ground.phase }, { on := 3, ground := Ground.phase }, { on := 4, ground := Ground.phase }, { on := 5, ground := Ground.phase }, { on := 6, ground := Ground.phase }, { on := 7, ground := Ground.phase }, { on := 8, ground := Ground.phase }, { on := 9, ground := Ground.phase }, { on := 10, ground := Ground.phase }, { on := 11, ground := Ground.phase }, { on := 12, ground := Ground.phase }, { on := 13, ground := Ground.phase }], guard := none }) (by kernel_rfl) rfl (fun K hK => ?_)
        refine step_updG (by rfl) _ _ _ 78 31 (by rfl) Try.underlying78 (((HC.out.below (below_alloc _ _)).grown hg2 hRN.1 hRN.2).2) hy.1 hN2 v2 (by rfl) (by rfl) (by rfl) ?_
        intro w3 hm3 hg3
        have HB1 := Lib.hid (((Below.refl wr.heap.size wr).drew).trans ((below_alloc wr.drew (.cells #[.int .i64 x] 26)).mono (Nat.le_refl _)))
        have HO2 := Lib.hid ho2
        have HG2 := Lib.hid hg2
        have HL2 := Lib.hid hl2
        have HG3 := Lib.hid hg3
        have HMP := Lib.hid hm3
        clear ho2 hg2 hl2 hg3 hm3 hC hrow
        refine hK.out _ _ (fun hL => absurd hL (by decide)) ?_
        clear hK K
        repeat (first | simp only [Act.put] | simp only [List.setIfInBounds_toArray] | simp only [List.set_cons_zero] | simp only [List.set_cons_succ])
        refine wpAnyE_done (by kernel_rfl) ?_ _
        simp only [Exit.inBlock, Exit.then]
        refine ‹∀ (a : Act) (w : World), Code.wp Try.prog _ _ a w → _› _ _ ?_
        have hpush := HLW.out.pushed (S' := waitP S x (L.take (j + 1))) 1 y x c.m4 (.inr ⟨rfl, rfl⟩) HB1.out HO2.out HG2.out HL2.out HG3.out HMP.out
          (by rw [HT.out, waitP_snoc]) (by rw [HT.out, waitP_snoc]) (fun b k e => ?_) (by rw [HT.out, waitP_snoc]; simp [lst, up_same]) (HH.out.inr.wait HX.out _)
        · obtain ⟨F2, p1, p2⟩ := hpush
          go_wp2_with fail
          go_roundw
          case rel => exact ⟨j + 1, F2, _, by omega, by go_num, p1, HST.out.trans p2, HOR.out.step p2⟩
          case measure => simp [RowKit.intOf]; omega
        · rw [HT.out, waitP_snoc]
          unfold lst
          by_cases e1 : b = 1
          · subst e1
            have hk : k ≠ y := by rcases e with e | e; exact absurd rfl e; exact e
            simp [up_other _ _ hk]
          · simp [e1]
    · obtain rfl : j = L.length := by omega
      rw [List.take_length] at hl
      by_cases hL : L = []
      · subst hL
        have hl' : LW c N wr F' r' S := hl
        have hri := rise_any hl' HX.out (to := 2) (by decide) (HRM.out.mono (by decide))
        have HST := Lib.hid hs
        clear hl hs ho hl' hlt
        unfold rv at *
        go_wp2_with (go_at_call 42; refine hri.mono ?_; rintro e w3 ⟨rfl, ha⟩)
        go_end0
        exact ⟨rfl, ha.after.pre HST.out⟩
      · have hne : ¬ ((L.length : Int) = 0) := fun e => hL (List.eq_nil_of_length_eq_zero (by omega))
        have HN := Lib.hid hL
        have HLW := Lib.hid hl
        have HST := Lib.hid hs
        clear hl hs ho hL
        go_wp2_with fail
        go_end0
        exact ⟨rfl, F', r', HLW.out, HST.out⟩

end Go.Proofs.Ytmplcibaoanlnaa
