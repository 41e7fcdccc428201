/- stream.join: a new piece and those that touch it become one. -/
import Derived.Test.YtfgjlfcadpmkhaaSNear
import Derived.Laws.CopyOwn
import Derived.StillTailTactics
namespace Go.Proofs.Ytfgjlfcadpmkhaa
open Go Go.RowKit
variable {gs : List Nat}

theorem eqlSome (bm : Nat) (w : World) : (binOp .eql 24 (.map (some bm)) (.map none)).run Try.prog w = .ok (.bool false) w := by kernel_rfl
theorem eqlNil (w : World) : (binOp .eql 24 (.map none) (.map none)).run Try.prog w = .ok (.bool true) w := by kernel_rfl
/-- A piece's bytes. -/
def pc (E : Int → Option (List Int)) (s : Int) : List Int := (E s).getD []
/-- From where to where the pieces of L and the new one reach. -/
def ends (E : Int → Option (List Int)) (at' : Int) (n : Nat) (L : List Int) : Int × Int := L.foldl (fun p s => (min p.1 s, max p.2 (s + (pc E s).length))) (at', at' + n)
/-- The new piece and those of L as one. -/
def wholeB (E : Int → Option (List Int)) (at' : Int) (zs : List Int) (F : Int) (n : Nat) (L : List Int) : List Int := L.foldl (fun b s => splice b (s - F).toNat (pc E s)) (splice (List.replicate n 0) (at' - F).toNat zs)
/-- The pieces behind a join. -/
def joinE (E : Int → Option (List Int)) (at' : Int) (zs : List Int) (L : List Int) : Int → Option (List Int) := fun k =>
  if k = (ends E at' zs.length L).1 then some (wholeB E at' zs (ends E at' zs.length L).1 ((ends E at' zs.length L).2 - (ends E at' zs.length L).1).toNat L)
  else if k ∈ L then none else E k
theorem ends_snoc (E : Int → Option (List Int)) (at' : Int) (n : Nat) (L : List Int) (s : Int) : ends E at' n (L ++ [s]) = (min (ends E at' n L).1 s, max (ends E at' n L).2 (s + (pc E s).length)) := by simp [ends]
theorem ends_le (E : Int → Option (List Int)) (at' : Int) (n : Nat) (L : List Int) : (ends E at' n L).1 ≤ at' ∧ at' + n ≤ (ends E at' n L).2 ∧ ∀ s ∈ L, (ends E at' n L).1 ≤ s ∧ s + (pc E s).length ≤ (ends E at' n L).2 := by
  have key : ∀ (R : List Int), (ends E at' n R.reverse).1 ≤ at' ∧ at' + n ≤ (ends E at' n R.reverse).2 ∧ ∀ s ∈ R, (ends E at' n R.reverse).1 ≤ s ∧ s + (pc E s).length ≤ (ends E at' n R.reverse).2 := by
    intro R
    induction R with
    | nil => exact ⟨Int.le_refl _, Int.le_refl _, fun s h => by cases h⟩
    | cons x R ih =>
      rw [List.reverse_cons, ends_snoc]
      obtain ⟨h1, h2, h3⟩ := ih
      refine ⟨by simp only; omega, by simp only; omega, fun s hs => ?_⟩
      rcases List.mem_cons.1 hs with rfl | hs
      · simp only; omega
      · have := h3 s hs
        simp only; omega
  have := key L.reverse
  rw [List.reverse_reverse] at this
  exact ⟨this.1, this.2.1, fun s hs => this.2.2 s (List.mem_reverse.2 hs)⟩
theorem ends_in {E : Int → Option (List Int)} {at' : Int} {n : Nat} {t : Int} (L : List Int) (h0 : t ≤ at' ∧ at' + n ≤ t + 4096) (hE : ∀ s ∈ L, t ≤ s ∧ s + (pc E s).length ≤ t + 4096) : t ≤ (ends E at' n L).1 ∧ (ends E at' n L).2 ≤ t + 4096 := by
  have key : ∀ (R : List Int), (∀ s ∈ R, t ≤ s ∧ s + (pc E s).length ≤ t + 4096) → t ≤ (ends E at' n R.reverse).1 ∧ (ends E at' n R.reverse).2 ≤ t + 4096 := by
    intro R
    induction R with
    | nil => exact fun _ => h0
    | cons x R ih =>
      intro hR
      rw [List.reverse_cons, ends_snoc]
      have h1 := ih fun s hs => hR s (List.mem_cons_of_mem _ hs)
      have h2 := hR x List.mem_cons_self
      exact ⟨by simp only; omega, by simp only; omega⟩
  have := key L.reverse (fun s hs => hE s (List.mem_reverse.1 hs))
  rwa [List.reverse_reverse] at this
theorem splice_len {b cs : List Int} {off : Nat} (h : off + cs.length ≤ b.length) : (splice b off cs).length = b.length := by simp [splice]; omega
theorem splice_by8 (b cs : List Int) (off : Nat) : splice (by8 b) off (by8 cs) = by8 (splice b off cs) := by simp [splice, by8, List.map_take, List.map_drop]
theorem byt_splice {b cs : List Int} {off : Nat} (hb : Byt b) (hc : Byt cs) : Byt (splice b off cs) := by
  unfold splice
  exact (hb.take off).app (hc.app (hb.drop _))
theorem by8_zeros (n : Nat) : (madeCells (Value.int .u8 0).cells (n * 1)).toList = by8 (List.replicate n 0) := by
  rw [Nat.mul_one]
  exact (toList_madeCells_one _ n).trans (by simp [by8])
/-- A row of bytes does not lie in a map's block. -/
theorem Rd.offMap {w : World} {v : Value} {zs : List Int} {mb n : Nat} {f : Int → Option Value} (h : Rd w v zs) (hm : MapS w mb n f) : Fa mb v zs := by
  obtain ⟨D, ⟨es, clock, hb, _⟩, _⟩ := hm
  obtain ⟨ao, cap, hv, _, _, _, _, hc⟩ := h
  intro a n c e hz hbk
  rw [e] at hv
  cases hv
  have h0 := hc a rfl 0 (List.length_pos_iff.2 hz)
  have e2 : (a.add 0).block = a.block := by unfold Addr.add; split <;> rfl
  unfold World.cell? at h0
  rw [e2, hbk, hb] at h0
  simp at h0

theorem own_block8 {w : World} {base g n : Nat} {xs : List Int} (h : w.ownsRow base 5 1 (.slice (some ⟨g, 0, none⟩) n n) n (by8 xs)) : w.heap[g]? = some (.cells (by8 xs).toArray 5 (0, 0)) := (own_block h).1
/-- A row of the call's own from a place on. -/
theorem slice_low {n cap : Nat} (g l : Nat) (hl : l ≤ n) : ∃ d, (∀ wx, (Instr.slice 29 (.slice (some ⟨g, 0, none⟩) n cap) (some (.int .i64 l)) none none).run Try.prog wx = .ok (.slice d (n - l) (cap - l)) wx) ∧ (l < cap → d = some ⟨g, l, none⟩) := by
  refine ⟨if cap = l then some ⟨g, 0, none⟩ else some ⟨g, l, none⟩, fun wx => ?_, fun h => by rw [if_neg (by omega)]⟩
  rw [run_slice_l _ _ _ _ _ elem_bytes .i64 l (by omega) (by omega), size_elem]
  simp only [Result.andThen, Int.toNat_natCast, sliced]
  by_cases hc : cap = l
  · rw [if_pos hc, if_pos hc]
  · rw [if_neg hc, if_neg hc]
    simp [Addr.add_lit]
/-- copy of bytes into a row of the call's own, at a place. -/
theorem wpList_copy_at {w : World} {ops : Array Oper} {rest : List Oper} {o : Oper} {a : Act} {Q : Exit → Act → World → Prop} (d s : Operand) (hgd : o.guard = none) (ho : o.op = .call { callee := .builtin .copy, args := #[d, s], argTypes := #[29, 29] })
    (g off n : Nat) (buf : List Int) (dp : Option Addr) (hd : a.eval d = .slice dp (n - off) (n - off)) (hdp : off < n → dp = some ⟨g, off, none⟩) (hg : w.heap[g]? = some (.cells (by8 buf).toArray 5 (0, 0))) (hbuf : buf.length = n)
    (xv : Value) (ys : List Int) (hx : a.eval s = xv) (hr : Rd w xv ys) (hfit : off + ys.length ≤ n)
    (h : ∀ w', Hid (w'.heap[g]? = some (.cells (by8 (splice buf off ys)).toArray 5 (0, 0))) → Below g w w' → wpList Try.prog ops Q rest (a.put o.dst (.int .i64 ys.length)) w') : wpList Try.prog ops Q (o :: rest) a w := by
  obtain ⟨i, hi, _, hz1, _⟩ := info_parts info5
  obtain ⟨ao, cap, rfl, h1, h2, h3, _, hc⟩ := hr
  refine wpList_copy_splice hgd d s 29 29 ho 5 Try.underlying29 (by simp [hi, hz1]) dp ao (n - off) (n - off) ys.length cap hd hx g off (by8 buf) 5 hg (by8 ys) (by rw [by8_len]; exact (Nat.min_eq_left (by omega)).symm) ?_ (by rw [by8_len, by8_len]; omega) (by8_one ys) g w (Below.refl _ _) (Nat.le_refl _) ?_
  · intro hp
    rw [by8_len] at hp
    refine ⟨hdp (by omega), ?_⟩
    cases ao with
    | none => have := h3 rfl; omega
    | some ad =>
      refine ⟨ad, rfl, fun j u hu => ?_⟩
      have hj : j < ys.length := by
        have := (List.getElem?_eq_some_iff.1 hu).1
        simpa [by8_len] using this
      rw [by8_get ys j hj] at hu
      cases hu
      exact hc ad rfl j hj
  · intro w' hw' hb
    have h' := hw'.out
    rw [splice_by8] at h'
    have := h w' (Lib.hid h') hb
    simpa [by8_len, goInt] using this

/-- What the pieces of L leave of a row. -/
def bufK (E : Int → Option (List Int)) (F : Int) (b : List Int) (L : List Int) : List Int := L.foldl (fun b s => splice b (s - F).toNat (pc E s)) b
theorem bufK_snoc (E : Int → Option (List Int)) (F : Int) (b L : List Int) (s : Int) : bufK E F b (L ++ [s]) = splice (bufK E F b L) (s - F).toNat (pc E s) := by simp [bufK]
theorem bufK_len {E : Int → Option (List Int)} {F : Int} {m : Nat} (L : List Int) : ∀ b : List Int, b.length = m → (∀ s ∈ L, (s - F).toNat + (pc E s).length ≤ m) → (bufK E F b L).length = m := by
  induction L with
  | nil => exact fun b h _ => h
  | cons x L ih =>
    intro b hb h
    exact ih _ ((splice_len (by rw [hb]; exact h x List.mem_cons_self)).trans hb) fun s hs => h s (List.mem_cons_of_mem _ hs)
theorem byt_bufK {E : Int → Option (List Int)} {F : Int} (hE : ∀ s, Byt (pc E s)) (L : List Int) : ∀ b : List Int, Byt b → Byt (bufK E F b L) := by
  induction L with
  | nil => exact fun b h => h
  | cons x L ih => exact fun b h => ih _ (byt_splice h (hE x))
theorem Vals.byt {w : World} {f : Int → Option Value} {E : Int → Option (List Int)} (h : Vals gs w f E) (s : Int) : Byt (pc E s) := by
  unfold pc
  cases hE : E s with
  | none => exact Byt.nil
  | some l =>
    obtain ⟨v, _, hr, _⟩ := h.back hE
    exact hr.byt
/-- A block of bytes reads. -/
theorem rd_block {w : World} {G n : Nat} {zs : List Int} (h : w.heap[G]? = some (.cells (by8 zs).toArray 5 (0, 0))) (hz : Byt zs) (hn : zs.length = n) (hl : n ≤ maxLen) : Rd w (.slice (some ⟨G, 0, none⟩) n n) zs ∧ Plain (.slice (some ⟨G, 0, none⟩) n n) := by
  subst hn
  refine ⟨⟨_, _, rfl, Nat.le_refl _, hl, (fun h => by cases h), hz, fun a ha j hj => ?_⟩, .inr ⟨_, _, _, _, rfl⟩⟩
  cases ha
  rw [Addr.add_lit, Nat.zero_add, cell_of_row w G j _ 5 (0, 0) h]
  have := by8_get zs j hj
  simpa using this
theorem byt_zeros (n : Nat) : Byt (List.replicate n 0) := fun z hz => by rw [List.eq_of_mem_replicate hz]; decide
/-- Cells are no map. -/
theorem MapS.not_cells {w : World} {mb n b : Nat} {f : Int → Option Value} {cs : Array Value} {ty : TypeId} {x : Nat × Nat} (hm : MapS w mb n f) (h : w.heap[b]? = some (.cells cs ty x)) : b ≠ mb := fun e => by
  obtain ⟨D, ⟨es, clock, hb, _⟩, _⟩ := hm
  rw [e, hb] at h
  cases h
theorem MapS.not_cell {w : World} {mb n : Nat} {f : Int → Option Value} {a : Addr} {v : Value} (hm : MapS w mb n f) (h : w.cell? a = some v) : a.block ≠ mb := fun e => by
  obtain ⟨D, ⟨es, clock, hb, _⟩, _⟩ := hm
  unfold World.cell? at h
  rw [e, hb] at h
  simp at h
theorem Chg.step {S : List Nat} {w wd w3 : World} {n : Nat} (h : Chg S w wd) (hb : Below n wd w3) (hn : w.heap.size ≤ n) : Chg S w w3 :=
  ⟨hb.os.trans h.os, hb.tape.trans h.tape, hb.output.trans h.output, Nat.le_trans h.size hb.size, fun k hk hS => (hb.block k (Nat.lt_of_lt_of_le hk hn)).trans (h.block k hk hS)⟩
theorem Chg.cell {S : List Nat} {w w' : World} (h : Chg S w w') {a : Addr} {v : Value} (hc : w.cell? a = some v) (hn : a.block ∉ S) : w'.cell? a = some v := by
  rw [← hc]
  unfold World.cell?
  rw [h.block a.block (cell_lt hc) hn]
/-- The pieces behind a join. -/
theorem vals_join {w w' : World} {mb N G m p : Nat} {f : Int → Option Value} {E : Int → Option (List Int)} {at' F T : Int} {zs L : List Int} (hV : Vals gs w f E) (hGs : ∀ g ∈ gs, g ≠ G) (hM : MapS w mb N f) (hFT : (F, T) = ends E at' zs.length L) (hm : T - F = (m : Int)) (hp : at' - F = (p : Int)) (hC : Chg [mb] w w')
    (hg : w'.heap[G]? = some (.cells (by8 (bufK E F (splice (List.replicate m 0) p zs) L)).toArray 5 (0, 0))) (hb : Byt zs) (hl : (bufK E F (splice (List.replicate m 0) p zs) L).length = m) (hm' : m ≤ 100000) :
    Vals gs w' (fun j => if j = F then some (.slice (some ⟨G, 0, none⟩) m m) else if j ∈ L then none else f j) (joinE E at' zs L) := by
  have hr := rd_block hg (byt_bufK hV.byt L _ (byt_splice (byt_zeros m) hb)) hl (by unfold maxLen; omega)
  have e : joinE E at' zs L = fun k => if k = F then some (bufK E F (splice (List.replicate m 0) p zs) L) else if k ∈ L then none else E k := by
    unfold joinE
    rw [← hFT]
    simp only [hm, Int.toNat_natCast]
    simp only [wholeB, bufK, hp, Int.toNat_natCast]
  rw [e]
  refine ⟨fun k => ?_, fun k v l h1 h2 => ?_, fun k v l h1 h2 g hg => ?_⟩
  · by_cases h1 : k = F
    · simp [h1]
    · by_cases h2 : k ∈ L
      · simp [h1, h2]
      · simp only [h1, h2, if_false]; exact hV.none k
  · by_cases h3 : k = F
    · rw [if_pos h3] at h1 h2
      cases h1
      cases h2
      exact hr
    · rw [if_neg h3] at h1 h2
      by_cases h4 : k ∈ L
      · rw [if_pos h4] at h1
        cases h1
      · rw [if_neg h4] at h1 h2
        have := hV.rd k v l h1 h2
        exact ⟨this.1.chg hC (fun g hg => by rw [List.mem_singleton.1 hg]; exact this.1.offMap hM), this.2⟩
  · by_cases h3 : k = F
    · rw [if_pos h3] at h1
      cases h1
      intro a n cap ea _
      cases ea
      exact fun e => hGs g hg e.symm
    · rw [if_neg h3] at h1 h2
      by_cases h4 : k ∈ L
      · rw [if_pos h4] at h1
        cases h1
      · rw [if_neg h4] at h1 h2
        exact hV.off k v l h1 h2 g hg

set_option maxRecDepth 20000 in
set_option maxHeartbeats 4000000 in
theorem join_some {w : World} {B mb t N base : Nat} {E : Int → Option (List Int)} {v lv : Value} {zs L : List Int} {f : Int → Option Value} (at' : Int) (hN : N ≤ 1000000) (hbox : w.heap[B]? = some (.cells #[.int .i64 (t : Int), .map (some mb)] 26 (0, 0))) (hm : MapS w mb N f) (hgl : ∀ g ∈ gs, g < w.heap.size) (hV : Vals gs w f E) (hP : Pcs t E) (htb : t ≤ 2000000000)
    (hr : Rd w v zs) (hp : Plain v) (hL : w.ownsRow base 3 1 lv L.length (L.map (Value.int .i64))) (hnd : L.Nodup) (hlen : L.length ≤ 1000000) (hon : ∀ s ∈ L, ∃ l, E s = some l) (hat : (t : Int) ≤ at' ∧ at' + zs.length ≤ t + 4096) :
    Calls Try.prog 14 #[.pointer (some ⟨B, 0, none⟩), .int .i64 at', v, lv] w fun e w' => e = .returned (.tuple #[]) ∧ Chg [mb] w w' ∧ ∃ f', MapS w' mb (N + 1) f' ∧ Vals gs w' f' (joinE E at' zs L) := by
  have hpc : ∀ s ∈ L, (t : Int) ≤ s ∧ s + (pc E s).length ≤ t + 4096 := fun s hs => by
    obtain ⟨l, hl⟩ := hon s hs
    have := hP.lo s l hl
    simp only [pc, hl, Option.getD_some]
    omega
  have HPC := Lib.hid hpc
  have HV := Lib.hid hV
  have HGL := Lib.hid hgl
  have HM := Lib.hid hm
  have HON := Lib.hid hon
  have HR := Lib.hid hr
  have HP := Lib.hid hp
  have HND := Lib.hid hnd
  have HNN := Lib.hid hN
  have HBX := Lib.hid hbox
  have HLR := Lib.hid hL
  obtain ⟨ao, cap, rfl⟩ := hr.shape
  obtain ⟨la, lc, hlv⟩ : ∃ la lc, lv = .slice la L.length lc := by
    rcases hL.2 with ⟨h1, h2⟩ | ⟨g, cap, cur, h1, _⟩
    · exact ⟨none, 0, by rw [h1, h2]⟩
    · exact ⟨_, _, h1⟩
  subst hlv
  have w0 : IntKind.i64.wrap (at' + (zs.length : Int)) = at' + (zs.length : Int) := IntWalk.i64_in _ ⟨by omega, by omega⟩
  clear hpc hV hgl hm hon hr hp hnd hN hbox hL hP
  go_enter Try.func14, Try.ntmps14
  go_wp2_with fail
  go_loopw [8, 9, 22] (fun fv tv iv wr => ∃ (k : Nat) (F T : Int), fv = .int .i64 F ∧ tv = .int .i64 T ∧ iv = .int .i64 k ∧ k ≤ L.length ∧ Hid ((F, T) = ends E at' zs.length (L.take k)) ∧ Hid (Below w.heap.size w wr)) (fun _ _ iv _ => L.length - (intOf iv).toNat)
  case atStart => exact ⟨0, at', at' + zs.length, rfl, rfl, rfl, Nat.zero_le _, Lib.hid rfl, Lib.hid (Below.refl _ _)⟩
  case round =>
    obtain ⟨k, F, T, rfl, rfl, rfl, hk, hFT, hB⟩ := hrel
    by_cases hlt : k < L.length
    · have hmem : L[k] ∈ L := List.getElem_mem hlt
      obtain ⟨l, hEl⟩ := HON.out _ hmem
      obtain ⟨u, hfu, hru, hpu⟩ := HV.out.back hEl
      obtain ⟨ua, uc, hu⟩ := hru.shape
      subst hu
      have hbd := HPC.out _ hmem
      have hpl : pc E L[k] = l := by simp [pc, hEl]
      rw [hpl] at hbd
      have htk : L.take (k + 1) = L.take k ++ [L[k]] := (List.take_append_getElem hlt).symm
      have hin := ends_in (n := zs.length) (L.take k) hat (fun s hs => HPC.out s (List.mem_of_mem_take hs))
      rw [← hFT.out] at hin
      simp only at hin
      have hrow : ∃ g, la = some ⟨g, 0, none⟩ ∧ w.cell? ⟨g, k, none⟩ = some (.int .i64 L[k]) := by
        rcases HLR.out.2 with ⟨e1, e2⟩ | ⟨g, cap, cur, e1, _⟩
        · omega
        · simp only [Value.slice.injEq] at e1
          obtain ⟨rfl, _, rfl⟩ := e1
          have := World.ownsRow.cells HLR.out rfl k (.int .i64 L[k]) (by simp [hlt])
          rw [Addr.add_lit, show 0 + k = k by omega] at this
          exact ⟨g, rfl, this⟩
      obtain ⟨g, rfl, hcl⟩ := hrow
      have hcl := keepS hB.out hcl
      have hlk : ∀ n, (Instr.lookup 24 (.map (some mb)) (.int .i64 L[k]) false).run Try.prog (wr.drewN n) = .ok (.slice ua l.length uc) (wr.drewN n) := fun n => by
        have := ((HM.out.below hB.out).below (below_drewN wr n)).look (k := L[k]) (wf_of (by omega) (by omega))
        rw [hfu] at this
        exact this
      have c1 := keepS hB.out ((cell_of_row w B 1 _ 26 (0, 0) HBX.out).trans rfl)
      have hki : (k : Int) < (L.length : Int) := by omega
      have HPL := Lib.hid hpl
      have HTK := Lib.hid htk
      clear hpl htk hmem hEl hfu hru hpu
      generalize L[k] = x at *
      have wl : IntKind.i64.wrap (x + (l.length : Int)) = x + (l.length : Int) := IntWalk.i64_in _ ⟨by omega, by omega⟩
      by_cases hf : F ≤ x
      · by_cases ht : T < x + (l.length : Int)
        · go_wp2_with fail
          go_quiet (fail)
          obtain ⟨W0, hW0⟩ : ∃ W0, wr.drewN nq = W0 := ⟨_, rfl⟩
          have hb0 := below_drewN wr nq
          rw [hW0] at hb0 ⊢
          have HB0 := Lib.hid (hB.out.trans (hb0.mono hB.out.size))
          clear hb0 hW0 hlk
          go_wp2_with fail
          go_roundw
          case rel => exact ⟨k + 1, F, x + (l.length : Int), rfl, rfl, by go_num, by omega, Lib.hid (by rw [HTK.out, ends_snoc, ← hFT.out, HPL.out]; simp only [Prod.mk.injEq]; omega), HB0⟩
          case measure => simp [intOf]; omega
        · go_wp2_with fail
          go_quiet (fail)
          obtain ⟨W0, hW0⟩ : ∃ W0, wr.drewN nq = W0 := ⟨_, rfl⟩
          have hb0 := below_drewN wr nq
          rw [hW0] at hb0 ⊢
          have HB0 := Lib.hid (hB.out.trans (hb0.mono hB.out.size))
          clear hb0 hW0 hlk
          go_wp2_with fail
          go_roundw
          case rel => exact ⟨k + 1, F, T, rfl, rfl, by go_num, by omega, Lib.hid (by rw [HTK.out, ends_snoc, ← hFT.out, HPL.out]; simp only [Prod.mk.injEq]; omega), HB0⟩
          case measure => simp [intOf]; omega
      · by_cases ht : T < x + (l.length : Int)
        · go_wp2_with fail
          go_quiet (fail)
          obtain ⟨W0, hW0⟩ : ∃ W0, wr.drewN nq = W0 := ⟨_, rfl⟩
          have hb0 := below_drewN wr nq
          rw [hW0] at hb0 ⊢
          have HB0 := Lib.hid (hB.out.trans (hb0.mono hB.out.size))
          clear hb0 hW0 hlk
          go_wp2_with fail
          go_roundw
          case rel => exact ⟨k + 1, x, x + (l.length : Int), rfl, rfl, by go_num, by omega, Lib.hid (by rw [HTK.out, ends_snoc, ← hFT.out, HPL.out]; simp only [Prod.mk.injEq]; omega), HB0⟩
          case measure => simp [intOf]; omega
        · go_wp2_with fail
          go_quiet (fail)
          obtain ⟨W0, hW0⟩ : ∃ W0, wr.drewN nq = W0 := ⟨_, rfl⟩
          have hb0 := below_drewN wr nq
          rw [hW0] at hb0 ⊢
          have HB0 := Lib.hid (hB.out.trans (hb0.mono hB.out.size))
          clear hb0 hW0 hlk
          go_wp2_with fail
          go_roundw
          case rel => exact ⟨k + 1, x, T, rfl, rfl, by go_num, by omega, Lib.hid (by rw [HTK.out, ends_snoc, ← hFT.out, HPL.out]; simp only [Prod.mk.injEq]; omega), HB0⟩
          case measure => simp [intOf]; omega
    · obtain rfl : L.length = k := by omega
      rw [List.take_length] at hFT
      have hin := ends_in (n := zs.length) L hat HPC.out
      have hle := ends_le E at' zs.length L
      rw [← hFT.out] at hin hle
      simp only at hin hle
      obtain ⟨m, hm⟩ : ∃ m : Nat, T - F = (m : Int) := ⟨(T - F).toNat, by omega⟩
      obtain ⟨p, hp⟩ : ∃ p : Nat, at' - F = (p : Int) := ⟨(at' - F).toNat, by omega⟩
      have hsub : IntKind.i64.wrap (T - F) = (m : Int) := wrap_nat hm (by omega)
      have hsub2 : IntKind.i64.wrap (at' - F) = (p : Int) := wrap_nat hp (by omega)
      have hml : m ≤ 4096 := by omega
      have HSB := Lib.hid (And.intro hm hp)
      have HIN := Lib.hid (And.intro hin hle)
      obtain ⟨i5, hi5, hz0, hz1, hz2⟩ := info_parts info5
      have hpm : p + zs.length ≤ m := by omega
      obtain ⟨d1, hd1, hd1'⟩ := slice_low (n := m) (cap := m) wr.heap.size p (by omega)
      clear hm hp hin hle
      go_wp2_with (first
        | (at_make; refine wpList_make_full _ rfl _ _ 29 rfl w.heap.size 5 i5 (.int .u8 0) 1 Try.underlying29 hi5 hz0 hz1 .i64 .i64 _ _ m rfl rfl rfl rfl (by rw [hz2]; omega) (by unfold maxLen; omega) hB.out.size ?_; intro w1 hown1 hg1; rw [by8_zeros] at hown1)
        | ((with_reducible show wpList _ _ _ _ _ _); refine wpList_copy_at (.tmp 49) (.tmp 50) rfl rfl wr.heap.size p m (List.replicate m 0) d1 rfl hd1' (own_block8 hown1) (by simp) _ zs rfl ((HR.out.below hB.out).below (below_made hg1)) hpm ?_; intro w2 hg2 hb2))
      have hBW2 : Below w.heap.size w w2 := hB.out.trans (((below_made hg1).trans hb2).mono hB.out.size)
      have HC2 := Lib.hid (Chg.of_below (S := [mb]) hBW2)
      have hGlt : wr.heap.size < w2.heap.size := (Array.getElem?_eq_some_iff.1 hg2.out).1
      have HGG := Lib.hid (And.intro hB.out.size hGlt)
      have HM2 := Lib.hid (HM.out.below hBW2)
      have hcellsL : ∀ (k : Nat) (hlt : k < L.length), ∃ g, la = some ⟨g, 0, none⟩ ∧ w.cell? ⟨g, k, none⟩ = some (.int .i64 L[k]) := fun k hlt => by
        rcases HLR.out.2 with ⟨e1, e2⟩ | ⟨g, cap, cur, e1, _⟩
        · omega
        · simp only [Value.slice.injEq] at e1
          obtain ⟨rfl, _, rfl⟩ := e1
          have := World.ownsRow.cells HLR.out rfl k (.int .i64 L[k]) (by simp [hlt])
          rw [Addr.add_lit, show 0 + k = k by omega] at this
          exact ⟨g, rfl, this⟩
      have HCL := Lib.hid hcellsL
      clear hcellsL hBW2 hGlt hown1 hg1 hb2 hB hd1 hd1' hi5 hz0 hz1 hz2 hsub hsub2
      generalize wr.heap.size = G at *
      clear w1
      go_loopw [54] (fun iv W => ∃ k : Nat, iv = .int .i64 k ∧ k ≤ L.length ∧ Hid (MapS W mb N (fun j => if j ∈ L.take k then none else f j)) ∧ Hid (Chg [mb] w W) ∧ Hid (W.heap[G]? = some (.cells (by8 (bufK E F (splice (List.replicate m 0) p zs) (L.take k))).toArray 5 (0, 0)))) (fun iv _ => L.length - (intOf iv).toNat)
      case atStart => exact ⟨0, rfl, Nat.zero_le _, Lib.hid (by simpa using HM2.out), HC2, hg2⟩
      case round =>
        obtain ⟨k, rfl, hk, hMk, hCk, hGk⟩ := hrel
        by_cases hlt : k < L.length
        · have hmem : L[k] ∈ L := List.getElem_mem hlt
          obtain ⟨l, hEl⟩ := HON.out _ hmem
          obtain ⟨u, hfu, hru, hpu⟩ := HV.out.back hEl
          obtain ⟨ua, uc, hu⟩ := hru.shape
          subst hu
          have hbd := HPC.out _ hmem
          have hpl : pc E L[k] = l := by simp [pc, hEl]
          rw [hpl] at hbd
          have hin := HIN.out
          have hen := hin.2.2.2 _ hmem
          rw [hpl] at hen
          have htk : L.take (k + 1) = L.take k ++ [L[k]] := (List.take_append_getElem hlt).symm
          have hni : L[k] ∉ L.take k := fun h => by
            have := HND.out
            rw [← List.take_append_drop k L, List.drop_eq_getElem_cons hlt] at this
            exact (List.nodup_append.1 this).2.2 _ h _ List.mem_cons_self rfl
          obtain ⟨g, rfl, hcl⟩ := HCL.out k hlt
          have hcl' := hCk.out.cell hcl (by simpa using HM.out.not_cell hcl)
          have hlk : ∀ W' : World, Below wr.heap.size wr W' → (Instr.lookup 24 (.map (some mb)) (.int .i64 L[k]) false).run Try.prog W' = .ok (.slice ua l.length uc) W' := fun W' hb => by
            have := (hMk.out.below hb).look (k := L[k]) (wf_of (by omega) (by omega))
            rw [if_neg hni, hfu] at this
            exact this
          have hru' := hru.chg hCk.out (fun g' hg' => by rw [List.mem_singleton.1 hg']; exact hru.offMap HM.out)
          have c1 := hCk.out.cell ((cell_of_row w B 1 _ 26 (0, 0) HBX.out).trans rfl) (by simpa using HM.out.not_cells HBX.out)
          have hki : (k : Int) < (L.length : Int) := by omega
          obtain ⟨q, hq⟩ : ∃ q : Nat, L[k] - F = (q : Int) := ⟨(L[k] - F).toNat, by omega⟩
          have wsub : IntKind.i64.wrap (L[k] - F) = (q : Int) := wrap_nat hq (by omega)
          have hql : q + l.length ≤ m := by have := HSB.out; omega
          obtain ⟨d2, hd2, hd2'⟩ := slice_low (n := m) (cap := m) G q (by omega)
          have HPL := Lib.hid hpl
          have HTK := Lib.hid htk
          have HQ := Lib.hid hq
          have HWF := Lib.hid (wf_of (k := L[k]) (by omega) (by omega))
          have HNI := Lib.hid hni
          clear hpl htk hmem hEl hfu hru hpu hin hen hq hcl hni
          generalize L[k] = x at *
          go_wp2_with fail
          have hlk1 : (Instr.lookup 24 (.map (some mb)) (.int .i64 x) false).run Try.prog wr.drew = .ok (.slice ua l.length uc) wr.drew := hlk _ (below_drewN wr 1)
          go_still_tail 11, (by kernel_rfl)
          clear hlk1 hlk
          have hbd0 := below_drewN wr 1
          have hMd := Lib.hid (hMk.out.below hbd0)
          have hCd := Lib.hid (hCk.out.trans (Chg.of_below hbd0))
          have hGd := (row_keep hbd0 hGk.out)
          have hrd := hru'.below hbd0
          clear hbd0 hru' hMk hCk hGk hcl' c1
          rw [show wr.drewN 1 = wr.drew from rfl] at hMd hCd hGd hrd
          have hbl : (bufK E F (splice (List.replicate m 0) p zs) (L.take k)).length = m := bufK_len _ _ ((splice_len (by simpa using hpm)).trans (by simp)) (fun s hs => by have h1 := HIN.out.2.2.2 s (List.mem_of_mem_take hs); have h2 := HSB.out; omega)
          refine wpList_copy_at (w := wr.drew) (.tmp 62) (.tmp 68) rfl rfl G q m _ d2 rfl hd2' hGd hbl _ l rfl hrd hql ?_
          intro w3 hg3 hb3
          have hG := HGG.out
          have hmlt := HM.out.lt
          have HC3 := Lib.hid (hCd.out.step hb3 hG.1)
          have HM3 := Lib.hid (hMd.out.keep (hb3.block mb (Nat.lt_of_lt_of_le hmlt hG.1)))
          have c1 := HC3.out.cell ((cell_of_row w B 1 _ 26 (0, 0) HBX.out).trans rfl) (by simpa using HM.out.not_cells HBX.out)
          have hw3 : G < w3.heap.size := (Array.getElem?_eq_some_iff.1 hg3.out).1
          clear hMd hCd hGd hrd hb3 hbl hql hd2 hd2' hG
          go_wp2_with ((with_reducible show wpList _ _ _ _ _ _); refine wpList_delS rfl (.tmp 73) (.tmp 74) rfl HM3.out HWF.out rfl rfl ?_; intro w4 hm4 hg4)
          have HM4 := Lib.hid hm4
          have HC4 := Lib.hid (HC3.out.trans (Chg.grown (S := [mb]) hg4 (fun b hb => by cases hb; simp)))
          have HG4 := Lib.hid ((hg4.block G hw3 (fun e => by have := HGG.out.1; cases e; omega)).trans hg3.out)
          clear hm4 hg4 hw3
          go_wp2_with fail
          go_roundw
          case rel => 
            refine ⟨k + 1, by go_num, by omega, Lib.hid ?_, HC4, Lib.hid ?_⟩
            · refine cast (congrArg (MapS w4 mb N) (funext fun j => ?_)) HM4.out
              rw [HTK.out]
              by_cases h1 : j = x
              · simp [h1]
              · simp [h1]
            · rw [HTK.out, bufK_snoc, HPL.out, HQ.out]
              simpa using HG4.out
          case measure => simp [intOf]; omega
        · obtain rfl : L.length = k := by omega
          rw [List.take_length] at hMk hGk
          have c1 := hCk.out.cell ((cell_of_row w B 1 _ 26 (0, 0) HBX.out).trans rfl) (by simpa using HM.out.not_cells HBX.out)
          have hin := HIN.out
          have hNN := HNN.out
          have hwf := wf_of (k := F) (by omega) (by omega)
          have hGw := (Array.getElem?_eq_some_iff.1 hGk.out).1
          have hGG := HGG.out
          have hes := eqlSome mb wr
          have hmlt := HM.out.lt
          go_wp2_with ((with_reducible show wpList _ _ _ _ _ _); refine wpList_updS rfl (.tmp 88) (.tmp 89) (.tmp 90) rfl hMk.out (by unfold maxLen; omega) hwf _ _ _ rfl rfl rfl ?_; intro w4 hm4 hg4)
          go_end0
          have hC4 := hCk.out.trans (Chg.grown (S := [mb]) hg4 (fun b hb => by cases hb; simp))
          refine ⟨rfl, hC4, _, hm4, vals_join HV.out (fun g hg => by have := HGL.out g hg; have := HGG.out.1; omega) HM.out hFT.out HSB.out.1 HSB.out.2 hC4 ((hg4.block G hGw (fun e => by cases e; omega)).trans hGk.out) HR.out.byt ?_ (by omega)⟩
          exact bufK_len _ _ ((splice_len (by simpa using hpm)).trans (by simp)) (fun s hs => by have h1 := HIN.out.2.2.2 s hs; have h2 := HSB.out; omega)
#print axioms join_some

set_option maxRecDepth 20000 in
set_option maxHeartbeats 4000000 in
theorem join_none {w : World} {B t : Nat} {v lv : Value} {zs : List Int} (at' : Int) (hgl : ∀ g ∈ gs, g < w.heap.size) (hbox : w.heap[B]? = some (.cells #[.int .i64 (t : Int), .map none] 26 (0, 0))) (htb : t ≤ 2000000000)
    (hr : Rd w v zs) (hl0 : ∃ la lc, lv = .slice la 0 lc) (hat : (t : Int) ≤ at' ∧ at' + zs.length ≤ t + 4096) :
    Calls Try.prog 14 #[.pointer (some ⟨B, 0, none⟩), .int .i64 at', v, lv] w fun e w' => e = .returned (.tuple #[]) ∧ ∃ mb f', w.heap.size ≤ mb ∧ Chg [B] w w' ∧ w'.heap[B]? = some (.cells #[.int .i64 (t : Int), .map (some mb)] 26 (0, 0)) ∧ MapS w' mb 1 f' ∧ Vals gs w' f' (fun k => if k = at' then some zs else none) := by
  obtain ⟨la, lc, rfl⟩ := hl0
  have HGL := Lib.hid hgl
  clear hgl
  have HR := Lib.hid hr
  have HBX := Lib.hid hbox
  obtain ⟨ao, cap, rfl⟩ := hr.shape
  have w0 : IntKind.i64.wrap (at' + (zs.length : Int)) = at' + (zs.length : Int) := IntWalk.i64_in _ ⟨by omega, by omega⟩
  have w1 : IntKind.i64.wrap (at' + (zs.length : Int) - at') = (zs.length : Int) := wrap_nat (by omega) (by omega)
  have w2 : IntKind.i64.wrap (at' - at') = ((0 : Nat) : Int) := wrap_nat (by omega) (by omega)
  clear hr hbox
  go_enter Try.func14, Try.ntmps14
  go_wp2_with fail
  refine wp_loop_rounds 1 ?_
  rw [rounds_succ]
  obtain ⟨i5, hi5, hz0, hz1, hz2⟩ := info_parts info5
  have hen := eqlNil
  go_wp2_with (first
    | (at_make; refine wpList_make_full _ rfl _ _ 29 rfl w.heap.size 5 i5 (.int .u8 0) 1 Try.underlying29 hi5 hz0 hz1 .i64 .i64 _ _ zs.length rfl rfl rfl rfl (by rw [hz2]; omega) (by unfold maxLen; omega) (Nat.le_refl _) ?_; intro w1 hown1 hg1; rw [by8_zeros] at hown1)
    | ((with_reducible show wpList _ _ _ _ _ _); refine wpList_copy_at (.tmp 49) (.tmp 50) rfl rfl w.heap.size 0 zs.length (List.replicate zs.length 0) (some ⟨w.heap.size, 0, none⟩) rfl (fun _ => rfl) (own_block8 hown1) (by simp) _ zs rfl (HR.out.below (below_made hg1)) (by omega) ?_; intro w2 hg2 hb2))
  refine wp_loop_rounds 1 ?_
  rw [rounds_succ]
  have hgsp : splice (List.replicate zs.length 0) 0 zs = zs := by simp [splice]
  rw [hgsp] at hg2
  have HB2 := Lib.hid ((below_made hg1).trans hb2)
  have hbx2 := row_keep HB2.out HBX.out
  have HLT := Lib.hid (Array.getElem?_eq_some_iff.1 hbx2).1
  have HX2 := Lib.hid hbx2
  have c1 := (cell_of_row w2 B 1 _ 26 (0, 0) hbx2).trans rfl
  have hmm := run_makeMap (P := Try.prog) 24 w2
  have hba := below_alloc w2 (.map #[] 0)
  have c1' := keepS hba c1
  have cf' := unfrozen (row_keep hba hbx2)
  have hBlt : B < w.heap.size := (Array.getElem?_eq_some_iff.1 HBX.out).1
  have hG2 : w.heap.size < w2.heap.size := (Array.getElem?_eq_some_iff.1 hg2.out).1
  have hM3 : MapS ((w2.alloc (.map #[] 0)).setCell ⟨B, 1, none⟩ (.map (some w2.heap.size))) w2.heap.size 0 (fun _ => none) := (MapS.made w2).keep (Below.heap_setCell _ _ _ _ (by simp; omega))
  have hB3 := heap_setCell_same (w2.alloc (.map #[] 0)) B 1 _ 26 (.map (some w2.heap.size)) (row_keep hba hbx2)
  have hG3 := ((Below.heap_setCell (w2.alloc (.map #[] 0)) ⟨B, 1, none⟩ (.map (some w2.heap.size)) w.heap.size (by simp; omega)).trans (row_keep hba hg2.out))
  have hC3 : Chg [B] w ((w2.alloc (.map #[] 0)).setCell ⟨B, 1, none⟩ (.map (some w2.heap.size))) := ((Chg.of_below HB2.out).trans (Chg.alloc _ _)).trans (Chg.set _ _ _ (by simp))
  have hwf := wf_of (k := at') (by omega) (by omega)
  have HF := Lib.hid (And.intro hB3 (And.intro hG3 hC3))
  clear hbx2 hg1 hb2 hown1 hgsp hB3 hG3 hC3
  go_wp2_with ((with_reducible show wpList _ _ _ _ _ _); refine wpList_updS rfl (.tmp 88) (.tmp 89) (.tmp 90) rfl hM3 (by unfold maxLen; omega) hwf _ _ _ rfl rfl rfl ?_; intro w4 hm4 hg4)
  go_end0
  obtain ⟨hB3, hG3, hC3⟩ := HF.out
  have hsz : w2.heap.size ≠ B := by omega
  have hzz : w.heap.size ≤ w2.heap.size := by omega
  have hBs : B < (((w2.alloc (.map #[] 0)).setCell ⟨B, 1, none⟩ (.map (some w2.heap.size)))).heap.size := Nat.lt_of_lt_of_le hBlt hC3.size
  have hGs : w.heap.size < (((w2.alloc (.map #[] 0)).setCell ⟨B, 1, none⟩ (.map (some w2.heap.size)))).heap.size := (Array.getElem?_eq_some_iff.1 hG3).1
  have hg5 := (hg4.block w.heap.size hGs (fun e => by have := Option.some.inj e; omega)).trans hG3
  have hr := rd_block hg5 HR.out.byt rfl (by unfold maxLen; omega)
  refine ⟨rfl, w2.heap.size, hzz, hC3.step ((Below.refl w.heap.size _).grown hg4 hC3.size (fun k hk => by have := Option.some.inj hk; omega)) (Nat.le_refl _), (hg4.block B hBs (fun e => by have := Option.some.inj e; omega)).trans hB3, _, hm4, fun k => ?_, fun k v l h1 h2 => ?_, fun k v l h1 h2 g hg => ?_⟩
  · by_cases h1 : k = at' <;> simp [h1]
  · by_cases h3 : k = at'
    · rw [if_pos h3] at h1 h2
      cases h1
      cases h2
      exact hr
    · rw [if_neg h3] at h1
      cases h1
  · by_cases h3 : k = at'
    · rw [if_pos h3] at h1
      cases h1
      intro a n cap ea _
      cases ea
      have := HGL.out g hg
      exact fun e => by simp only at e; omega
    · rw [if_neg h3] at h1
      cases h1
#print axioms join_none
end Go.Proofs.Ytfgjlfcadpmkhaa
