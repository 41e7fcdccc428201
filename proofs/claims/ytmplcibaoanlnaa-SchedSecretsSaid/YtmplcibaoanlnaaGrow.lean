/- Rows of the caller's own that grow beside the table: a row's block is none of the table's; append tells where its row lies. -/
import Derived.Test.YtmplcibaoanlnaaPure
namespace Go.Proofs.Ytmplcibaoanlnaa
open Go Go.RowKit

/-- append of one number: where the row lies then. -/
theorem wpList_append_one {w : World} {ops : Array Oper} {rest : List Oper} {o : Oper} {a : Act} {Q : Exit → Act → World → Prop} (s x : Operand)
    (hgd : Region.wanted o (yielded ops a.tmps) = true) (ho : o.op = .call { callee := .builtin .append, args := #[s, x], argTypes := #[31, 31] })
    (base : Nat) (v : Value) (n : Nat) (xs : List Int) (hs : a.eval s = v) (hown : w.ownsRow base 26 1 v n (cs .i64 xs))
    (ad : Addr) (c : Nat) (z : Int) (hx : a.eval x = .slice (some ad) 1 c) (hz : w.cell? ad = some (.int .i64 z)) (hn : n ≤ 1000000) (hbase : base ≤ w.heap.size)
    (h : ∀ v' w', w'.ownsRow base 26 1 v' (n + 1) (cs .i64 (xs ++ [z])) → w.grownBy w' v.ownBlock → (v'.ownBlock = v.ownBlock ∨ v'.ownBlock = some w.heap.size) → wpList Try.prog ops Q rest (a.put o.dst v') w') : wpList Try.prog ops Q (o :: rest) a w := by
  refine wpList_step fun K hK => ?_
  rw [if_pos hgd]
  obtain ⟨i, hi, hz0, hz1, hz2⟩ := info_parts info32
  obtain ⟨v', w', hr, h2, h3, _, h5⟩ := run_append_own_at (P := Try.prog) w base 31 o.type 26 i _ 1 8 Try.underlying31 hi hz0 hz1 hz2 rfl (by decide) v n (cs .i64 xs) hown ad 1 c (cs .i64 [z]) rfl
    (fun j u hu => by
      cases j with
      | zero => simp [cs] at hu; subst hu; simpa [Addr.add] using hz
      | succ j => simp [cs] at hu)
    (cs_one .i64 [z]) (by unfold maxLen; omega) (by omega) hbase
  unfold Oper.wp execOp
  simp only [ho, resolve, invoke, builtin, Sem.run_bind, Sem.run_pure, Result.andThen_ok, List.map_toArray, List.map_cons, List.map_nil, hs, hx, hr]
  exact hK _ _ (h v' w' (by rw [cs_app]; exact h2) h3 h5)

theorem Tbl.same {w w' : World} {B tb mb : Nat} {nv : Value} {L : List (Nd × Value)} {f : Int → ByteArray → List Int → Option Int} (h : Tbl w B tb mb nv L f)
    (hk : ∀ k, k = tb ∨ k = mb ∨ nv.ownBlock = some k ∨ (∃ p ∈ L, p.2.ownBlock = some k) → w'.heap[k]? = w.heap[k]?) : Tbl w' B tb mb nv L f :=
  { h with
    tab := by rw [hk tb (.inl rfl)]; exact h.tab
    nodes := own_keep h.nodes fun g hg => hk g (.inr (.inr (.inl hg)))
    parts := fun p hp => own_keep (h.parts p hp) fun g hg => hk g (.inr (.inr (.inr ⟨p, hp, hg⟩)))
    map := h.map.keep (hk mb (.inr (.inl rfl))) }

/-- The table, told by its nodes alone, and none of the rows vs lies where one of its parts' does. -/
structure TabX (w : World) (B tb mb : Nat) (nv : Value) (N : List Nd) (vs : List Value) : Prop where
  ex : ∃ L, Tbl w B tb mb nv L (idx L) ∧ nds L = N ∧ ∀ v ∈ vs, ∀ g, v.ownBlock = some g → ∀ p ∈ L, p.2.ownBlock ≠ some g

theorem TabX.at {w : World} {B tb mb : Nat} {nv : Value} {N : List Nd} {vs : List Value} (h : TabX w B tb mb nv N vs) : TabAt w B tb mb nv N := by
  obtain ⟨L, h1, h2, _⟩ := h.ex; exact ⟨L, h1, h2⟩
theorem TabX.keep {w w' : World} {B tb mb : Nat} {nv : Value} {N : List Nd} {vs : List Value} (h : TabX w B tb mb nv N vs) (hb : Below w.heap.size w w') : TabX w' B tb mb nv N vs := by
  obtain ⟨L, h1, h2, h3⟩ := h.ex; exact ⟨L, h1.keep hb, h2, h3⟩
theorem TabX.sub {w : World} {B tb mb : Nat} {nv : Value} {N : List Nd} {vs us : List Value} (h : TabX w B tb mb nv N vs) (hs : ∀ u ∈ us, u ∈ vs) : TabX w B tb mb nv N us := by
  obtain ⟨L, h1, h2, h3⟩ := h.ex; exact ⟨L, h1, h2, fun v hv => h3 v (hs v hv)⟩
theorem TabX.more {w : World} {B tb mb : Nat} {nv : Value} {N : List Nd} {vs : List Value} (h : TabX w B tb mb nv N vs) : TabX w B tb mb nv N (.slice none 0 0 :: vs) := by
  obtain ⟨L, h1, h2, h3⟩ := h.ex
  refine ⟨L, h1, h2, fun v hv g hg => ?_⟩
  rcases List.mem_cons.1 hv with rfl | hv
  · cases hg
  · exact h3 v hv g hg
/-- A row grows: the table is as it was, and the grown row lies beside it, too. -/
theorem TabX.grown {w w' : World} {B tb mb : Nat} {nv v v' : Value} {N : List Nd} {vs : List Value} (h : TabX w B tb mb nv N vs) (hv : v ∈ vs) {base n : Nat} {xs : List Value} (ho : w.ownsRow base 26 1 v n xs) (hg : w.grownBy w' v.ownBlock)
    (hl : v'.ownBlock = v.ownBlock ∨ v'.ownBlock = some w.heap.size) : TabX w' B tb mb nv N (v' :: vs) := by
  obtain ⟨L, h1, h2, h3⟩ := h.ex
  have hne : ∀ k, k = tb ∨ k = mb ∨ nv.ownBlock = some k ∨ (∃ p ∈ L, p.2.ownBlock = some k) → k < w.heap.size ∧ some k ≠ v.ownBlock := by
    intro k hk
    have hc : ∀ {o : Obj}, w.heap[k]? = some o → (∀ cur, o ≠ .cells cur 26 (0, 0)) → k < w.heap.size ∧ some k ≠ v.ownBlock := fun ho1 ho2 => ⟨blk_lt ho1, fun e => by
      obtain ⟨cur, hc⟩ := own_blk ho e.symm
      rw [ho1] at hc; cases hc; exact ho2 cur rfl⟩
    rcases hk with rfl | rfl | hk | ⟨p, hp, hk⟩
    · exact hc h1.tab (fun cur e => by cases e)
    · obtain ⟨D, ⟨es, clock, hb, _⟩, _⟩ := h1.map
      exact hc hb (fun cur e => by cases e)
    · obtain ⟨cur, hb⟩ := own_blk h1.nodes hk
      exact hc hb (fun cur e => by cases e)
    · exact ⟨((h1.parts p hp).lt k hk).2, fun e => h3 v hv k e.symm p hp hk⟩
  refine ⟨L, h1.same fun k hk => hg.block k (hne k hk).1 (hne k hk).2, h2, fun u hu g hgu p hp => ?_⟩
  rcases List.mem_cons.1 hu with rfl | hu
  · rcases hl with e | e
    · rw [e] at hgu; exact h3 v hv g hgu p hp
    · rw [e] at hgu; cases hgu
      intro e2
      have := ((h1.parts p hp).lt _ e2).2
      omega
  · exact h3 u hu g hgu p hp

def PutX (w : World) (B tb mb : Nat) (nv : Value) (N : List Nd) (vs : List Value) (n : Nd) (e : Ending) (w' : World) : Prop :=
  match idxN 1 N n with
  | some c => e = .returned (.int .i64 c) ∧ Below w.heap.size w w'
  | none => e = .returned (.int .i64 ((N.length : Int) + 1)) ∧ ∃ nv', TabX w' B tb mb nv' (N ++ [n]) vs ∧ Frm tb mb nv w w' ∧ Moved w nv nv'
set_option maxHeartbeats 2000000 in
set_option maxRecDepth 20000 in
theorem make_fresh {w : World} {B tb mb : Nat} {nv : Value} {L : List (Nd × Value)} (h : Tbl w B tb mb nv L (idx L)) (k : Int) {pv : Value} {ps : List Int} (hp : Rd .i64 w pv ps) (hl : ps.length ≤ 1000000) (hf : Fits L k ps) (hroom : L.length < 65536) (hB : B ≤ w.heap.size) :
    Calls Try.prog 8 #[.pointer (some ⟨tb, 0, none⟩), .int .i64 k, pv] w fun e w' => ∃ pv, (∀ g, pv.ownBlock = some g → w.heap.size ≤ g) ∧ Numbered w B tb mb nv L ((k, ByteArray.empty, mk L k ps), pv) (idx L k ByteArray.empty (pad (mk L k ps))) e w' := by
  have hF := fits_any h k hp hl
  have hok := mk_ok h hf
  have HF := Lib.hid hf
  have HR := Lib.hid hroom
  obtain ⟨l, h1, h2, h3⟩ := hf
  obtain ⟨k1, k2, k3, k4, k5⟩ := askL_kind h1
  have hk2 : k ≠ 2 := by omega
  have HK2 := Lib.hid hk2
  by_cases h8 : k = 8
  · have hl8 := k5 h8
    subst hl8
    have hlen : ps.length = 2 := by rw [← h2]; rfl
    obtain ⟨⟨b1, b2⟩, b3⟩ := h3 1 (by omega)
    simp only [List.getD_cons_succ, List.getD_cons_zero] at b3
    have b4 : kindOf L (ps.getD 1 0) = 7 := by
      rcases b3 with b3 | b3
      · cases b3
      · exact b3.symm
    obtain ⟨q, hq, e1, e2, e3⟩ := kind_node h b4 (by decide)
    obtain ⟨o, ho⟩ := List.length_eq_one_iff.1 (e3.2.2.2.2 e2)
    have hpo : partsOf L (ps.getD 1 0) = [o] := by
      unfold partsOf
      rw [e1]
      simp [hq, ho]
    have hmk : mk L k ps = [min (ps.getD 0 0) o, max (ps.getD 0 0) o] := by
      unfold mk
      rw [if_pos h8, hpo]
      rfl
    rw [hmk] at hok
    have HMK := Lib.hid hmk
    have HOK := Lib.hid hok
    have HO := Lib.hid ho
    subst h8
    rcases hp.cases with ⟨h0, _⟩ | ⟨b, off, c, rfl, _, hlc, hc9, _, hcell⟩
    · rw [h0] at hlen; simp at hlen
    · have hc0 := hcell 0 (by omega)
      have hc1 := hcell 1 (by omega)
      rw [e1] at hc1
      rw [hlen] at hp hF hlc ⊢
      rw [Nat.add_zero] at hc0
      have HH := Lib.hid h
      have HP := Lib.hid hp
      have HLN := Lib.hid hl
      clear hcell hmk hok ho h hp h1 h2 h3 k1 k2 k3 k4 k5 b1 b2 b3 b4 e2 e3 hpo hlen hl hroom hk2
      generalize ps.getD 0 0 = x at *
      go_enter Try.func8, Try.ntmps8
      go_wp2_with fail
      refine hF.mono ?_
      rintro e w1 ⟨b', rfl, hb', hb1⟩
      obtain rfl : b' = true := hb'.2 HF.out
      clear hb'
      go_wp2_with fail
      have hcl := clone_any (HP.out.below hb1) HLN.out
      refine hcl.mono ?_
      rintro e w2 ⟨v2, rfl, hown2, hb2⟩
      clear hcl
      have B2 := hb1.trans (hb2.mono hb1.size)
      have hc02 : w2.cell? ⟨b, off, none⟩ = some (.int .i64 x) := by rw [B2.cell (cell_lt hc0)]; exact hc0
      have hc12 : w2.cell? ⟨b, off + 1, none⟩ = some (.int .i64 ((q : Int) + 1)) := by rw [B2.cell (cell_lt hc1)]; exact hc1
      go_wp2_with fail
      go_still_tail 7, (by kernel_rfl)
      have hS := secrets_any (w := w2.drew) (HH.out.keep B2.drew) x q hq o HO.out
      go_wp2_with fail
      refine hS.mono ?_
      rintro e w3 ⟨v3, rfl, hown3, hb3⟩
      clear hS hc02 hc12
      obtain ⟨ao3, cap3, rfl, _, _⟩ := own_shape hown3
      have B3 : Below w.heap.size w w3 := B2.drew.trans (hb3.mono B2.size)
      have hN := number_any (w := w3) (HH.out.keep B3) 8 ByteArray.empty [min x o, max x o] _ HOK.out HK2.out (own_mono hown3 (Nat.le_trans hB B2.size)) HR.out
      go_wp2_with fail
      refine hN.mono ?_
      intro e w4 hn4
      obtain ⟨cN, rfl⟩ := hn4.val
      have HN4 := Lib.hid hn4
      clear hn4 hN
      go_wp2_with fail
      go_ret
      refine ⟨.slice ao3 2 cap3, (fun g hg => Nat.le_trans B2.size (hown3.lt g hg).1), ?_⟩
      rw [HMK.out]
      exact HN4.out.later B3
  · have hmk : mk L k ps = ps := by unfold mk; rw [if_neg h8]
    rw [hmk] at hok
    have HMK := Lib.hid hmk
    have HOK := Lib.hid hok
    have HH := Lib.hid h
    have HP := Lib.hid hp
    have HLN := Lib.hid hl
    have hb8 : (k == 8) = false := beq_eq_false_iff_ne.2 h8
    have hp' := hp
    obtain ⟨ao, cap, rfl, _⟩ := hp'
    clear hmk hok h hp h1 h2 h3 k1 k2 k3 k4 k5 hl hroom hk2 h8
    go_enter Try.func8, Try.ntmps8
    go_wp2_with fail
    refine hF.mono ?_
    rintro e w1 ⟨b', rfl, hb', hb1⟩
    obtain rfl : b' = true := hb'.2 HF.out
    clear hb'
    go_wp2_with fail
    have hcl := clone_any (HP.out.below hb1) HLN.out
    refine hcl.mono ?_
    rintro e w2 ⟨v2, rfl, hown2, hb2⟩
    clear hcl
    obtain ⟨ao3, cap3, rfl, _, _⟩ := own_shape hown2
    have B2 := hb1.trans (hb2.mono hb1.size)
    have hN := number_any (w := w2) (HH.out.keep B2) k ByteArray.empty ps _ HOK.out HK2.out (own_mono hown2 (Nat.le_trans hB hb1.size)) HR.out
    go_wp2_with fail
    refine hN.mono ?_
    intro e w4 hn4
    obtain ⟨cN, rfl⟩ := hn4.val
    have HN4 := Lib.hid hn4
    clear hn4 hN
    go_wp2_with fail
    go_ret
    refine ⟨.slice ao3 ps.length cap3, (fun g hg => Nat.le_trans hb1.size (hown2.lt g hg).1), ?_⟩
    rw [HMK.out]
    exact HN4.out.later B2

set_option maxRecDepth 20000 in
theorem TabX.make {w : World} {B tb mb : Nat} {nv : Value} {N : List Nd} {vs : List Value} (h : TabX w B tb mb nv N vs) (hvs : ∀ v ∈ vs, ∀ g, v.ownBlock = some g → g < w.heap.size) (k : Int) {pv : Value} {ps : List Int} (hp : Rd .i64 w pv ps) (hl : ps.length ≤ 1000000) (hf : fitsN N k ps = true) (hroom : N.length < 65536) (hB : B ≤ w.heap.size) :
    Calls Try.prog 8 #[.pointer (some ⟨tb, 0, none⟩), .int .i64 k, pv] w fun e w' => PutX w B tb mb nv N vs (k, ByteArray.empty, mkN N k ps) e w' := by
  obtain ⟨L, h1, rfl, h3⟩ := h.ex
  refine (make_fresh h1 k hp hl ((fits_nds L k ps).2 hf) (by rw [← nds_len]; exact hroom) hB).mono fun e w' hm => ?_
  obtain ⟨pv', hfr, hm⟩ := hm
  rw [← mk_nds]
  have e0 := idx_nds L (k, ByteArray.empty, Go.Proofs.Ytmplcibaoanlnaa.mk L k ps)
  simp only at e0
  rw [e0] at hm
  unfold PutX
  cases hc : idxN 1 (nds L) (k, ByteArray.empty, Go.Proofs.Ytmplcibaoanlnaa.mk L k ps) with
  | some c => rw [hc] at hm; exact hm
  | none =>
    rw [hc] at hm
    obtain ⟨m1, nv', m2, m3, m4⟩ := hm
    rw [nds_len]
    refine ⟨m1, nv', ⟨_, m2, nds_app L _, fun v hv g hg p hp => ?_⟩, m3, m4⟩
    rcases List.mem_append.1 hp with hp | hp
    · exact h3 v hv g hg p hp
    · obtain rfl := List.mem_singleton.1 hp
      intro e
      have := hfr g e
      have := hvs v hv g hg
      omega
set_option maxRecDepth 20000 in
theorem TabX.secret {w : World} {B tb mb : Nat} {nv : Value} {N : List Nd} {vs : List Value} (h : TabX w B tb mb nv N vs) (hroom : N.length < 65536) :
    Calls Try.prog 7 #[.pointer (some ⟨tb, 0, none⟩)] w fun e w' => e = .returned (.int .i64 ((N.length : Int) + 1)) ∧ ∃ nv', TabX w' B tb mb nv' (N ++ [secretNd]) vs ∧ Frm tb mb nv w w' ∧ Moved w nv nv' := by
  obtain ⟨L, h1, rfl, h3⟩ := h.ex
  refine (secret_any h1 (by rw [← nds_len]; exact hroom)).mono fun e w' ⟨e1, nv', h2, h4, h5⟩ => ?_
  rw [nds_len]
  refine ⟨e1, nv', ⟨_, h2, nds_app L _, fun v hv g hg p hp => ?_⟩, h4, h5⟩
  rcases List.mem_append.1 hp with hp | hp
  · exact h3 v hv g hg p hp
  · obtain rfl := List.mem_singleton.1 hp
    intro e; cases e
theorem PutX.new {w : World} {B tb mb : Nat} {nv : Value} {N : List Nd} {vs : List Value} {n : Nd} {e : Ending} {w' : World} (h : PutX w B tb mb nv N vs n e w') (hc : idxN 1 N n = none) : e = .returned (.int .i64 ((N.length : Int) + 1)) ∧ ∃ nv', TabX w' B tb mb nv' (N ++ [n]) vs ∧ Frm tb mb nv w w' ∧ Moved w nv nv' := by
  unfold PutX at h; rw [hc] at h; exact h
theorem PutX.old {w : World} {B tb mb : Nat} {nv : Value} {N : List Nd} {vs : List Value} {n : Nd} {e : Ending} {w' : World} (h : PutX w B tb mb nv N vs n e w') {c : Int} (hc : idxN 1 N n = some c) : e = .returned (.int .i64 c) ∧ Below w.heap.size w w' := by
  unfold PutX at h; rw [hc] at h; exact h
/-- What grows lies from the base on. -/
theorem grown_below {w w' : World} {base n : Nat} {v : Value} {xs : List Value} (ho : w.ownsRow base 26 1 v n xs) (hb : base ≤ w.heap.size) (hg : w.grownBy w' v.ownBlock) : Below base w w' := below_own ho hb hg
set_option maxRecDepth 20000 in
/-- Another row is as it was. -/
theorem own_grown {w w' : World} {base2 m : Nat} {v u : Value} {ys : List Value} (hu : w.ownsRow base2 26 1 u m ys) (hne : ∀ g, u.ownBlock = some g → v.ownBlock ≠ some g) (hg : w.grownBy w' v.ownBlock) : w'.ownsRow base2 26 1 u m ys :=
  own_keep hu fun g hgu => hg.block g (hu.lt g hgu).2 (fun e => hne g hgu e.symm)
set_option maxRecDepth 20000 in
theorem TabX.new (w : World) : Calls Try.prog 4 #[] w fun e w' => ∃ tb mb nv, e = .returned (.pointer (some ⟨tb, 0, none⟩)) ∧ TabX w' w.heap.size tb mb nv [] [.slice none 0 0, .slice none 0 0] ∧ Below w.heap.size w w' :=
  (new_any w).mono fun _ _ ⟨h1, h2, h3⟩ => ⟨_, _, _, h1, ⟨[], h2, rfl, (fun _ _ _ _ p hp => by cases hp)⟩, h3⟩

/-- The table and the caller's rows beside it, since w0. -/
structure St (w0 w : World) (tb mb : Nat) (N : List Nd) (rs : List (Value × List Int)) : Prop where
  tab : ∃ nv, TabX w w0.heap.size tb mb nv N (rs.map (·.1))
  own : ∀ r ∈ rs, w.ownsRow w0.heap.size 26 1 r.1 r.2.length (cs .i64 r.2)
  apart : rs.Pairwise fun r s => ∀ g, r.1.ownBlock = some g → s.1.ownBlock ≠ some g
  bel : Below w0.heap.size w0 w

theorem St.keep {w0 w w' : World} {tb mb : Nat} {N : List Nd} {rs : List (Value × List Int)} (h : St w0 w tb mb N rs) (hb : Below w.heap.size w w') : St w0 w' tb mb N rs := by
  obtain ⟨nv, ht⟩ := h.tab
  exact ⟨⟨nv, ht.keep hb⟩, (fun r hr => own_below (h.own r hr) hb), h.apart, h.bel.trans (hb.mono h.bel.size)⟩
theorem St.perm {w0 w : World} {tb mb : Nat} {N : List Nd} {rs us : List (Value × List Int)} (h : St w0 w tb mb N rs) (hp : rs.Perm us) : St w0 w tb mb N us := by
  obtain ⟨nv, ht⟩ := h.tab
  refine ⟨⟨nv, ht.sub fun u hu => ?_⟩, (fun r hr => h.own r (hp.mem_iff.2 hr)), (hp.pairwise_iff (fun {a b} hab g hg e => hab g e hg)).1 h.apart, h.bel⟩
  obtain ⟨r, hr, rfl⟩ := List.mem_map.1 hu
  exact List.mem_map.2 ⟨r, hp.mem_iff.2 hr, rfl⟩
theorem St.more {w0 w : World} {tb mb : Nat} {N : List Nd} {rs : List (Value × List Int)} (h : St w0 w tb mb N rs) : St w0 w tb mb N ((.slice none 0 0, []) :: rs) := by
  obtain ⟨nv, ht⟩ := h.tab
  refine ⟨⟨nv, ht.more⟩, (fun r hr => ?_), List.pairwise_cons.2 ⟨(fun s _ g hg => by cases hg), h.apart⟩, h.bel⟩
  rcases List.mem_cons.1 hr with rfl | hr
  · exact World.ownsRow_nil _ _ _ _
  · exact h.own r hr
theorem St.grow {w0 w w' : World} {tb mb : Nat} {N : List Nd} {rs : List (Value × List Int)} {v v' : Value} {xs ys : List Int} (h : St w0 w tb mb N ((v, xs) :: rs)) (hg : w.grownBy w' v.ownBlock) {n : Nat} (ho : w'.ownsRow w0.heap.size 26 1 v' n (cs .i64 ys)) (hn : n = ys.length)
    (hl : v'.ownBlock = v.ownBlock ∨ v'.ownBlock = some w.heap.size) : St w0 w' tb mb N ((v', ys) :: rs) := by
  obtain ⟨nv, ht⟩ := h.tab
  have hv := h.own (v, xs) (List.mem_cons_self)
  obtain ⟨hp1, hp2⟩ := List.pairwise_cons.1 h.apart
  subst hn
  refine ⟨⟨nv, (ht.grown (List.mem_cons_self) hv hg hl).sub fun u hu => ?_⟩, (fun r hr => ?_), List.pairwise_cons.2 ⟨(fun s hs g hgv => ?_), hp2⟩, h.bel.trans (grown_below hv h.bel.size hg)⟩
  · rcases List.mem_cons.1 hu with rfl | hu
    · exact List.mem_cons_self
    · exact List.mem_cons_of_mem _ (List.mem_cons_of_mem _ hu)
  · rcases List.mem_cons.1 hr with rfl | hr
    · exact ho
    · exact own_grown (h.own r (List.mem_cons_of_mem _ hr)) (fun g hgr e => hp1 r hr g e hgr) hg
  · rcases hl with e | e
    · exact hp1 s hs g (by rw [← e]; exact hgv)
    · rw [e] at hgv; cases hgv
      intro e2
      have := ((h.own s (List.mem_cons_of_mem _ hs)).lt _ e2).2
      omega
set_option maxRecDepth 20000 in
theorem St.secret {w0 w : World} {tb mb : Nat} {N : List Nd} {rs : List (Value × List Int)} (h : St w0 w tb mb N rs) (hroom : N.length < 65536) {z : Int} (hz : (N.length : Int) + 1 = z) :
    Calls Try.prog 7 #[.pointer (some ⟨tb, 0, none⟩)] w fun e w' => e = .returned (.int .i64 z) ∧ St w0 w' tb mb (N ++ [secretNd]) rs := by
  obtain ⟨nv, ht⟩ := h.tab
  refine (ht.secret hroom).mono fun e w' ⟨e1, nv', h2, h4, _⟩ => ?_
  exact ⟨by rw [← hz]; exact e1, ⟨nv', h2⟩, (fun r hr => ht.at.own32 h4 (h.own r hr)), h.apart, h.bel.trans (ht.at.below h4)⟩
set_option maxRecDepth 20000 in
theorem St.make {w0 w : World} {tb mb : Nat} {N : List Nd} {rs : List (Value × List Int)} (h : St w0 w tb mb N rs) (hroom : N.length < 65536) {z : Int} (hz : (N.length : Int) + 1 = z) (k : Int) {pv : Value} {ps qs : List Int} (hp : Rd .i64 w pv ps) (hl : ps.length ≤ 1000000) (hf : fitsN N k ps = true) (hq : mkN N k ps = qs) (hi : idxN 1 N (k, ByteArray.empty, qs) = none) :
    Calls Try.prog 8 #[.pointer (some ⟨tb, 0, none⟩), .int .i64 k, pv] w fun e w' => e = .returned (.int .i64 z) ∧ St w0 w' tb mb (N ++ [(k, ByteArray.empty, qs)]) rs := by
  obtain ⟨nv, ht⟩ := h.tab
  refine (ht.make (fun v hv g hg => ?_) k hp hl hf hroom h.bel.size).mono fun e w' hm => ?_
  · obtain ⟨r, hr, rfl⟩ := List.mem_map.1 hv
    exact ((h.own r hr).lt g hg).2
  · rw [hq] at hm
    obtain ⟨e1, nv', h2, h4, _⟩ := hm.new hi
    exact ⟨by rw [← hz]; exact e1, ⟨nv', h2⟩, (fun r hr => ht.at.own32 h4 (h.own r hr)), h.apart, h.bel.trans (ht.at.below h4)⟩
set_option maxRecDepth 20000 in
theorem St.again {w0 w : World} {tb mb : Nat} {N : List Nd} {rs : List (Value × List Int)} (h : St w0 w tb mb N rs) (hroom : N.length < 65536) (k : Int) {pv : Value} {ps qs : List Int} (hp : Rd .i64 w pv ps) (hl : ps.length ≤ 1000000) (hf : fitsN N k ps = true) (hq : mkN N k ps = qs) {z : Int} (hi : idxN 1 N (k, ByteArray.empty, qs) = some z) :
    Calls Try.prog 8 #[.pointer (some ⟨tb, 0, none⟩), .int .i64 k, pv] w fun e w' => e = .returned (.int .i64 z) ∧ St w0 w' tb mb N rs := by
  obtain ⟨nv, ht⟩ := h.tab
  refine (ht.make (fun v hv g hg => ?_) k hp hl hf hroom h.bel.size).mono fun e w' hm => ?_
  · obtain ⟨r, hr, rfl⟩ := List.mem_map.1 hv
    exact ((h.own r hr).lt g hg).2
  · rw [hq] at hm
    obtain ⟨e1, hb⟩ := hm.old hi
    exact ⟨e1, h.keep hb⟩
#print axioms St.again
end Go.Proofs.Ytmplcibaoanlnaa
