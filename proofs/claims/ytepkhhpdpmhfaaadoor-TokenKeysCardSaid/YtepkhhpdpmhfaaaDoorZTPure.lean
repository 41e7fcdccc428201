/- The table's answers as plain functions of its nodes alone; what Make does, in these words. -/
import Derived.Test.YtepkhhpdpmhfaaaDoorZTNumber
import Derived.Test.YtepkhhpdpmhfaaaDoorZTShared
namespace Go.Proofs.YtepkhhpdpmhfaaaDoor.T
open Go Go.RowKit

/-- The parts of the term of number h. -/
def partsOf (L : List (Nd × Value)) (h : Int) : List Int := match L[(h - 1).toNat]? with
  | some p => p.1.2.2
  | none => []
/-- The parts that a term of kind k is made of. -/
def mk (L : List (Nd × Value)) (k : Int) (ps : List Int) : List Int :=
  if k = 8 then [min (ps.getD 0 0) ((partsOf L (ps.getD 1 0)).getD 0 0), max (ps.getD 0 0) ((partsOf L (ps.getD 1 0)).getD 0 0)] else ps

theorem Numbered.later {w w2 : World} {B tb mb : Nat} {nv : Value} {L : List (Nd × Value)} {p : Nd × Value} {c : Option Int} {e : Ending} {w' : World} (hb : Below w.heap.size w w2) (h : Numbered w2 B tb mb nv L p c e w') : Numbered w B tb mb nv L p c e w' := by
  cases c with
  | some c => exact ⟨h.1, hb.trans (h.2.mono hb.size)⟩
  | none =>
    obtain ⟨h1, nv', h2, h3, h4⟩ := h
    exact ⟨h1, nv', h2, (Frm.of_below hb).trans (Moved.refl _ _) h3, (Moved.refl w nv).trans hb.size h4⟩

theorem Numbered.val {w : World} {B tb mb : Nat} {nv : Value} {L : List (Nd × Value)} {p : Nd × Value} {c : Option Int} {e : Ending} {w' : World} (h : Numbered w B tb mb nv L p c e w') : ∃ n, e = .returned (.int .i64 n) := by
  cases c with
  | some c => exact ⟨c, h.1⟩
  | none => exact ⟨_, h.1⟩

/-- What Make leaves, of parts that fit. -/
def Made (w : World) (B tb mb : Nat) (nv : Value) (L : List (Nd × Value)) (k : Int) (ps : List Int) (e : Ending) (w' : World) : Prop :=
  ∃ pv, Numbered w B tb mb nv L ((k, ByteArray.empty, mk L k ps), pv) (idx L k ByteArray.empty (pad (mk L k ps))) e w'

theorem askL_kind {k : Int} {n : Nat} {l : List Int} (h : askL k n = some l) : 3 ≤ k ∧ k ≤ 10 ∧ (l.length = n → n ≤ 16) ∧ (k = 7 → l.length = 1) ∧ (k = 8 → l = [2, 7]) := by
  unfold askL at h
  split at h
  · rename_i e; subst e
    split at h
    · cases h
    · exact ⟨by decide, by decide, fun _ => by omega, (fun e => by cases e), (fun e => by cases e)⟩
  · split at h
    · rename_i e; subst e; cases h; exact ⟨by decide, by decide, (fun e => by simp at e; omega), (fun e => by cases e), (fun e => by cases e)⟩
    · split at h
      · rename_i e; subst e; cases h; exact ⟨by decide, by decide, (fun e => by simp at e; omega), (fun e => by cases e), (fun e => by cases e)⟩
      · split at h
        · rename_i e
          cases h
          refine ⟨by omega, by omega, (fun e => by simp at e; omega), (fun e' => by omega), (fun e' => by omega)⟩
        · split at h
          · rename_i e; subst e; cases h; exact ⟨by decide, by decide, (fun e => by simp at e; omega), (fun _ => rfl), (fun e => by cases e)⟩
          · split at h
            · rename_i e; subst e; cases h; exact ⟨by decide, by decide, (fun e => by simp at e; omega), (fun e => by cases e), (fun _ => rfl)⟩
            · split at h
              · rename_i e; subst e; cases h; exact ⟨by decide, by decide, (fun e => by simp at e; omega), (fun e => by cases e), (fun e => by cases e)⟩
              · cases h

/-- What stands behind a kind that is told. -/
theorem kind_node {w : World} {B tb mb : Nat} {nv : Value} {L : List (Nd × Value)} {f : Int → ByteArray → List Int → Option Int} (h : Tbl w B tb mb nv L f) {p k : Int} (hk : kindOf L p = k) (hk0 : k ≠ 0) : ∃ (q : Nat) (hq : q < L.length), p = (q : Int) + 1 ∧ L[q].1.1 = k ∧ NdOk L[q].1 := by
  unfold kindOf at hk
  split at hk
  · exact absurd hk.symm hk0
  · rename_i hp
    cases e : L[(p - 1).toNat]? with
    | none => rw [e] at hk; exact absurd hk.symm hk0
    | some n =>
      rw [e] at hk
      obtain ⟨hq, hn⟩ := List.getElem?_eq_some_iff.1 e
      exact ⟨(p - 1).toNat, hq, by omega, by rw [hn]; exact hk, h.ok _ (List.getElem_mem hq)⟩

/-- The made node is one. -/
theorem mk_ok {w : World} {B tb mb : Nat} {nv : Value} {L : List (Nd × Value)} {f : Int → ByteArray → List Int → Option Int} (h : Tbl w B tb mb nv L f) {k : Int} {ps : List Int} (hf : Fits L k ps) : NdOk (k, ByteArray.empty, mk L k ps) := by
  obtain ⟨l, h1, h2, h3⟩ := hf
  obtain ⟨k1, k2, k3, k4, k5⟩ := askL_kind h1
  have hn := k3 h2
  have hs := h.small
  refine ⟨wf_small k (by omega) (by omega), Nat.zero_le _, ?_, ?_, ?_⟩
  · show (mk L k ps).length ≤ 16
    unfold mk
    split
    · simp
    · exact hn
  · show ∀ p ∈ mk L k ps, _
    unfold mk
    split
    · rename_i e
      have hl := k5 e
      subst hl
      have hlen : ps.length = 2 := by rw [← h2]; rfl
      obtain ⟨⟨a1, a2⟩, a3⟩ := h3 0 (by omega)
      obtain ⟨⟨b1, b2⟩, b3⟩ := h3 1 (by omega)
      simp only [List.getD_cons_succ, List.getD_cons_zero] at b3
      rcases b3 with b3 | b3
      · cases b3
      · obtain ⟨q, hq, e1, e2, e3⟩ := kind_node h b3.symm (by decide)
        have hpl := e3.2.2.2.2 e2
        obtain ⟨o, ho⟩ := List.length_eq_one_iff.1 hpl
        have hob := e3.2.2.2.1 o (by rw [ho]; simp)
        have hpo : partsOf L (ps.getD 1 0) = [o] := by
          unfold partsOf
          rw [e1]
          simp [hq, ho]
        rw [hpo]
        intro p hp
        simp only [List.getD_cons_zero, List.mem_cons, List.not_mem_nil, or_false] at hp
        rcases hp with rfl | rfl
        · omega
        · omega
    · intro p hp
      obtain ⟨j, hj, e⟩ := List.mem_iff_getElem.1 hp
      obtain ⟨⟨a1, a2⟩, _⟩ := h3 j hj
      have : ps.getD j 0 = p := by simp [hj, e]
      omega
  · intro e
    show (mk L k ps).length = 1
    have e' : k = 7 := e
    unfold mk
    rw [if_neg (by omega), ← h2]
    exact k4 e'

set_option maxRecDepth 20000 in
theorem make_nil {w : World} {k : Int} {ao : Option Addr} {n cap : Nat} : Calls Tryd.prog 28 #[.pointer none, .int .i64 k, .slice ao n cap] w fun e w' => e = .returned (.int .i64 0) ∧ w = w' := by
  go_enter Tryd.func28, Tryd.ntmps28
  go_wp2_with fail
  go_ret
  exact ⟨rfl, rfl⟩

set_option maxHeartbeats 1000000 in
set_option maxRecDepth 20000 in
theorem make_no {w : World} {B tb mb : Nat} {nv : Value} {L : List (Nd × Value)} {f : Int → ByteArray → List Int → Option Int} (h : Tbl w B tb mb nv L f) (k : Int) {pv : Value} {ps : List Int} (hp : Rd .i64 w pv ps) (hl : ps.length ≤ 1000000) (hf : ¬ Fits L k ps) :
    Calls Tryd.prog 28 #[.pointer (some ⟨tb, 0, none⟩), .int .i64 k, pv] w fun e w' => e = .returned (.int .i64 0) ∧ Below w.heap.size w w' := by
  have hF := fits_any h k hp hl
  have HF := Lib.hid hf
  clear h hp hf
  go_enter Tryd.func28, Tryd.ntmps28
  go_wp2_with fail
  refine hF.mono ?_
  rintro e w1 ⟨b, rfl, hb, hb1⟩
  obtain rfl : b = false := by
    cases b with
    | false => rfl
    | true => exact absurd (hb.1 rfl) HF.out
  clear hb
  go_wp2_with fail
  go_ret
  exact ⟨rfl, hb1⟩

set_option maxHeartbeats 2000000 in
set_option maxRecDepth 20000 in
theorem make_any {w : World} {B tb mb : Nat} {nv : Value} {L : List (Nd × Value)} (h : Tbl w B tb mb nv L (idx L)) (k : Int) {pv : Value} {ps : List Int} (hp : Rd .i64 w pv ps) (hl : ps.length ≤ 1000000) (hf : Fits L k ps) (hroom : L.length < 65536) (hB : B ≤ w.heap.size) :
    Calls Tryd.prog 28 #[.pointer (some ⟨tb, 0, none⟩), .int .i64 k, pv] w fun e w' => Made w B tb mb nv L k ps e w' := by
  have hF := fits_any h k hp hl
  have hok := mk_ok h hf
  have HF := Lib.hid hf
  have HR := Lib.hid hroom
  obtain ⟨l, h1, h2, h3⟩ := hf
  obtain ⟨k1, k2, k3, k4, k5⟩ := askL_kind h1
  have hk2 : k ≠ 2 := by omega
  have HK2 := Lib.hid hk2
  by_cases h8 : k = 8
  · have hl8 := k5 h8
    subst hl8
    have hlen : ps.length = 2 := by rw [← h2]; rfl
    obtain ⟨⟨b1, b2⟩, b3⟩ := h3 1 (by omega)
    simp only [List.getD_cons_succ, List.getD_cons_zero] at b3
    have b4 : kindOf L (ps.getD 1 0) = 7 := by
      rcases b3 with b3 | b3
      · cases b3
      · exact b3.symm
    obtain ⟨q, hq, e1, e2, e3⟩ := kind_node h b4 (by decide)
    obtain ⟨o, ho⟩ := List.length_eq_one_iff.1 (e3.2.2.2.2 e2)
    have hpo : partsOf L (ps.getD 1 0) = [o] := by
      unfold partsOf
      rw [e1]
      simp [hq, ho]
    have hmk : mk L k ps = [min (ps.getD 0 0) o, max (ps.getD 0 0) o] := by
      unfold mk
      rw [if_pos h8, hpo]
      rfl
    rw [hmk] at hok
    have HMK := Lib.hid hmk
    have HOK := Lib.hid hok
    have HO := Lib.hid ho
    subst h8
    rcases hp.cases with ⟨h0, _⟩ | ⟨b, off, c, rfl, _, hlc, hc9, _, hcell⟩
    · rw [h0] at hlen; simp at hlen
    · have hc0 := hcell 0 (by omega)
      have hc1 := hcell 1 (by omega)
      rw [e1] at hc1
      rw [hlen] at hp hF hlc ⊢
      rw [Nat.add_zero] at hc0
      have HH := Lib.hid h
      have HP := Lib.hid hp
      have HLN := Lib.hid hl
      clear hcell hmk hok ho h hp h1 h2 h3 k1 k2 k3 k4 k5 b1 b2 b3 b4 e2 e3 hpo hlen hl hroom hk2
      generalize ps.getD 0 0 = x at *
      go_enter Tryd.func28, Tryd.ntmps28
      go_wp2_with fail
      refine hF.mono ?_
      rintro e w1 ⟨b', rfl, hb', hb1⟩
      obtain rfl : b' = true := hb'.2 HF.out
      clear hb'
      go_wp2_with fail
      have hcl := clone_any (HP.out.below hb1) HLN.out
      refine hcl.mono ?_
      rintro e w2 ⟨v2, rfl, hown2, hb2⟩
      clear hcl
      have B2 := hb1.trans (hb2.mono hb1.size)
      have hc02 : w2.cell? ⟨b, off, none⟩ = some (.int .i64 x) := by rw [B2.cell (cell_lt hc0)]; exact hc0
      have hc12 : w2.cell? ⟨b, off + 1, none⟩ = some (.int .i64 ((q : Int) + 1)) := by rw [B2.cell (cell_lt hc1)]; exact hc1
      go_wp2_with fail
      go_still_tail 7, (by kernel_rfl)
      have hS := secrets_any (w := w2.drew) (HH.out.keep B2.drew) x q hq o HO.out
      go_wp2_with fail
      refine hS.mono ?_
      rintro e w3 ⟨v3, rfl, hown3, hb3⟩
      clear hS hc02 hc12
      obtain ⟨ao3, cap3, rfl, _, _⟩ := own_shape hown3
      have B3 : Below w.heap.size w w3 := B2.drew.trans (hb3.mono B2.size)
      have hN := number_any (w := w3) (HH.out.keep B3) 8 ByteArray.empty [min x o, max x o] _ HOK.out HK2.out (own_mono hown3 (Nat.le_trans hB B2.size)) HR.out
      go_wp2_with fail
      refine hN.mono ?_
      intro e w4 hn4
      obtain ⟨cN, rfl⟩ := hn4.val
      have HN4 := Lib.hid hn4
      clear hn4 hN
      go_wp2_with fail
      go_ret
      refine ⟨.slice ao3 2 cap3, ?_⟩
      rw [HMK.out]
      exact HN4.out.later B3
  · have hmk : mk L k ps = ps := by unfold mk; rw [if_neg h8]
    rw [hmk] at hok
    have HMK := Lib.hid hmk
    have HOK := Lib.hid hok
    have HH := Lib.hid h
    have HP := Lib.hid hp
    have HLN := Lib.hid hl
    have hb8 : (k == 8) = false := beq_eq_false_iff_ne.2 h8
    have hp' := hp
    obtain ⟨ao, cap, rfl, _⟩ := hp'
    clear hmk hok h hp h1 h2 h3 k1 k2 k3 k4 k5 hl hroom hk2 h8
    go_enter Tryd.func28, Tryd.ntmps28
    go_wp2_with fail
    refine hF.mono ?_
    rintro e w1 ⟨b', rfl, hb', hb1⟩
    obtain rfl : b' = true := hb'.2 HF.out
    clear hb'
    go_wp2_with fail
    have hcl := clone_any (HP.out.below hb1) HLN.out
    refine hcl.mono ?_
    rintro e w2 ⟨v2, rfl, hown2, hb2⟩
    clear hcl
    obtain ⟨ao3, cap3, rfl, _, _⟩ := own_shape hown2
    have B2 := hb1.trans (hb2.mono hb1.size)
    have hN := number_any (w := w2) (HH.out.keep B2) k ByteArray.empty ps _ HOK.out HK2.out (own_mono hown2 (Nat.le_trans hB hb1.size)) HR.out
    go_wp2_with fail
    refine hN.mono ?_
    intro e w4 hn4
    obtain ⟨cN, rfl⟩ := hn4.val
    have HN4 := Lib.hid hn4
    clear hn4 hN
    go_wp2_with fail
    go_ret
    refine ⟨.slice ao3 ps.length cap3, ?_⟩
    rw [HMK.out]
    exact HN4.out.later B2
#print axioms make_any
#print axioms make_no
end Go.Proofs.YtepkhhpdpmhfaaaDoor.T
namespace Go.Proofs.YtepkhhpdpmhfaaaDoor.T
open Go Go.RowKit

/-- The nodes of a table. -/
def nds (L : List (Nd × Value)) : List Nd := L.map (·.1)
theorem nds_app (L : List (Nd × Value)) (p : Nd × Value) : nds (L ++ [p]) = nds L ++ [p.1] := by simp [nds]
theorem nds_len (L : List (Nd × Value)) : (nds L).length = L.length := by simp [nds]
def idxN (i : Int) (N : List Nd) (n : Nd) : Option Int :=
  match N with
  | [] => none
  | m :: r => if m.1 = n.1 ∧ m.2.1 = n.2.1 ∧ pad m.2.2 = pad n.2.2 ∧ n.1 ≠ 2 then some i else idxN (i + 1) r n
theorem idx_nds (L : List (Nd × Value)) (n : Nd) : idx L n.1 n.2.1 (pad n.2.2) = idxN 1 (nds L) n := by
  have : ∀ (L : List (Nd × Value)) (i : Int), idxF i L n.1 n.2.1 (pad n.2.2) = idxN i (nds L) n := by
    intro L
    induction L with
    | nil => intro i; rfl
    | cons p r ih =>
      intro i
      simp only [idxF, nds, List.map_cons, idxN]
      rw [ih]
      rfl
  exact this L 1
def kindN (N : List Nd) (h : Int) : Int := if h < 1 then 0 else match N[(h - 1).toNat]? with
  | some p => p.1
  | none => 0
theorem kind_nds (L : List (Nd × Value)) (h : Int) : kindOf L h = kindN (nds L) h := by
  unfold kindOf kindN nds
  rw [List.getElem?_map]
  cases L[(h - 1).toNat]? <;> rfl
def partsN (N : List Nd) (h : Int) : List Int := match N[(h - 1).toNat]? with
  | some p => p.2.2
  | none => []
theorem parts_nds (L : List (Nd × Value)) (h : Int) : partsOf L h = partsN (nds L) h := by
  unfold partsOf partsN nds
  rw [List.getElem?_map]
  cases L[(h - 1).toNat]? <;> rfl
def mkN (N : List Nd) (k : Int) (ps : List Int) : List Int :=
  if k = 8 then [min (ps.getD 0 0) ((partsN N (ps.getD 1 0)).getD 0 0), max (ps.getD 0 0) ((partsN N (ps.getD 1 0)).getD 0 0)] else ps
theorem mk_nds (L : List (Nd × Value)) (k : Int) (ps : List Int) : mk L k ps = mkN (nds L) k ps := by
  unfold mk mkN
  rw [parts_nds]
def okN (N : List Nd) (a p : Int) : Bool := (decide (1 ≤ p) && decide (p ≤ (N.length : Int))) && (decide (a = 0) || decide (a = kindN N p))
def fitsN (N : List Nd) (k : Int) (ps : List Int) : Bool := match askL k ps.length with
  | none => false
  | some l => decide (l.length = ps.length) && (List.range ps.length).all fun j => okN N (l.getD j 0) (ps.getD j 0)
theorem fits_nds (L : List (Nd × Value)) (k : Int) (ps : List Int) : Fits L k ps ↔ fitsN (nds L) k ps = true := by
  unfold Fits fitsN
  cases askL k ps.length with
  | none => exact ⟨(fun ⟨l, h, _⟩ => by cases h), (fun h => by cases h)⟩
  | some l =>
    have hok : ∀ a p, OkAt L a p ↔ okN (nds L) a p = true := fun a p => by
      unfold OkAt okN
      rw [kind_nds, nds_len]
      simp
    constructor
    · rintro ⟨l', h1, h2, h3⟩
      cases h1
      simp only [Bool.and_eq_true, decide_eq_true_eq, List.all_eq_true, List.mem_range]
      exact ⟨h2, fun j hj => (hok _ _).1 (h3 j hj)⟩
    · intro h
      simp only [Bool.and_eq_true, decide_eq_true_eq, List.all_eq_true, List.mem_range] at h
      exact ⟨l, rfl, h.1, fun j hj => (hok _ _).2 (h.2 j hj)⟩

/-- The table, told by its nodes alone: its pointer is p; the blocks from B on hold it. -/
structure TabAt (w : World) (B : Nat) (tb mb : Nat) (nv : Value) (N : List Nd) : Prop where
  ex : ∃ L, Tbl w B tb mb nv L (idx L) ∧ nds L = N

theorem TabAt.keep {w w' : World} {B tb mb : Nat} {nv : Value} {N : List Nd} (h : TabAt w B tb mb nv N) (hb : Below w.heap.size w w') : TabAt w' B tb mb nv N := by
  obtain ⟨L, h1, h2⟩ := h.ex
  exact ⟨L, h1.keep hb, h2⟩
/-- What a call that numbers a node leaves. -/
def Put (w : World) (B tb mb : Nat) (nv : Value) (N : List Nd) (n : Nd) (e : Ending) (w' : World) : Prop :=
  match idxN 1 N n with
  | some c => e = .returned (.int .i64 c) ∧ Below w.heap.size w w'
  | none => e = .returned (.int .i64 ((N.length : Int) + 1)) ∧ ∃ nv', TabAt w' B tb mb nv' (N ++ [n]) ∧ Frm tb mb nv w w' ∧ Moved w nv nv'

theorem Numbered.put {w : World} {B tb mb : Nat} {nv : Value} {L : List (Nd × Value)} {n : Nd} {pv : Value} {e : Ending} {w' : World} (h : Numbered w B tb mb nv L (n, pv) (idx L n.1 n.2.1 (pad n.2.2)) e w') : Put w B tb mb nv (nds L) n e w' := by
  rw [idx_nds] at h
  unfold Put
  cases hc : idxN 1 (nds L) n with
  | some c => rw [hc] at h; exact h
  | none =>
    rw [hc] at h
    obtain ⟨h1, nv', h2, h3, h4⟩ := h
    rw [nds_len]
    exact ⟨h1, nv', ⟨_, h2, nds_app L _⟩, h3, h4⟩

set_option maxRecDepth 20000 in
theorem Tab.make {w : World} {B tb mb : Nat} {nv : Value} {N : List Nd} (h : TabAt w B tb mb nv N) (k : Int) {pv : Value} {ps : List Int} (hp : Rd .i64 w pv ps) (hl : ps.length ≤ 1000000) (hf : fitsN N k ps = true) (hroom : N.length < 65536) (hB : B ≤ w.heap.size) :
    Calls Tryd.prog 28 #[.pointer (some ⟨tb, 0, none⟩), .int .i64 k, pv] w fun e w' => Put w B tb mb nv N (k, ByteArray.empty, mkN N k ps) e w' := by
  obtain ⟨L, h1, rfl⟩ := h.ex
  refine (make_any h1 k hp hl ((fits_nds L k ps).2 hf) (by rw [← nds_len]; exact hroom) hB).mono fun e w' hm => ?_
  obtain ⟨pv', hm⟩ := hm
  rw [← mk_nds]
  exact Numbered.put (n := (k, ByteArray.empty, mk L k ps)) hm
set_option maxRecDepth 20000 in
theorem Tab.make_no {w : World} {B tb mb : Nat} {nv : Value} {N : List Nd} (h : TabAt w B tb mb nv N) (k : Int) {pv : Value} {ps : List Int} (hp : Rd .i64 w pv ps) (hl : ps.length ≤ 1000000) (hf : fitsN N k ps = false) :
    Calls Tryd.prog 28 #[.pointer (some ⟨tb, 0, none⟩), .int .i64 k, pv] w fun e w' => e = .returned (.int .i64 0) ∧ Below w.heap.size w w' := by
  obtain ⟨L, h1, rfl⟩ := h.ex
  exact Go.Proofs.YtepkhhpdpmhfaaaDoor.T.make_no h1 k hp hl (fun h => by rw [(fits_nds L k ps).1 h] at hf; cases hf)
set_option maxRecDepth 20000 in
theorem Tab.secret {w : World} {B tb mb : Nat} {nv : Value} {N : List Nd} (h : TabAt w B tb mb nv N) (hroom : N.length < 65536) :
    Calls Tryd.prog 6 #[.pointer (some ⟨tb, 0, none⟩)] w fun e w' => e = .returned (.int .i64 ((N.length : Int) + 1)) ∧ ∃ nv', TabAt w' B tb mb nv' (N ++ [secretNd]) ∧ Frm tb mb nv w w' ∧ Moved w nv nv' := by
  obtain ⟨L, h1, rfl⟩ := h.ex
  refine (secret_any h1 (by rw [← nds_len]; exact hroom)).mono fun e w' ⟨e1, nv', h2, h3, h4⟩ => ?_
  rw [nds_len]
  exact ⟨e1, nv', ⟨_, h2, nds_app L _⟩, h3, h4⟩
set_option maxRecDepth 20000 in
theorem Tab.size {w : World} {B tb mb : Nat} {nv : Value} {N : List Nd} (h : TabAt w B tb mb nv N) : Calls Tryd.prog 48 #[.pointer (some ⟨tb, 0, none⟩)] w fun e w' => e = .returned (.int .i64 (N.length : Int)) ∧ w = w' := by
  obtain ⟨L, h1, rfl⟩ := h.ex
  rw [nds_len]; exact size_any h1
set_option maxRecDepth 20000 in
theorem Tab.new (w : World) : Calls Tryd.prog 5 #[] w fun e w' => e = .returned (.pointer (some ⟨w.heap.size + 1, 0, none⟩)) ∧ TabAt w' w.heap.size (w.heap.size + 1) w.heap.size (.slice none 0 0) [] ∧ Below w.heap.size w w' :=
  (new_any w).mono fun _ _ ⟨h1, h2, h3⟩ => ⟨h1, ⟨[], h2, rfl⟩, h3⟩
theorem TabAt.below {w w' : World} {B tb mb : Nat} {nv : Value} {N : List Nd} (h : TabAt w B tb mb nv N) (hf : Frm tb mb nv w w') : Below B w w' := by
  obtain ⟨L, h1, _⟩ := h.ex
  exact h1.below hf
theorem TabAt.own32 {w w' : World} {B tb mb : Nat} {nv : Value} {N : List Nd} (h : TabAt w B tb mb nv N) (hf : Frm tb mb nv w w') {base size : Nat} {v : Value} {n : Nat} {xs : List Value} (ho : w.ownsRow base 27 size v n xs) : w'.ownsRow base 27 size v n xs := by
  obtain ⟨L, h1, _⟩ := h.ex
  exact h1.own32 hf ho
theorem Put.new {w : World} {B tb mb : Nat} {nv : Value} {N : List Nd} {n : Nd} {e : Ending} {w' : World} (h : Put w B tb mb nv N n e w') (hc : idxN 1 N n = none) : e = .returned (.int .i64 ((N.length : Int) + 1)) ∧ ∃ nv', TabAt w' B tb mb nv' (N ++ [n]) ∧ Frm tb mb nv w w' ∧ Moved w nv nv' := by
  unfold Put at h; rw [hc] at h; exact h
theorem Put.old {w : World} {B tb mb : Nat} {nv : Value} {N : List Nd} {n : Nd} {e : Ending} {w' : World} (h : Put w B tb mb nv N n e w') {c : Int} (hc : idxN 1 N n = some c) : e = .returned (.int .i64 c) ∧ Below w.heap.size w w' := by
  unfold Put at h; rw [hc] at h; exact h
#print axioms Tab.make
end Go.Proofs.YtepkhhpdpmhfaaaDoor.T
