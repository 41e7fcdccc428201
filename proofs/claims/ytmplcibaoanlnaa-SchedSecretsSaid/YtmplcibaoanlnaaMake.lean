/- Make tells the number of a term of parts; 0 of one that may not be. -/
import Derived.Test.YtmplcibaoanlnaaNumber
import Derived.Test.YtmplcibaoanlnaaShared
namespace Go.Proofs.Ytmplcibaoanlnaa
open Go Go.RowKit

/-- The parts of the term of number h. -/
def partsOf (L : List (Nd × Value)) (h : Int) : List Int := match L[(h - 1).toNat]? with
  | some p => p.1.2.2
  | none => []
/-- The parts that a term of kind k is made of. -/
def mk (L : List (Nd × Value)) (k : Int) (ps : List Int) : List Int :=
  if k = 8 then [min (ps.getD 0 0) ((partsOf L (ps.getD 1 0)).getD 0 0), max (ps.getD 0 0) ((partsOf L (ps.getD 1 0)).getD 0 0)] else ps

theorem Numbered.later {w w2 : World} {B tb mb : Nat} {nv : Value} {L : List (Nd × Value)} {p : Nd × Value} {c : Option Int} {e : Ending} {w' : World} (hb : Below w.heap.size w w2) (h : Numbered w2 B tb mb nv L p c e w') : Numbered w B tb mb nv L p c e w' := by
  cases c with
  | some c => exact ⟨h.1, hb.trans (h.2.mono hb.size)⟩
  | none =>
    obtain ⟨h1, nv', h2, h3, h4⟩ := h
    exact ⟨h1, nv', h2, (Frm.of_below hb).trans (Moved.refl _ _) h3, (Moved.refl w nv).trans hb.size h4⟩

theorem Numbered.val {w : World} {B tb mb : Nat} {nv : Value} {L : List (Nd × Value)} {p : Nd × Value} {c : Option Int} {e : Ending} {w' : World} (h : Numbered w B tb mb nv L p c e w') : ∃ n, e = .returned (.int .i64 n) := by
  cases c with
  | some c => exact ⟨c, h.1⟩
  | none => exact ⟨_, h.1⟩

/-- What Make leaves, of parts that fit. -/
def Made (w : World) (B tb mb : Nat) (nv : Value) (L : List (Nd × Value)) (k : Int) (ps : List Int) (e : Ending) (w' : World) : Prop :=
  ∃ pv, Numbered w B tb mb nv L ((k, ByteArray.empty, mk L k ps), pv) (idx L k ByteArray.empty (pad (mk L k ps))) e w'

theorem askL_kind {k : Int} {n : Nat} {l : List Int} (h : askL k n = some l) : 3 ≤ k ∧ k ≤ 10 ∧ (l.length = n → n ≤ 16) ∧ (k = 7 → l.length = 1) ∧ (k = 8 → l = [2, 7]) := by
  unfold askL at h
  split at h
  · rename_i e; subst e
    split at h
    · cases h
    · exact ⟨by decide, by decide, fun _ => by omega, (fun e => by cases e), (fun e => by cases e)⟩
  · split at h
    · rename_i e; subst e; cases h; exact ⟨by decide, by decide, (fun e => by simp at e; omega), (fun e => by cases e), (fun e => by cases e)⟩
    · split at h
      · rename_i e; subst e; cases h; exact ⟨by decide, by decide, (fun e => by simp at e; omega), (fun e => by cases e), (fun e => by cases e)⟩
      · split at h
        · rename_i e
          cases h
          refine ⟨by omega, by omega, (fun e => by simp at e; omega), (fun e' => by omega), (fun e' => by omega)⟩
        · split at h
          · rename_i e; subst e; cases h; exact ⟨by decide, by decide, (fun e => by simp at e; omega), (fun _ => rfl), (fun e => by cases e)⟩
          · split at h
            · rename_i e; subst e; cases h; exact ⟨by decide, by decide, (fun e => by simp at e; omega), (fun e => by cases e), (fun _ => rfl)⟩
            · split at h
              · rename_i e; subst e; cases h; exact ⟨by decide, by decide, (fun e => by simp at e; omega), (fun e => by cases e), (fun e => by cases e)⟩
              · cases h

/-- What stands behind a kind that is told. -/
theorem kind_node {w : World} {B tb mb : Nat} {nv : Value} {L : List (Nd × Value)} {f : Int → ByteArray → List Int → Option Int} (h : Tbl w B tb mb nv L f) {p k : Int} (hk : kindOf L p = k) (hk0 : k ≠ 0) : ∃ (q : Nat) (hq : q < L.length), p = (q : Int) + 1 ∧ L[q].1.1 = k ∧ NdOk L[q].1 := by
  unfold kindOf at hk
  split at hk
  · exact absurd hk.symm hk0
  · rename_i hp
    cases e : L[(p - 1).toNat]? with
    | none => rw [e] at hk; exact absurd hk.symm hk0
    | some n =>
      rw [e] at hk
      obtain ⟨hq, hn⟩ := List.getElem?_eq_some_iff.1 e
      exact ⟨(p - 1).toNat, hq, by omega, by rw [hn]; exact hk, h.ok _ (List.getElem_mem hq)⟩

/-- The made node is one. -/
theorem mk_ok {w : World} {B tb mb : Nat} {nv : Value} {L : List (Nd × Value)} {f : Int → ByteArray → List Int → Option Int} (h : Tbl w B tb mb nv L f) {k : Int} {ps : List Int} (hf : Fits L k ps) : NdOk (k, ByteArray.empty, mk L k ps) := by
  obtain ⟨l, h1, h2, h3⟩ := hf
  obtain ⟨k1, k2, k3, k4, k5⟩ := askL_kind h1
  have hn := k3 h2
  have hs := h.small
  refine ⟨wf_small k (by omega) (by omega), Nat.zero_le _, ?_, ?_, ?_⟩
  · show (mk L k ps).length ≤ 16
    unfold mk
    split
    · simp
    · exact hn
  · show ∀ p ∈ mk L k ps, _
    unfold mk
    split
    · rename_i e
      have hl := k5 e
      subst hl
      have hlen : ps.length = 2 := by rw [← h2]; rfl
      obtain ⟨⟨a1, a2⟩, a3⟩ := h3 0 (by omega)
      obtain ⟨⟨b1, b2⟩, b3⟩ := h3 1 (by omega)
      simp only [List.getD_cons_succ, List.getD_cons_zero] at b3
      rcases b3 with b3 | b3
      · cases b3
      · obtain ⟨q, hq, e1, e2, e3⟩ := kind_node h b3.symm (by decide)
        have hpl := e3.2.2.2.2 e2
        obtain ⟨o, ho⟩ := List.length_eq_one_iff.1 hpl
        have hob := e3.2.2.2.1 o (by rw [ho]; simp)
        have hpo : partsOf L (ps.getD 1 0) = [o] := by
          unfold partsOf
          rw [e1]
          simp [hq, ho]
        rw [hpo]
        intro p hp
        simp only [List.getD_cons_zero, List.mem_cons, List.not_mem_nil, or_false] at hp
        rcases hp with rfl | rfl
        · omega
        · omega
    · intro p hp
      obtain ⟨j, hj, e⟩ := List.mem_iff_getElem.1 hp
      obtain ⟨⟨a1, a2⟩, _⟩ := h3 j hj
      have : ps.getD j 0 = p := by simp [hj, e]
      omega
  · intro e
    show (mk L k ps).length = 1
    have e' : k = 7 := e
    unfold mk
    rw [if_neg (by omega), ← h2]
    exact k4 e'

set_option maxRecDepth 20000 in
theorem make_nil {w : World} {k : Int} {ao : Option Addr} {n cap : Nat} : Calls Try.prog 8 #[.pointer none, .int .i64 k, .slice ao n cap] w fun e w' => e = .returned (.int .i64 0) ∧ w = w' := by
  go_enter Try.func8, Try.ntmps8
  go_wp2_with fail
  go_ret
  exact ⟨rfl, rfl⟩

set_option maxHeartbeats 1000000 in
set_option maxRecDepth 20000 in
theorem make_no {w : World} {B tb mb : Nat} {nv : Value} {L : List (Nd × Value)} {f : Int → ByteArray → List Int → Option Int} (h : Tbl w B tb mb nv L f) (k : Int) {pv : Value} {ps : List Int} (hp : Rd .i64 w pv ps) (hl : ps.length ≤ 1000000) (hf : ¬ Fits L k ps) :
    Calls Try.prog 8 #[.pointer (some ⟨tb, 0, none⟩), .int .i64 k, pv] w fun e w' => e = .returned (.int .i64 0) ∧ Below w.heap.size w w' := by
  have hF := fits_any h k hp hl
  have HF := Lib.hid hf
  clear h hp hf
  go_enter Try.func8, Try.ntmps8
  go_wp2_with fail
  refine hF.mono ?_
  rintro e w1 ⟨b, rfl, hb, hb1⟩
  obtain rfl : b = false := by
    cases b with
    | false => rfl
    | true => exact absurd (hb.1 rfl) HF.out
  clear hb
  go_wp2_with fail
  go_ret
  exact ⟨rfl, hb1⟩

set_option maxHeartbeats 2000000 in
set_option maxRecDepth 20000 in
theorem make_any {w : World} {B tb mb : Nat} {nv : Value} {L : List (Nd × Value)} (h : Tbl w B tb mb nv L (idx L)) (k : Int) {pv : Value} {ps : List Int} (hp : Rd .i64 w pv ps) (hl : ps.length ≤ 1000000) (hf : Fits L k ps) (hroom : L.length < 65536) (hB : B ≤ w.heap.size) :
    Calls Try.prog 8 #[.pointer (some ⟨tb, 0, none⟩), .int .i64 k, pv] w fun e w' => Made w B tb mb nv L k ps e w' := by
  have hF := fits_any h k hp hl
  have hok := mk_ok h hf
  have HF := Lib.hid hf
  have HR := Lib.hid hroom
  obtain ⟨l, h1, h2, h3⟩ := hf
  obtain ⟨k1, k2, k3, k4, k5⟩ := askL_kind h1
  have hk2 : k ≠ 2 := by omega
  have HK2 := Lib.hid hk2
  by_cases h8 : k = 8
  · have hl8 := k5 h8
    subst hl8
    have hlen : ps.length = 2 := by rw [← h2]; rfl
    obtain ⟨⟨b1, b2⟩, b3⟩ := h3 1 (by omega)
    simp only [List.getD_cons_succ, List.getD_cons_zero] at b3
    have b4 : kindOf L (ps.getD 1 0) = 7 := by
      rcases b3 with b3 | b3
      · cases b3
      · exact b3.symm
    obtain ⟨q, hq, e1, e2, e3⟩ := kind_node h b4 (by decide)
    obtain ⟨o, ho⟩ := List.length_eq_one_iff.1 (e3.2.2.2.2 e2)
    have hpo : partsOf L (ps.getD 1 0) = [o] := by
      unfold partsOf
      rw [e1]
      simp [hq, ho]
    have hmk : mk L k ps = [min (ps.getD 0 0) o, max (ps.getD 0 0) o] := by
      unfold mk
      rw [if_pos h8, hpo]
      rfl
    rw [hmk] at hok
    have HMK := Lib.hid hmk
    have HOK := Lib.hid hok
    have HO := Lib.hid ho
    subst h8
    rcases hp.cases with ⟨h0, _⟩ | ⟨b, off, c, rfl, _, hlc, hc9, _, hcell⟩
    · rw [h0] at hlen; simp at hlen
    · have hc0 := hcell 0 (by omega)
      have hc1 := hcell 1 (by omega)
      rw [e1] at hc1
      rw [hlen] at hp hF hlc ⊢
      rw [Nat.add_zero] at hc0
      have HH := Lib.hid h
      have HP := Lib.hid hp
      have HLN := Lib.hid hl
      clear hcell hmk hok ho h hp h1 h2 h3 k1 k2 k3 k4 k5 b1 b2 b3 b4 e2 e3 hpo hlen hl hroom hk2
      generalize ps.getD 0 0 = x at *
      go_enter Try.func8, Try.ntmps8
      go_wp2_with fail
      refine hF.mono ?_
      rintro e w1 ⟨b', rfl, hb', hb1⟩
      obtain rfl : b' = true := hb'.2 HF.out
      clear hb'
      go_wp2_with fail
      have hcl := clone_any (HP.out.below hb1) HLN.out
      refine hcl.mono ?_
      rintro e w2 ⟨v2, rfl, hown2, hb2⟩
      clear hcl
      have B2 := hb1.trans (hb2.mono hb1.size)
      have hc02 : w2.cell? ⟨b, off, none⟩ = some (.int .i64 x) := by rw [B2.cell (cell_lt hc0)]; exact hc0
      have hc12 : w2.cell? ⟨b, off + 1, none⟩ = some (.int .i64 ((q : Int) + 1)) := by rw [B2.cell (cell_lt hc1)]; exact hc1
      go_wp2_with fail
      go_still_tail 7, (by kernel_rfl)
      have hS := secrets_any (w := w2.drew) (HH.out.keep B2.drew) x q hq o HO.out
      go_wp2_with fail
      refine hS.mono ?_
      rintro e w3 ⟨v3, rfl, hown3, hb3⟩
      clear hS hc02 hc12
      obtain ⟨ao3, cap3, rfl, _, _⟩ := own_shape hown3
      have B3 : Below w.heap.size w w3 := B2.drew.trans (hb3.mono B2.size)
      have hN := number_any (w := w3) (HH.out.keep B3) 8 ByteArray.empty [min x o, max x o] _ HOK.out HK2.out (own_mono hown3 (Nat.le_trans hB B2.size)) HR.out
      go_wp2_with fail
      refine hN.mono ?_
      intro e w4 hn4
      obtain ⟨cN, rfl⟩ := hn4.val
      have HN4 := Lib.hid hn4
      clear hn4 hN
      go_wp2_with fail
      go_ret
      refine ⟨.slice ao3 2 cap3, ?_⟩
      rw [HMK.out]
      exact HN4.out.later B3
  · have hmk : mk L k ps = ps := by unfold mk; rw [if_neg h8]
    rw [hmk] at hok
    have HMK := Lib.hid hmk
    have HOK := Lib.hid hok
    have HH := Lib.hid h
    have HP := Lib.hid hp
    have HLN := Lib.hid hl
    have hb8 : (k == 8) = false := beq_eq_false_iff_ne.2 h8
    have hp' := hp
    obtain ⟨ao, cap, rfl, _⟩ := hp'
    clear hmk hok h hp h1 h2 h3 k1 k2 k3 k4 k5 hl hroom hk2 h8
    go_enter Try.func8, Try.ntmps8
    go_wp2_with fail
    refine hF.mono ?_
    rintro e w1 ⟨b', rfl, hb', hb1⟩
    obtain rfl : b' = true := hb'.2 HF.out
    clear hb'
    go_wp2_with fail
    have hcl := clone_any (HP.out.below hb1) HLN.out
    refine hcl.mono ?_
    rintro e w2 ⟨v2, rfl, hown2, hb2⟩
    clear hcl
    obtain ⟨ao3, cap3, rfl, _, _⟩ := own_shape hown2
    have B2 := hb1.trans (hb2.mono hb1.size)
    have hN := number_any (w := w2) (HH.out.keep B2) k ByteArray.empty ps _ HOK.out HK2.out (own_mono hown2 (Nat.le_trans hB hb1.size)) HR.out
    go_wp2_with fail
    refine hN.mono ?_
    intro e w4 hn4
    obtain ⟨cN, rfl⟩ := hn4.val
    have HN4 := Lib.hid hn4
    clear hn4 hN
    go_wp2_with fail
    go_ret
    refine ⟨.slice ao3 ps.length cap3, ?_⟩
    rw [HMK.out]
    exact HN4.out.later B2
#print axioms make_any
#print axioms make_no
end Go.Proofs.Ytmplcibaoanlnaa
