/- The document's own functions public, known, makes: what they tell of the table's nodes. -/
import Derived.Test.YtinncmljffcobaaZKFd1
import Derived.Deep.QuietTactic
import Derived.BigQuiet
namespace Go.Proofs.Ytinncmljffcobaa
open Go Go.RowKit

/-- The document's table at rb, of the nodes N. -/
structure Rb (B : Nat) (w : World) (rb : Nat) (N : List Nd) : Prop where
  ex : ∃ nv L, RTbl w B rb nv L ∧ nds L = N
theorem Two.rb {w0 w : World} {tb mb rb : Nat} {N : List Nd} (h : Two w0 w tb mb rb N) : Rb w0.heap.size w rb N := ⟨h.ref⟩
theorem Rb.keep {B : Nat} {w w' : World} {rb : Nat} {N : List Nd} (h : Rb B w rb N) (hb : Below w.heap.size w w') : Rb B w' rb N := by
  obtain ⟨nv, L, h1, h2⟩ := h.ex
  exact ⟨nv, L, h1.keep hb, h2⟩
/-- Where its nodes lie. -/
theorem Rb.len {B : Nat} {w : World} {rb : Nat} {N : List Nd} (h : Rb B w rb N) : ∃ a c, w.cell? ⟨rb, 0, none⟩ = some (.slice a N.length c) ∧ N.length ≤ 65536 := by
  obtain ⟨rv, L, r1, r2⟩ := h.ex
  obtain ⟨a, c, rfl, _, _⟩ := own_shape r1.nodes
  have hl : L.length = N.length := by have := congrArg List.length r2; simpa [nds] using this
  exact ⟨a, c, by rw [← hl]; exact (cell_of_row _ rb 0 _ _ (0, 0) r1.tab).trans rfl, by rw [← hl]; exact r1.small⟩
theorem Rb.at {B : Nat} {w : World} {rb : Nat} {N : List Nd} (h : Rb B w rb N) {q : Nat} (hq : q < N.length) : ∃ g c a cp t, w.cell? ⟨rb, 0, none⟩ = some (.slice (some ⟨g, 0, none⟩) N.length c) ∧ N.length ≤ c ∧ c ≤ 9223372036854775807 ∧
    w.cell? ⟨g, q * 3, none⟩ = some (.int .i64 (kindN N ((q : Int) + 1))) ∧ w.cell? ⟨g, q * 3 + 1, none⟩ = some (.string t) ∧ w.cell? ⟨g, q * 3 + 2, none⟩ = some (.slice a (partsN N ((q : Int) + 1)).length cp) ∧
    Rd .i64 w (.slice a (partsN N ((q : Int) + 1)).length cp) (partsN N ((q : Int) + 1)) := by
  obtain ⟨nv, L, h1, rfl⟩ := h.ex
  have hl : L.length = (nds L).length := by simp [nds]
  obtain ⟨g, c, rfl, c1, c2, c3, c4, c5⟩ := row_cell h1.nodes q (by omega)
  have hk := kindN_in L q (by omega)
  have hp : partsN (nds L) ((q : Int) + 1) = L[q].1.2.2 := by
    unfold partsN nds
    rw [show ((q : Int) + 1 - 1).toNat = q from by omega, List.getElem?_map, List.getElem?_eq_getElem (by omega)]
    rfl
  have ho := h1.parts L[q] (List.getElem_mem (by omega))
  rw [hk, hp]
  obtain ⟨a, cp, e, _, _⟩ := own_shape ho
  rw [e] at c5 ho
  exact ⟨g, c, a, cp, _, by rw [← hl]; exact (cell_of_row _ rb 0 _ _ (0, 0) h1.tab).trans rfl, by omega, c1, c3, c4, c5, (Rd.of_own ho).1⟩
/-- A cell of a slice that reads. -/
theorem rd_at2 {w : World} {v : Value} {xs : List Int} (h : Rd .i64 w v xs) {i : Nat} (hi : i < xs.length) : ∃ b off c, v = .slice (some ⟨b, off, none⟩) xs.length c ∧ xs.length ≤ c ∧ c ≤ 9223372036854775807 ∧ w.cell? ⟨b, off + i, none⟩ = some (.int .i64 (xs.getD i 0)) := by
  rcases h.cases with ⟨e, _⟩ | ⟨b, off, c, e, _, h1, h2, _, h3⟩
  · rw [e] at hi; simp at hi
  · exact ⟨b, off, c, e, h1, h2, h3 i hi⟩
/-- Where the public one of a is: q; 0 if there is none. -/
def PubP (N : List Nd) (a q : Int) : Prop := (q = 0 ∧ ∀ x, kindN N x = 7 → partsN N x ≠ [a]) ∨ (kindN N q = 7 ∧ partsN N q = [a])
theorem one_part {l : List Int} (h : l.length = 1) : l = [l.getD 0 0] := by
  match l, h with
  | [a], _ => rfl

set_option maxRecDepth 20000 in
set_option maxHeartbeats 4000000 in
theorem public_any {B : Nat} {w : World} {rb : Nat} {N : List Nd} (h : Rb B w rb N) (hN : Wf N) (a : Int) :
    Calls Try.prog 49 #[.pointer (some ⟨rb, 0, none⟩), .int .i64 a] w fun e w' => (∃ q, e = .returned (.int .i64 q) ∧ PubP N a q) ∧ w' = w := by
  have HH := Lib.hid h
  obtain ⟨ra, rc, hr0, hn6⟩ := h.len
  have HW := Lib.hid hN
  clear h hN
  go_enter Try.func49, Try.ntmps49
  go_wp2_with fail
  go_loopw [5] (fun iv wr => ∃ i : Nat, i ≤ N.length ∧ iv = .int .i64 i ∧ wr = w ∧ ∀ x, 1 ≤ x → x < (i : Int) + 1 → kindN N x = 7 → partsN N x ≠ [a]) (fun iv _ => N.length - (intOf iv).toNat)
  case atStart => exact ⟨0, Nat.zero_le _, rfl, (by first | rfl | trivial), fun x h1 h2 => by omega⟩
  case round =>
    obtain ⟨i, hi, rfl, rfl, hall⟩ := hrel
    have HA := Lib.hid hall
    clear hall
    by_cases hlt : i < N.length
    · have hlt' : (i : Int) < (N.length : Int) := by omega
      obtain ⟨g, c, pa, pc, t, c0, c1, c2, c3, c4, c5, c6⟩ := HH.out.at hlt
      rw [hr0] at c0
      cases c0
      have HP := Lib.hid c6
      have HONE := Lib.hid (HW.out.one ((i : Int) + 1))
      have hnx : ∀ (P : kindN N ((i : Int) + 1) = 7 → partsN N ((i : Int) + 1) ≠ [a]), ∀ x, 1 ≤ x → x < ((i + 1 : Nat) : Int) + 1 → kindN N x = 7 → partsN N x ≠ [a] := fun P x h1 h2 => by
        by_cases e : x = (i : Int) + 1
        · rw [e]; exact P
        · exact HA.out x h1 (by omega)
      have HNX := Lib.hid hnx
      have HE := Lib.hid (show PubP N a ((i : Int) + 1) ↔ ((i : Int) + 1 = 0 ∧ ∀ x, kindN N x = 7 → partsN N x ≠ [a]) ∨ (kindN N ((i : Int) + 1) = 7 ∧ partsN N ((i : Int) + 1) = [a]) from Iff.rfl)
      clear hnx c6
      generalize kindN N ((i : Int) + 1) = kk at *
      generalize partsN N ((i : Int) + 1) = ps at *
      by_cases hk : kk = 7
      · subst hk
        obtain ⟨p, hp⟩ : ∃ p, ps = [p] := ⟨_, one_part (HONE.out rfl).1⟩
        subst hp
        obtain ⟨b1, o1, cc, e1, hc1, hd1, q1⟩ := rd_at2 HP.out (i := 0) (by simp)
        cases e1
        simp only [List.getD_cons_zero, Nat.add_zero] at q1
        by_cases hpa : p = a
        · subst hpa
          go_wp2_with fail
          go_ret
          exact ⟨⟨_, rfl, HE.out.2 (.inr ⟨by first | rfl | trivial, by first | rfl | trivial⟩)⟩, (by first | rfl | trivial)⟩
        · have hpb : (p == a) = false := beq_eq_false_iff_ne.2 hpa
          have HPA := Lib.hid hpa
          clear hpa
          go_wp2_with fail
          go_roundw
          case rel => exact ⟨i + 1, by omega, by go_num, (by first | rfl | trivial), HNX.out fun _ e => HPA.out (by simpa using e)⟩
          case measure => simp [intOf]; omega
      · have hkb : (kk == 7) = false := beq_eq_false_iff_ne.2 hk
        have HK := Lib.hid hk
        clear hk
        go_wp2_with fail
        go_roundw
        case rel => exact ⟨i + 1, by omega, by go_num, (by first | rfl | trivial), HNX.out fun e => absurd e HK.out⟩
        case measure => simp [intOf]; omega
    · obtain rfl : i = N.length := by omega
      have HPN := Lib.hid (show PubP N a 0 from .inl ⟨rfl, fun x hx => by
        have := kind_in (x := x) (by rw [hx]; decide)
        exact HA.out x this.1 (by omega) hx⟩)
      go_wp2_with fail
      go_ret
      exact ⟨⟨_, rfl, HPN.out⟩, rfl⟩

set_option maxRecDepth 20000 in
set_option maxHeartbeats 4000000 in
theorem known_any {w : World} {G n : Nat} {f : Nat → Bool} (h : Bl w G f n) {q : Nat} (hq : q < n) :
    Calls Try.prog 48 #[.slice (some ⟨G, 0, none⟩) n n, .int .i64 q] w fun e w' => e = .returned (.bool (decide (0 < q) && f q)) ∧ w' = w := by
  obtain ⟨c0, c1, c2⟩ := h.cell hq
  have hqn : (q : Int) < (n : Int) := by omega
  clear h
  by_cases h0 : 0 < q
  · have h0' : (0 : Int) < (q : Int) := by omega
    have HX := Lib.hid (show (decide (0 < q) && f q) = f q by rw [decide_eq_true h0]; rfl)
    generalize hF : f q = F at *
    go_enter Try.func48, Try.ntmps48
    go_wp2_with fail
    go_ret
    exact ⟨congrArg (fun b => Ending.returned (.bool b)) HX.out.symm, rfl⟩
  · obtain rfl : q = 0 := by omega
    go_enter Try.func48, Try.ntmps48
    go_wp2_with fail
    go_ret
    exact ⟨congrArg (fun b => Ending.returned (.bool b)) (show false = (decide (0 < 0) && f 0) from rfl), rfl⟩
/-- What of a shared one: public's number, as known takes it. -/
theorem pub_known {N : List Nd} (hN : Wf N) {f : Nat → Bool} {a q : Int} (h : PubP N a q) : 0 ≤ q ∧ q ≤ (N.length : Int) ∧ ((decide (0 < q.toNat) && f q.toNat) = true ↔ ∃ q, kindN N q = 7 ∧ partsN N q = [a] ∧ f q.toNat = true) := by
  rcases h with ⟨rfl, h⟩ | ⟨h7, hp⟩
  · refine ⟨Int.le_refl _, by omega, ?_⟩
    constructor
    · intro e; simp at e
    · rintro ⟨q, k7, hp, _⟩; exact absurd hp (h q k7)
  · have hin := kind_in (x := q) (by rw [h7]; decide)
    refine ⟨by omega, hin.2, ?_⟩
    rw [decide_eq_true (show 0 < q.toNat by omega), Bool.true_and]
    constructor
    · intro e; exact ⟨q, h7, hp, e⟩
    · rintro ⟨q', k7, hp', e⟩
      rw [hN.pub q q' h7 k7 (by rw [hp, hp'])]
      exact e

/-- What makes tells. -/
def MakesP (m : Prop) (e : Ending) : Prop := ∃ b : Bool, e = .returned (.bool b) ∧ (b = true ↔ m)
theorem MakesP.yes {m : Prop} (h : m) : MakesP m (.returned (.bool true)) := ⟨true, rfl, fun _ => h, fun _ => rfl⟩
theorem MakesP.no {m : Prop} (h : ¬ m) : MakesP m (.returned (.bool false)) := ⟨false, rfl, fun e => (by cases e), fun m => absurd m h⟩
theorem MakesP.iff {m : Prop} {b : Bool} (h : b = true ↔ m) : MakesP m (.returned (.bool b)) := ⟨b, rfl, h⟩
set_option maxRecDepth 20000 in
set_option maxHeartbeats 8000000 in
theorem makes_any {B : Nat} {w : World} {rb : Nat} {N : List Nd} (h : Rb B w rb N) (hN : Wf N) {Gf Gc : Nat} {f c : Nat → Bool} (hf : Bl w Gf f (N.length + 1)) (hc : Bl w Gc c (N.length + 1)) {i : Nat} (hi : i < N.length) :
    Calls Try.prog 31 #[.pointer (some ⟨rb, 0, none⟩), .int .i64 ((i : Int) + 1), .slice (some ⟨Gf, 0, none⟩) (N.length + 1) (N.length + 1), .slice (some ⟨Gc, 0, none⟩) (N.length + 1) (N.length + 1)] w fun e w' => MakesP (Mk N f c ((i : Int) + 1)) e ∧ Below w.heap.size w w' := by
  obtain ⟨_, _, hLL, hn6⟩ := h.len
  clear hLL
  obtain ⟨g, gc, pa, pc, t, c0, c1, c2, c3, c4, c5, c6⟩ := h.at hi
  obtain ⟨fx, -, -⟩ := hf.cell (j := i + 1) (by omega)
  have hi' : (i : Int) < (N.length : Int) := by omega
  have hW := below_alloc w (.cells #[.int .i64 (kindN N ((i : Int) + 1)), .string t, .slice pa (partsN N ((i : Int) + 1)).length pc] 69)
  have hbx := heap_alloc_new w (.cells #[.int .i64 (kindN N ((i : Int) + 1)), .string t, .slice pa (partsN N ((i : Int) + 1)).length pc] 69)
  have HK := Lib.hid (show (i : Int) + 1 = ((i + 1 : Nat) : Int) by omega)
  generalize hWq : w.alloc (.cells #[.int .i64 (kindN N ((i : Int) + 1)), .string t, .slice pa (partsN N ((i : Int) + 1)).length pc] 69) = W at *
  have k0 : W.cell? ⟨w.heap.size, 0, none⟩ = some (.int .i64 (kindN N ((i : Int) + 1))) := (cell_of_row _ w.heap.size 0 _ 69 (0, 0) hbx).trans rfl
  have k2 : W.cell? ⟨w.heap.size, 2, none⟩ = some (.slice pa (partsN N ((i : Int) + 1)).length pc) := (cell_of_row _ w.heap.size 2 _ 69 (0, 0) hbx).trans rfl
  have hfW := hf.below hW
  have hcW := hc.below hW
  obtain ⟨fxW, -, -⟩ := hfW.cell (j := i + 1) (by omega)
  have HFW := Lib.hid hfW
  have HCW := Lib.hid hcW
  have HRW := Lib.hid (h.keep hW)
  have HPW := Lib.hid (c6.below hW)
  have HWB := Lib.hid hW
  have HLO := Lib.hid (show ∀ y ∈ partsN N ((i : Int) + 1), 1 ≤ y ∧ y < (i : Int) + 1 from hN.low _ (by omega) (by omega))
  have HTWO := Lib.hid (hN.two ((i : Int) + 1))
  have H16 := Lib.hid (hN.sixteen ((i : Int) + 1))
  have HM := Lib.hid (show Mk N f c ((i : Int) + 1) ↔ f (i + 1) = true ∨ kindN N ((i : Int) + 1) = 1 ∨ (kindN N ((i : Int) + 1) ≠ 2 ∧ kindN N ((i : Int) + 1) ≠ 8 ∧ ∀ y ∈ partsN N ((i : Int) + 1), c y.toNat = true) ∨
    (kindN N ((i : Int) + 1) = 8 ∧ (SideP N f c ((partsN N ((i : Int) + 1)).getD 0 0) ((partsN N ((i : Int) + 1)).getD 1 0) ∨ SideP N f c ((partsN N ((i : Int) + 1)).getD 1 0) ((partsN N ((i : Int) + 1)).getD 0 0))) from by
      have e : ((i : Int) + 1).toNat = i + 1 := by omega
      unfold Mk; rw [e])
  have HWF := Lib.hid hN
  generalize Mk N f c ((i : Int) + 1) = MK at *
  clear h hf hc hfW hcW hW hbx hN c6
  generalize kindN N ((i : Int) + 1) = kk at *
  generalize partsN N ((i : Int) + 1) = ps at *
  cases hfx : f (i + 1) with
  | true =>
    rw [hfx] at fx fxW
    have HT := Lib.hid (HM.out.2 (.inl hfx))
    clear hfx
    go_enter Try.func31, Try.ntmps31
    go_wp2_with fail
    go_ret
    exact ⟨MakesP.yes HT.out, HWB.out⟩
  | false =>
    rw [hfx] at fx fxW
    have HFX := Lib.hid hfx
    clear hfx
    by_cases k1 : kk = 1
    · have HT := Lib.hid (HM.out.2 (.inr (.inl k1)))
      subst k1
      go_enter Try.func31, Try.ntmps31
      go_wp2_with fail
      go_ret
      exact ⟨MakesP.yes HT.out, HWB.out⟩
    by_cases k2 : kk = 2
    · have HT := Lib.hid (show ¬ MK from fun m => by
        rcases HM.out.1 m with m | m | ⟨m, _⟩ | ⟨m, _⟩
        · rw [HFX.out] at m; cases m
        · omega
        · exact m k2
        · omega)
      subst k2
      go_enter Try.func31, Try.ntmps31
      go_wp2_with fail
      go_ret
      exact ⟨MakesP.no HT.out, HWB.out⟩
    have e1 : (kk == 1) = false := beq_eq_false_iff_ne.2 k1
    have e2 : (kk == 2) = false := beq_eq_false_iff_ne.2 k2
    by_cases k8 : kk = 8
    · have HT := Lib.hid (show MK ↔ SideP N f c (ps.getD 0 0) (ps.getD 1 0) ∨ SideP N f c (ps.getD 1 0) (ps.getD 0 0) from by
        rw [HM.out]
        constructor
        · rintro (m | m | ⟨_, m, _⟩ | ⟨_, m⟩)
          · rw [HFX.out] at m; cases m
          · omega
          · exact absurd k8 m
          · exact m
        · intro m; exact .inr (.inr (.inr ⟨k8, m⟩)))
      have h2 := (HTWO.out k8).1
      obtain ⟨a, b, rfl⟩ : ∃ a b, ps = [a, b] := by
        match ps, h2 with
        | [a, b], _ => exact ⟨a, b, rfl⟩
      have pa1 := HLO.out a (by simp)
      have pb1 := HLO.out b (by simp)
      obtain ⟨qa, rfl⟩ : ∃ q : Nat, a = (q : Int) := ⟨a.toNat, by omega⟩
      obtain ⟨qb, rfl⟩ : ∃ q : Nat, b = (q : Int) := ⟨b.toNat, by omega⟩
      have ca := (HCW.out.cell (j := qa) (by omega)).1
      have cb := (HCW.out.cell (j := qb) (by omega)).1
      obtain ⟨b1, o1, cc, e1', hc1, hd1, q1⟩ := rd_at2 HPW.out (i := 0) (by simp)
      obtain ⟨b2, o2, cc2, e2', hc2, hd2, q2⟩ := rd_at2 HPW.out (i := 1) (by simp)
      cases e1'
      cases e2'
      simp only [List.getD_cons_zero, List.getD_cons_succ, Nat.add_zero] at q1 q2
      have HT2 := Lib.hid (show MK ↔ (c qa = true ∧ (c qb = true ∨ ∃ q, kindN N q = 7 ∧ partsN N q = [(qb : Int)] ∧ f q.toNat = true)) ∨ (c qb = true ∧ (c qa = true ∨ ∃ q, kindN N q = 7 ∧ partsN N q = [(qa : Int)] ∧ f q.toNat = true)) from HT.out)
      have ia : qa < N.length + 1 := by omega
      have ib : qb < N.length + 1 := by omega
      have HIA := Lib.hid ia
      have HIB := Lib.hid ib
      subst k8
      clear HT HM HTWO h2 HLO pa1 pb1
      generalize hca : c qa = sa at *
      generalize hcb : c qb = sb at *
      clear hca hcb
      simp only [List.length_cons, List.length_nil, Nat.zero_add, Nat.reduceAdd] at hWq c4 k2
      cases sa <;> cases sb
      all_goals
        go_enter Try.func31, Try.ntmps31
        go_wp2_with fail
        go_quiet (fail)
        go_wp2_with fail
      · go_ret
        exact ⟨MakesP.no fun m => by have := HT2.out.1 m; simp at this, below_drewN HWB.out nq⟩
      · skip
        refine (public_any (HRW.out.keep (below_drewN (Below.refl _ _) nq)) HWF.out _).mono ?_
        rintro e w2 ⟨⟨q, rfl, hq⟩, rfl⟩
        obtain ⟨hq0, hq1, hqi⟩ := pub_known HWF.out (f := f) hq
        obtain ⟨n, rfl⟩ : ∃ n : Nat, q = (n : Int) := ⟨q.toNat, by omega⟩
        rw [Int.toNat_natCast] at hqi
        have hkn := known_any (w := W.drewN nq) (HFW.out.keep rfl) (q := n) (by omega)
        have HQI := Lib.hid hqi
        clear hq hqi hq0 hq1
        go_wp2_with fail
        refine hkn.mono ?_
        rintro e w3 ⟨rfl, rfl⟩
        clear hkn
        generalize (decide (0 < n) && f n) = kb at *
        cases kb
        all_goals
          go_wp2_with fail
          go_ret
        · exact ⟨MakesP.no (fun m => by have := HT2.out.1 m; simp at this; exact absurd (HQI.out.2 this) (by simp)), below_drewN HWB.out nq⟩
        · exact ⟨MakesP.yes (HT2.out.2 (by simp; exact HQI.out.1 (by simp))), below_drewN HWB.out nq⟩
      · skip
        refine (public_any (HRW.out.keep (below_drewN (Below.refl _ _) nq)) HWF.out _).mono ?_
        rintro e w2 ⟨⟨q, rfl, hq⟩, rfl⟩
        obtain ⟨hq0, hq1, hqi⟩ := pub_known HWF.out (f := f) hq
        obtain ⟨n, rfl⟩ : ∃ n : Nat, q = (n : Int) := ⟨q.toNat, by omega⟩
        rw [Int.toNat_natCast] at hqi
        have hkn := known_any (w := W.drewN nq) (HFW.out.keep rfl) (q := n) (by omega)
        have HQI := Lib.hid hqi
        clear hq hqi hq0 hq1
        go_wp2_with fail
        refine hkn.mono ?_
        rintro e w3 ⟨rfl, rfl⟩
        clear hkn
        generalize (decide (0 < n) && f n) = kb at *
        cases kb
        all_goals
          go_wp2_with fail
          go_ret
        · exact ⟨MakesP.no (fun m => by have := HT2.out.1 m; simp at this; exact absurd (HQI.out.2 this) (by simp)), below_drewN HWB.out nq⟩
        · exact ⟨MakesP.yes (HT2.out.2 (by simp; exact HQI.out.1 (by simp))), below_drewN HWB.out nq⟩
      · go_ret
        exact ⟨MakesP.yes (HT2.out.2 (by simp)), below_drewN HWB.out nq⟩
    · have HT := Lib.hid (show MK ↔ ∀ y ∈ ps, c y.toNat = true from by
        rw [HM.out]
        constructor
        · rintro (m | m | ⟨_, _, m⟩ | ⟨m, _⟩)
          · rw [HFX.out] at m; cases m
          · omega
          · exact m
          · exact absurd m k8
        · intro m; exact .inr (.inr (.inl ⟨k2, k8, m⟩)))
      have e8 : (kk == 8) = false := beq_eq_false_iff_ne.2 k8
      clear k1 k2 k8 HM HTWO
      go_enter Try.func31, Try.ntmps31
      go_wp2_with fail
      go_loopw [12] (fun jv wr => ∃ j : Nat, j ≤ ps.length ∧ jv = .int .i64 j ∧ wr = W ∧ ∀ y ∈ ps.take j, c y.toNat = true) (fun jv _ => ps.length - (intOf jv).toNat)
      case atStart => exact ⟨0, Nat.zero_le _, rfl, (by first | rfl | trivial), fun y hy => by simp at hy⟩
      case round =>
        obtain ⟨j, hj, rfl, rfl, hall⟩ := hrel
        have HA := Lib.hid hall
        clear hall
        by_cases hlt : j < ps.length
        · have hlt' : (j : Int) < (ps.length : Int) := by omega
          obtain ⟨b1, o1, cc, e1', hc1, hd1, q1⟩ := rd_at2 HPW.out hlt
          cases e1'
          have hm := HLO.out _ (getD_mem hlt)
          obtain ⟨y, hy⟩ : ∃ q : Nat, ps.getD j 0 = (q : Int) := ⟨(ps.getD j 0).toNat, by omega⟩
          have HS := Lib.hid (show ps.take (j + 1) = ps.take j ++ [(y : Int)] from by rw [take_succ_getD _ _ hlt, hy])
          have HMY := Lib.hid (show (y : Int) ∈ ps from by rw [← hy]; exact getD_mem hlt)
          rw [hy] at q1 hm
          have iy : y < N.length + 1 := by omega
          have cy := (HCW.out.cell (j := y) iy).1
          have hj16 : j ≤ 16 := by have := H16.out; omega
          clear hm hy
          cases hcy : c y with
          | false =>
            rw [hcy] at cy
            have HN := Lib.hid (show ¬ MK from fun m => by have := HT.out.1 m _ HMY.out; rw [Int.toNat_natCast, hcy] at this; cases this)
            clear hcy
            go_wp2_with fail
            go_ret
            exact ⟨MakesP.no HN.out, HWB.out⟩
          | true =>
            rw [hcy] at cy
            have HCY := Lib.hid hcy
            clear hcy
            go_wp2_with fail
            go_roundw
            case rel =>
              refine ⟨j + 1, by omega, by go_num, (by first | rfl | trivial), fun z hz => ?_⟩
              rw [HS.out] at hz
              rcases List.mem_append.1 hz with hz | hz
              · exact HA.out z hz
              · rw [List.mem_singleton] at hz; subst hz; rw [Int.toNat_natCast]; exact HCY.out
            case measure => simp [intOf]; omega
        · obtain rfl : j = ps.length := by omega
          have HY := Lib.hid (HT.out.2 (by have := HA.out; rwa [List.take_length] at this))
          go_wp2_with fail
          go_ret
          exact ⟨MakesP.yes HY.out, HWB.out⟩
#print axioms public_any
#print axioms known_any
#print axioms makes_any
end Go.Proofs.Ytinncmljffcobaa
