/- The document's set in memory: Has, Spans. -/
import Derived.Test.YtnfednhleedljaaSpOrder
import Derived.Test.YtnfednhleedljaaSpNums
import Derived.Deep.RegionHeld3
namespace Go.Proofs.Ytnfednhleedljaa
open Go Go.RowKit

/-- The document's set in block B: its numbers, rising, and its floor; its row lies from lo on. -/
structure Rm (lo : Nat) (w : World) (B : Nat) (L : List Int) (F : Int) : Prop where
  len : L.length ≤ 400
  low : B < lo
  bnd : ∀ x ∈ L, 0 ≤ x ∧ x ≤ 4611686018427387903
  box : ∃ v, w.heap[B]? = some (.cells #[v, .int .i64 F] 29 (0, 0)) ∧ Rd .i64 w v L ∧ (∀ g, v.ownBlock = some g → lo ≤ g) ∧ (L = [] → v = .slice none 0 0)
theorem Rm.lt {lo : Nat} {w : World} {B : Nat} {L : List Int} {F : Int} (h : Rm lo w B L F) : B < w.heap.size := by obtain ⟨v, h1, _⟩ := h.box; exact blk_lt h1
theorem Rm.below {lo : Nat} {w w' : World} {B : Nat} {L : List Int} {F : Int} (h : Rm lo w B L F) (hb : Below w.heap.size w w') : Rm lo w' B L F := by
  obtain ⟨v, h1, h2, h3⟩ := h.box
  exact ⟨h.len, h.low, h.bnd, v, by rw [hb.block B (blk_lt h1)]; exact h1, h2.below hb, h3⟩
theorem Rd.but {B : Nat} {w w' : World} {v : Value} {L : List Int} (h : Rd .i64 w v L) (hb : But B w w') (hn : ∀ g, v.ownBlock = some g → g ≠ B) : Rd .i64 w' v L := by
  obtain ⟨ao, cap, rfl, h1, h2, h3, hc⟩ := h
  refine ⟨ao, cap, rfl, h1, h2, h3, fun a ha j hj => ?_⟩
  subst ha
  have h := hc a rfl j hj
  have hbl : ∀ k, (a.add k).block = a.block := fun k => by unfold Addr.add; split <;> rfl
  have hlt : a.block < w.heap.size := by have := cell_lt h; rwa [hbl] at this
  have : w'.cell? (a.add j) = w.cell? (a.add j) := by
    unfold World.cell?
    rw [hbl j, hb.block a.block hlt (hn _ rfl)]
  rw [this]; exact h
theorem Rm.but {lo : Nat} {w w' : World} {B A : Nat} {L : List Int} {F : Int} (h : Rm lo w B L F) (hb : But A w w') (hA : A < lo) (hn : B ≠ A) : Rm lo w' B L F := by
  obtain ⟨v, h1, h2, h3⟩ := h.box
  exact ⟨h.len, h.low, h.bnd, v, by rw [hb.block B (blk_lt h1) hn]; exact h1, h2.but hb fun g hg => by have := h3.1 g hg; omega, h3⟩
theorem Rm.shape {lo : Nat} {w : World} {B : Nat} {L : List Int} {F : Int} (h : Rm lo w B L F) : w.cell? ⟨B, 1, none⟩ = some (.int .i64 F) ∧ (∀ j, w.frozen? ⟨B, j, none⟩ = false) ∧
    ((L = [] ∧ w.cell? ⟨B, 0, none⟩ = some (.slice none 0 0)) ∨
    ∃ b off cap, w.cell? ⟨B, 0, none⟩ = some (.slice (some ⟨b, off, none⟩) L.length cap) ∧ 0 < L.length ∧ L.length ≤ cap ∧ cap ≤ 9223372036854775807 ∧ b < w.heap.size ∧ lo ≤ b ∧ ∀ j, j < L.length → w.cell? ⟨b, off + j, none⟩ = some (.int .i64 (L.getD j 0))) := by
  obtain ⟨v, h1, h2, h3, h4⟩ := h.box
  refine ⟨(cell_of_row _ B 1 _ _ (0, 0) h1).trans rfl, fun j => by simp [World.frozen?, h1], ?_⟩
  have hc : w.cell? ⟨B, 0, none⟩ = some v := (cell_of_row _ B 0 _ _ (0, 0) h1).trans rfl
  rcases h2.cases with ⟨e, ao, cap, rfl, _⟩ | ⟨b, off, cap, rfl, g1, g2, g3, g4, g5⟩
  · have := h4 e
    rw [this] at hc
    exact Or.inl ⟨e, hc⟩
  · exact Or.inr ⟨b, off, cap, hc, g1, g2, g3, g4, h3 b rfl, g5⟩
set_option maxHeartbeats 1000000 in
theorem rhas_some {w : World} {B b off cap : Nat} {L : List Int} (hc : w.cell? ⟨B, 0, none⟩ = some (.slice (some ⟨b, off, none⟩) L.length cap)) (hcell : ∀ j, j < L.length → w.cell? ⟨b, off + j, none⟩ = some (.int .i64 (L.getD j 0))) (hl : L.length ≤ 400) (n : Int) :
    Calls Try.prog 14 #[.pointer (some ⟨B, 0, none⟩), .int .i64 n] w fun e w' => e = .returned (.bool (L.contains n)) ∧ w = w' := by
  have HC := Lib.hid hcell
  clear hcell
  have hl' : (L.length : Int) ≤ 400 := by omega
  obtain ⟨c, hcc⟩ : ∃ c, L.contains n = c := ⟨_, rfl⟩
  rw [hcc]
  have HCC := Lib.hid hcc
  clear hcc
  go_enter Try.func14, Try.ntmps14
  go_wp2_with fail
  go_loop [5] (fun i => ∃ k : Nat, k ≤ L.length ∧ i = .int .i64 k ∧ n ∉ L.take k) (fun i => L.length - (intOf i).toNat)
  case atStart => exact ⟨0, by omega, rfl, by simp⟩
  case round =>
    obtain ⟨k, hk, rfl, hnm⟩ := hrel
    have hk' : (k : Int) ≤ (L.length : Int) := by omega
    by_cases hlt : k < L.length
    · have hlt' : (k : Int) < (L.length : Int) := by omega
      have hx := HC.out k hlt
      have ht : L.take (k + 1) = L.take k ++ [L.getD k 0] := by rw [List.take_succ_eq_append_getElem hlt]; simp [List.getD, hlt]
      have hmem : L.getD k 0 ∈ L := by
        have : L.getD k 0 = L[k] := by simp [hlt]
        rw [this]; exact List.getElem_mem hlt
      have HT := Lib.hid ht
      have HM := Lib.hid hmem
      have HN := Lib.hid hnm
      clear ht hmem hnm
      generalize L.getD k 0 = x at hx HT HM
      by_cases he : x = n
      · subst he
        have hcon : c = true := by rw [← HCC.out]; simp [HM.out]
        have ht : (x == x) = true := by simp
        subst hcon
        go_wp2_with fail
        go_ret
        exact ⟨rfl, rfl⟩
      · have ht : (x == n) = false := by rw [beq_eq_false_iff_ne]; exact he
        have HE := Lib.hid he
        clear he
        go_wp2_with fail
        go_round
        case rel => exact ⟨k + 1, by omega, by go_num, by rw [HT.out]; intro hm; rcases List.mem_append.1 hm with hm | hm; exact HN.out hm; exact HE.out (List.mem_singleton.1 hm).symm⟩
        case measure => simp [intOf]; omega
    · obtain rfl : k = L.length := by omega
      have hcon : c = false := by
        rw [List.take_of_length_le (Nat.le_refl _)] at hnm
        rw [← HCC.out]; simp [hnm]
      subst hcon
      clear hnm
      go_wp2_with fail
      go_ret
      exact ⟨rfl, rfl⟩
theorem rhas_none {w : World} {B cap : Nat} {ao : Option Addr} (hc : w.cell? ⟨B, 0, none⟩ = some (.slice ao 0 cap)) (n : Int) :
    Calls Try.prog 14 #[.pointer (some ⟨B, 0, none⟩), .int .i64 n] w fun e w' => e = .returned (.bool false) ∧ w = w' := by
  go_enter Try.func14, Try.ntmps14
  go_wp2_with fail
  go_loop [5] (fun i => i = .int .i64 0) (fun _ => 0)
  case atStart => rfl
  case round =>
    subst hrel
    go_wp2_with fail
    go_ret
    exact ⟨rfl, rfl⟩
theorem rhas_any {lo : Nat} {w : World} {B : Nat} {L : List Int} {F : Int} (h : Rm lo w B L F) (n : Int) :
    Calls Try.prog 14 #[.pointer (some ⟨B, 0, none⟩), .int .i64 n] w fun e w' => e = .returned (.bool (L.contains n)) ∧ w = w' := by
  rcases h.shape.2.2 with ⟨rfl, hc⟩ | ⟨b, off, cap, hc, _, _, _, _, _, h5⟩
  · exact rhas_none hc n
  · exact rhas_some hc h5 h.len n

/-- A cell of a row that the call owns, written. -/
theorem own_set {w : World} {base e g n cap i : Nat} {xs : List Value} (h : w.ownsRow base e 2 (.slice (some ⟨g, 0, none⟩) n cap) n xs) (x : Value) : (w.setCell ⟨g, i, none⟩ x).ownsRow base e 2 (.slice (some ⟨g, 0, none⟩) n cap) n (xs.set i x) := by
  obtain ⟨h1, h2⟩ := h
  refine ⟨by simpa using h1, .inr ?_⟩
  rcases h2 with ⟨e, _⟩ | ⟨g', cap', cur, e, hg, hh, h3, h4, h5, h6⟩
  · simp at e
  · cases e
    refine ⟨g, cap, cur.setIfInBounds i x, rfl, hg, heap_setCell_same w g i cur _ x hh, h3, h4, by simpa using h5, ?_⟩
    rw [Array.toList_setIfInBounds, List.take_set, h6]
theorem sc_set (o : List Sp) (q : Sp) (x : Int) : (sc (o ++ [q])).set (o.length * 2) (.int .i64 x) = sc (o ++ [(x, q.2)]) := by
  rw [sc_app, sc_app]
  have := sc_len o
  rw [List.set_append_right _ _ (by omega), this, Nat.sub_self]
  rfl
theorem last_step {L : List Int} {j : Nat} (hj : j < L.length) : (L.drop (L.length - (j + 1))).reverse.foldl spStep [] = spStep ((L.drop (L.length - j)).reverse.foldl spStep []) (L.getD (L.length - 1 - j) 0) := by
  have h1 : L.length - (j + 1) < L.length := by omega
  rw [List.drop_eq_getElem_cons h1, show L.length - (j + 1) + 1 = L.length - j by omega, show L.length - 1 - j = L.length - (j + 1) by omega]
  have h2 : L.getD (L.length - (j + 1)) 0 = L[L.length - (j + 1)] := by simp [List.getD, h1]
  rw [h2, List.reverse_cons, List.foldl_append]
  rfl
/-- append of spans, as one operation of a region whatever its order. -/
theorem step_append_spans {w : World} {ops : Array Oper} {o : Oper} {a : Act} {K : Act → World → Prop} {Q : Exit → Act → World → Prop} {E : Prop} (hgd : o.guard = none) (s x : Operand)
    (ho : o.op = .call { callee := .builtin .append, args := #[s, x], argTypes := #[33, 33] }) (ht : Try.prog.underlying 33 = some (.slice 52))
    (base : Nat) (v : Value) (n : Nat) (S : List Sp) (hs : a.eval s = v) (hown : w.ownsRow base 52 2 v n (sc S))
    (xv : Value) (T : List Sp) (hx : a.eval x = xv) (hr : Rs w xv T) (hb1 : n + T.length ≤ 100000) (hbase : base ≤ w.heap.size)
    (h : ∀ v' w', w'.ownsRow base 52 2 v' (n + T.length) (sc (S ++ T)) → Below base w w' → K (a.put o.dst v') w') :
    if Region.wanted o (yielded ops a.tmps) = true then Oper.wp Try.prog o a w K Q else E := by
  have hw : Region.wanted o (yielded ops a.tmps) = true := by simp [Region.wanted, hgd]
  rw [if_pos hw]
  obtain ⟨i, hi, hz⟩ : ∃ i, Try.prog.info? 52 = some i ∧ (i.zero.map (·.cells.size), i.size, i.bytes) = (some 2, 2, 16) := by
    have hinfo := info52
    cases he : Try.prog.info? 52 with
    | none => rw [he] at hinfo; cases hinfo
    | some i => rw [he] at hinfo; exact ⟨i, rfl, by simpa using hinfo⟩
  simp only [Prod.mk.injEq, Option.map_eq_some_iff] at hz
  obtain ⟨⟨z, hz0, hz3⟩, hz1, hz2⟩ := hz
  obtain ⟨ao, cap, rfl, h1, h2, h3, hc⟩ := hr
  cases ao with
  | none =>
    have hcap := h3 rfl
    have hy : T = [] := List.eq_nil_of_length_eq_zero (by omega)
    subst hy; subst hcap
    have hrun := run_append_owned_none (P := Try.prog) (w := w) base 33 o.type 52 i 2 ht hi v n (sc S) hown
    unfold Oper.wp
    simp [execOp, ho, resolve, invoke, builtin, hs, hx, hrun, Result.andThen]
    exact h v w (by simpa using hown) (Below.refl _ _)
  | some ad =>
    refine wp_append_own w s x 33 ho base 52 i z 2 16 ht hi hz0 hz1 hz2 hz3 (by decide) v n (sc S) hs hown ad T.length cap (sc T) hx (by simp [sc_len]) ?_ (sc_one T) (by unfold maxLen; omega) (by omega) hbase ?_
    · intro j u hu
      obtain ⟨k, hk, ⟨rfl, rfl⟩ | ⟨rfl, rfl⟩⟩ := sc_at T j u hu
      · exact (hc ad rfl k hk).1
      · exact (hc ad rfl k hk).2
    · intro v' w' hown' hg _
      exact h v' w' (by rw [sc_app]; exact hown') (below_own hown hbase hg)
theorem rown_open {w : World} {base : Nat} {v : Value} {n : Nat} {S : List Sp} (h : w.ownsRow base 52 2 v n (sc S)) (h0 : 0 < S.length) : ∃ g cap, v = .slice (some ⟨g, 0, none⟩) S.length cap ∧ base ≤ g ∧ g < w.heap.size ∧ (∀ j, w.frozen? ⟨g, j, none⟩ = false) ∧ At w g 0 S := by
  have hr := (Rs.of_own h).1
  have hn := (Rs.of_own h).2
  rcases h.2 with ⟨rfl, h1⟩ | ⟨g, cap, cur, rfl, hg, hh, h1, h2, h3, h4⟩
  · omega
  · rcases hr.cases with ⟨rfl, _⟩ | ⟨b, off, c, e, _, _, _, _, h5⟩
    · simp at h0
    · cases e
      exact ⟨g, _, rfl, hg, blk_lt hh, fun j => by simp [World.frozen?, hh], h5⟩
theorem keep2 {base : Nat} {W W' : World} {B b o : Nat} {u x : Value} (hb : Below base W W') (hB : B < base) (hb2 : b < base) (hS : W.cell? ⟨B, 0, none⟩ = some u ∧ W.cell? ⟨b, o, none⟩ = some x) : W'.cell? ⟨B, 0, none⟩ = some u ∧ W'.cell? ⟨b, o, none⟩ = some x :=
  ⟨(hb.cell (p := ⟨B, 0, none⟩) hB).trans hS.1, (hb.cell (p := ⟨b, o, none⟩) hb2).trans hS.2⟩
set_option maxHeartbeats 4000000 in
theorem rspans_some {w : World} {B b off cap : Nat} {L : List Int} (hB : B < w.heap.size) (hb : b < w.heap.size) (hbnd : ∀ x ∈ L, 0 ≤ x ∧ x ≤ 4611686018427387903) (hc : w.cell? ⟨B, 0, none⟩ = some (.slice (some ⟨b, off, none⟩) L.length cap)) (hcell : ∀ j, j < L.length → w.cell? ⟨b, off + j, none⟩ = some (.int .i64 (L.getD j 0))) (hl : L.length ≤ 400) (h0 : 0 < L.length) :
    Calls Try.prog 11 #[.pointer (some ⟨B, 0, none⟩)] w fun e w' => ∃ v', e = .returned v' ∧ w'.ownsRow w.heap.size 52 2 v' (spansOf L).length (sc (spansOf L)) ∧ Below w.heap.size w w' := by
  have HC := Lib.hid hcell
  have HBN := Lib.hid hbnd
  clear hcell hbnd
  have hl' : (L.length : Int) ≤ 400 := by omega
  go_enter Try.func11, Try.ntmps11
  go_wp2_with fail
  go_loopw [3, 4] (fun o i wr => ∃ (j : Nat) (O : List Sp), i = .int .i64 ((L.length : Int) - 1 - (j : Int)) ∧ j ≤ L.length ∧ O = (L.drop (L.length - j)).reverse.foldl spStep [] ∧ O.length ≤ j ∧ wr.ownsRow w.heap.size 52 2 o O.length (sc O) ∧ Below w.heap.size w wr) (fun _ i _ => (intOf i + 1).toNat)
  case atStart => exact ⟨0, [], by simp, by omega, by simp, by simp, World.ownsRow_nil _ _ _ _, Below.refl _ _⟩
  case round =>
    obtain ⟨j, O, rfl, hj, hO, hOl, ho, hbel⟩ := hrel
    have hj' : (j : Int) ≤ (L.length : Int) := by omega
    by_cases hlt : j < L.length
    · obtain ⟨i, hi⟩ : ∃ i : Nat, i + j + 1 = L.length := ⟨L.length - 1 - j, by omega⟩
      have hstep := last_step hlt
      rw [← hO, show L.length - 1 - j = i by omega] at hstep
      have ei : (L.length : Int) - 1 - (j : Int) = (i : Int) := by omega
      rw [ei]
      have hx := (hbel.cell (p := ⟨b, off + i, none⟩) hb).trans (HC.out i (by omega))
      have hx1 := HBN.out (L.getD i 0) (by
        have : L.getD i 0 = L[i] := by simp [show i < L.length by omega]
        rw [this]; exact List.getElem_mem _)
      have hcb := (hbel.cell (p := ⟨B, 0, none⟩) hB).trans hc
      have HST := Lib.hid hstep
      have HI := Lib.hid hi
      have hil : (i : Int) < (L.length : Int) := by omega
      generalize L.getD i 0 = x at *
      have hsz := hbel.size
      have HB := Lib.hid hbel
      clear hO hstep hi ei hc hbel
      have hrun := fun (hs : wr.heap.size ≤ wr.heap.size + 1) => hs
      clear hrun
      rcases List.eq_nil_or_concat O with rfl | ⟨o, q, rfl⟩
      · obtain ⟨ao, cp, rfl⟩ := (Rs.of_own ho).1.out
        have hst : spStep [] x = [(x, x)] := rfl
        have HO := Lib.hid ho
        simp only [List.length_nil]
        go_wp2_with fail
        go_quiet (fail)
        go_wp2_with fail
        go_region_held3 (fun w' => w'.cell? ⟨B, 0, none⟩ = some (.slice (some ⟨b, off, none⟩) L.length cap) ∧ w'.cell? ⟨b, off + i, none⟩ = some (.int .i64 x))
          (first | with_reducible exact ⟨hcb, hx⟩ | exact ⟨hcb, hx⟩ | exact keep2 (below_alloc _ _) (Nat.lt_of_lt_of_le hB hsz) (Nat.lt_of_lt_of_le hb hsz) (by assumption) | exact keep2 hb5' hB hb (by assumption))
          (first | (refine step_append_spans (by rfl) _ _ (by rfl) Try.underlying33 w.heap.size _ 0 [] (by rfl) (own_alloc HO.out _) _ [(x, x)] (by rfl) (lit_one _ x x _) (by simp) (by simp; omega) ?_; intro v5 w5 hown5 hb5'))
        have hB5 := Lib.hid (((HB.out.trans ((drewN_below wr _).mono hsz)).alloc hsz (.cells #[.int .i64 x, .int .i64 x] 52)).trans hb5')
        have H5 := Lib.hid hown5
        clear hown5 hb5'
        go_wp2_with fail
        go_roundw
        case rel => exact ⟨j + 1, [(x, x)], by have := HI.out; rw [show (L.length : Int) - 1 - ((j + 1 : Nat) : Int) = (i : Int) - 1 by omega], by omega, by rw [HST.out]; rfl, by simp, by simpa using H5.out, hB5.out⟩
        case measure => simp [intOf] <;> omega
      · rw [List.concat_eq_append] at *
        obtain ⟨q1, q2⟩ := q
        obtain ⟨g, cp, rfl, hg, hgl, hfz, hat⟩ := rown_open ho (by simp)
        obtain ⟨c1, c2⟩ := hat o.length (by simp)
        have eg : (o ++ [(q1, q2)]).getD o.length (0, 0) = (q1, q2) := by simp [List.getD]
        rw [eg] at c1 c2
        simp only [Nat.zero_add] at c1 c2
        rw [List.length_append] at ho
        simp only [List.length_cons, List.length_nil, Nat.zero_add] at ho
        have HO := Lib.hid ho
        have hfz2 : wr.frozen? ⟨g, o.length * 2, none⟩ = false := hfz _
        clear hat eg ho hfz
        rw [List.length_append] at hOl ⊢
        simp only [List.length_cons, List.length_nil, Nat.zero_add] at hOl ⊢
        generalize hm : o.length = m at *
        have HMo := Lib.hid hm
        clear hm
        have hm0 : decide ((0 : Int) ≤ (m : Int)) = true := decide_eq_true (by omega)
        have hml : (m : Int) < (m : Int) + 1 := by omega
        have hml2 : (m : Int) ≤ 400 := by omega
        by_cases hq : q1 = x + 1
        · subst hq
          have hst := spStep_join o x q2
          have HST2 := Lib.hid (HST.out.trans hst)
          have HN := Lib.hid (fun k => own_set (w := wr.drewN k) (i := m * 2) HO.out (.int .i64 x))
          have hss := sc_set o (x + 1, q2) x
          rw [HMo.out] at hss
          have HSS := Lib.hid hss
          clear hss
          have HBS : Hid (∀ k, Below w.heap.size w ((wr.drewN k).setCell ⟨g, m * 2, none⟩ (.int .i64 x))) := Lib.hid fun k => (HB.out.trans ((drewN_below wr k).mono hsz)).setCell hg _
          clear hst
          go_wp2_with fail
          go_quiet (fail)
          go_wp2_with fail
          go_roundw
          case rel => exact ⟨j + 1, o ++ [(x, q2)], by have := HI.out; rw [show (L.length : Int) - 1 - ((j + 1 : Nat) : Int) = (i : Int) - 1 by omega], by omega, HST2.out.symm, by simp; have := HMo.out; omega, by have h1 := HN.out nq; rw [HSS.out] at h1; rw [List.length_append, HMo.out]; exact h1, HBS.out _⟩
          case measure => simp [intOf] <;> omega
        · have hst := spStep_new (o := o ++ [(q1, q2)]) (x := x) (fun p hp => by rw [List.getLast?_concat] at hp; cases hp; exact hq)
          have HST2 := Lib.hid (HST.out.trans hst)
          have hqb : (q1 == x + 1) = false := beq_eq_false_iff_ne.2 hq
          have hbb : ∀ k, Below w.heap.size w (wr.drewN k) := fun k => HB.out.trans ((drewN_below wr k).mono hsz)
          have HBB := Lib.hid hbb
          clear hst hq hbb
          go_wp2_with fail
          go_quiet (fail)
          go_wp2_with fail
          go_region_held3 (fun w' => w'.cell? ⟨B, 0, none⟩ = some (.slice (some ⟨b, off, none⟩) L.length cap) ∧ w'.cell? ⟨b, off + i, none⟩ = some (.int .i64 x))
            (first | with_reducible exact ⟨hcb, hx⟩ | exact ⟨hcb, hx⟩ | exact keep2 (below_alloc _ _) (Nat.lt_of_lt_of_le hB hsz) (Nat.lt_of_lt_of_le hb hsz) (by assumption) | exact keep2 hb5' hB hb (by assumption))
            (first | (refine step_append_spans (by rfl) _ _ (by rfl) Try.underlying33 w.heap.size _ (m + 1) (o ++ [(q1, q2)]) (by rfl) (own_alloc HO.out _) _ [(x, x)] (by rfl) (lit_one _ x x _) (by simp; omega) (by simp; omega) ?_; intro v5 w5 hown5 hb5'))
          have hB5 := Lib.hid (((HBB.out _).alloc hsz (.cells #[.int .i64 x, .int .i64 x] 52)).trans hb5')
          have H5 := Lib.hid hown5
          clear hown5 hb5'
          go_wp2_with fail
          go_roundw
          case rel => exact ⟨j + 1, o ++ [(q1, q2)] ++ [(x, x)], by have := HI.out; rw [show (L.length : Int) - 1 - ((j + 1 : Nat) : Int) = (i : Int) - 1 by omega], by omega, HST2.out.symm, by simp; have := HMo.out; omega, by have h5 := H5.out; rw [List.length_append, List.length_append, HMo.out]; exact h5, hB5.out⟩
          case measure => simp [intOf] <;> omega
    · obtain rfl : j = L.length := by omega
      have e : O = spansOf L := by rw [hO, Nat.sub_self, List.drop_zero]; rfl
      subst e
      have e1 : (L.length : Int) - 1 - (L.length : Int) = -1 := by omega
      rw [e1]
      clear hO e1
      go_wp2_with fail
      go_ret
      exact ⟨_, rfl, ho, hbel⟩
theorem rspans_none {w : World} {B : Nat} (hc : w.cell? ⟨B, 0, none⟩ = some (.slice none 0 0)) :
    Calls Try.prog 11 #[.pointer (some ⟨B, 0, none⟩)] w fun e w' => e = .returned (.slice none 0 0) ∧ w = w' := by
  go_enter Try.func11, Try.ntmps11
  go_wp2_with fail
  go_loop [3, 4] (fun o i => o = .slice none 0 0 ∧ i = .int .i64 (-1)) (fun _ _ => 0)
  case atStart => exact ⟨rfl, rfl⟩
  case round =>
    obtain ⟨rfl, rfl⟩ := hrel
    go_wp2_with fail
    go_ret
    exact ⟨rfl, rfl⟩
theorem rspans_any {lo : Nat} {w : World} {B : Nat} {L : List Int} {F : Int} (h : Rm lo w B L F) :
    Calls Try.prog 11 #[.pointer (some ⟨B, 0, none⟩)] w fun e w' => ∃ v', e = .returned v' ∧ w'.ownsRow w.heap.size 52 2 v' (spansOf L).length (sc (spansOf L)) ∧ Below w.heap.size w w' := by
  rcases h.shape.2.2 with ⟨rfl, hc⟩ | ⟨b, off, cap, hc, h0, _, _, hb, _, h5⟩
  · refine (rspans_none hc).mono fun e w' ⟨he, hw⟩ => ?_
    subst hw
    exact ⟨_, he, World.ownsRow_nil _ _ _ _, Below.refl _ _⟩
  · exact rspans_some h.lt hb h.bnd hc h5 h.len h0
end Go.Proofs.Ytnfednhleedljaa
