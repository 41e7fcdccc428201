/- params.Read: all fields. -/
import Derived.Test.YtefcjggmlhoebaaDoorPRd7
namespace Go.Proofs.YtefcjggmlhoebaaDoor
open Go Go.RowKit

/-- Ten stores, one behind the other. -/
theorem chain10p {w : World} {G T : Nat} {z0 z1 z2 z3 z4 z5 z6 z7 z8 z9 : Value} (c0 c1 c2 c3 c4 c5 c6 c7 c8 c9 : Value) (h : w.heap[G]? = some (.cells #[z0, z1, z2, z3, z4, z5, z6, z7, z8, z9] T (0, 0))) :
    ((((((((((w.setCell ⟨G, 0, none⟩ c0).setCell ⟨G, 1, none⟩ c1).setCell ⟨G, 2, none⟩ c2).setCell ⟨G, 3, none⟩ c3).setCell ⟨G, 4, none⟩ c4).setCell ⟨G, 5, none⟩ c5).setCell ⟨G, 6, none⟩ c6).setCell ⟨G, 7, none⟩ c7).setCell ⟨G, 8, none⟩ c8).setCell ⟨G, 9, none⟩ c9).heap[G]? = some (.cells #[c0, c1, c2, c3, c4, c5, c6, c7, c8, c9] T (0, 0)) ∧ But G w ((((((((((w.setCell ⟨G, 0, none⟩ c0).setCell ⟨G, 1, none⟩ c1).setCell ⟨G, 2, none⟩ c2).setCell ⟨G, 3, none⟩ c3).setCell ⟨G, 4, none⟩ c4).setCell ⟨G, 5, none⟩ c5).setCell ⟨G, 6, none⟩ c6).setCell ⟨G, 7, none⟩ c7).setCell ⟨G, 8, none⟩ c8).setCell ⟨G, 9, none⟩ c9) := by
  have e0 := heap_setCell_same _ G 0 _ T c0 h
  simp only [List.setIfInBounds_toArray, List.set_cons_zero] at e0
  have e1 := heap_setCell_same _ G 1 _ T c1 e0
  simp only [List.setIfInBounds_toArray, List.set_cons_zero, List.set_cons_succ] at e1
  have e2 := heap_setCell_same _ G 2 _ T c2 e1
  simp only [List.setIfInBounds_toArray, List.set_cons_zero, List.set_cons_succ] at e2
  have e3 := heap_setCell_same _ G 3 _ T c3 e2
  simp only [List.setIfInBounds_toArray, List.set_cons_zero, List.set_cons_succ] at e3
  have e4 := heap_setCell_same _ G 4 _ T c4 e3
  simp only [List.setIfInBounds_toArray, List.set_cons_zero, List.set_cons_succ] at e4
  have e5 := heap_setCell_same _ G 5 _ T c5 e4
  simp only [List.setIfInBounds_toArray, List.set_cons_zero, List.set_cons_succ] at e5
  have e6 := heap_setCell_same _ G 6 _ T c6 e5
  simp only [List.setIfInBounds_toArray, List.set_cons_zero, List.set_cons_succ] at e6
  have e7 := heap_setCell_same _ G 7 _ T c7 e6
  simp only [List.setIfInBounds_toArray, List.set_cons_zero, List.set_cons_succ] at e7
  have e8 := heap_setCell_same _ G 8 _ T c8 e7
  simp only [List.setIfInBounds_toArray, List.set_cons_zero, List.set_cons_succ] at e8
  have e9 := heap_setCell_same _ G 9 _ T c9 e8
  simp only [List.setIfInBounds_toArray, List.set_cons_zero, List.set_cons_succ] at e9
  exact ⟨e9, (((((((((But.set w G 0 c0).trans (But.set _ G 1 c1)).trans (But.set _ G 2 c2)).trans (But.set _ G 3 c3)).trans (But.set _ G 4 c4)).trans (But.set _ G 5 c5)).trans (But.set _ G 6 c6)).trans (But.set _ G 7 c7)).trans (But.set _ G 8 c8)).trans (But.set _ G 9 c9)⟩
set_option maxRecDepth 20000 in
theorem params_results (tmps : Array Value) (w : World) (G : Nat) (c0 c1 c2 c3 c4 c5 c6 c7 c8 c9 : Value) (h2 : tmps[2]?.getD undef = .pointer (some ⟨G, 0, none⟩)) (hL : w.heap[G]? = some (.cells #[c0, c1, c2, c3, c4, c5, c6, c7, c8, c9] 79 (0, 0))) :
    (results Tryd.f70 tmps).run Tryd.prog w = .ok (.agg #[c0, c1, c2, c3, c4, c5, c6, c7, c8, c9]) w := by
  have hcc := fun i => cell_of_row w G i _ 79 (0, 0) hL
  have a0 := hcc 0
  have a1 := hcc 1
  have a2 := hcc 2
  have a3 := hcc 3
  have a4 := hcc 4
  have a5 := hcc 5
  have a6 := hcc 6
  have a7 := hcc 7
  have a8 := hcc 8
  have a9 := hcc 9
  clear hcc
  simp [results, Tryd.results70, h2, asAddr, a0, a1, a2, a3, a4, a5, a6, a7, a8, a9, go_sem]

set_option maxRecDepth 20000 in
set_option maxHeartbeats 8000000 in
theorem params_any {w0 w : World} {zs : List Int} {R B : Nat} {t : Nat} (hF : Fq w0 w B zs t 3) (hq : Rq w R B (.pointer none) p0 nilS nilS nilS nilS) (h1 : w0.heap.size ≤ B) (h2 : B < R) :
    Calls Tryd.prog 70 #[.pointer (some ⟨R, 0, none⟩)] w (PPost zs w R B) := by
  have hlt := hq.lt
  have HG0 : Hid (∀ w1, MapFP w1 (w.heap.size + 1) 6 fnOfP → Below (w.heap.size + 1) (w.alloc (.cells (pCells p0 nilS nilS nilS nilS) 79)) w1 → Lp w0 w zs B R w.heap.size (w.heap.size + 1) (-1) 0 zs.length (.pointer none) p0 nilS nilS nilS nilS fnOfP zs t w1) := Lib.hid (by
    intro w1 hm hb
    have ha := below_alloc w (.cells (pCells p0 nilS nilS nilS nilS) 79)
    have hb' : Below w.heap.size w w1 := ha.trans (hb.mono (by omega))
    refine ⟨⟨⟨_, _, hF.keep hb'⟩, hq.below hb', hm, ?_, KqP.of_below hb', ⟨h1, h2, hlt, rfl, rfl⟩⟩, hF.keep hb', .inl ⟨rfl, rfl⟩, fun _ _ => rfl, by decide, rfl, Nat.le_refl _, by omega⟩
    rw [hb.block w.heap.size (by omega)]
    exact heap_alloc_new w _)
  have hk := takers_any (w.alloc (.cells (pCells p0 nilS nilS nilS nilS) 79))
  rw [World.size_alloc] at hk
  have HH := Lib.hid (And.intro h1 (And.intro h2 hlt))
  clear hF hq h1 h2 hlt
  go_enter Tryd.func70, Tryd.ntmps70
  dsimp only [pCells, p0, nilS] at hk
  go_wp2_with (go_at_call 82; refine hk.mono ?_; rintro e w1 ⟨rfl, hm1, hb1⟩)
  have hL := HG0.out w1 hm1 hb1
  clear HG0 hk hm1 hb1
  go_loopw [4] (fun lv wr => ∃ last m k bd p v5 v6 v7 v9 f rest t, lv = .int .i64 last ∧ Hid (Lp w0 w zs B R w.heap.size (w.heap.size + 1) last m k bd p v5 v6 v7 v9 f rest t wr)) (fun _ wr => leftW wr B)
  case atStart => exact ⟨_, _, _, _, _, _, _, _, _, _, _, _, rfl, Lib.hid hL⟩
  case round =>
    obtain ⟨last, m, k, bd, p, v5, v6, v7, v9, f, rest, t2, rfl, HL⟩ := hrel
    clear hL
    have c0 := HL.out.lc.c0
    have hleft := left_q HL.out.fq
    have hlen := HL.out.fq.sum
    by_cases hz : rest.length = 0
    · obtain rfl := List.eq_nil_of_length_eq_zero hz
      obtain ⟨hrun, hri⟩ := HL.out.done
      have HRUN := Lib.hid hrun
      have HRI := Lib.hid hri
      have hlk : ∀ {j : Int}, (Lit.int .i64 j).wf = true → (Instr.lookup 110 (.map (some (w.heap.size + 1))) (.int .i64 j) true).run Tryd.prog (wr.alloc (.cells #[.int .i64 1, .int .i64 4, .int .i64 17] 3)) = .ok (.tuple #[(f j).getD .nilFunc, .bool (f j).isSome]) (wr.alloc (.cells #[.int .i64 1, .int .i64 4, .int .i64 17] 3)) :=
        fun hj => (HL.out.lc.mp.below (below_alloc wr _)).look hj
      have k1 := hlk (wfMP (k := 1) (by omega) (by omega))
      have k4 := hlk (wfMP (k := 4) (by omega) (by omega))
      have k17 := hlk (wfMP (k := 17) (by omega) (by omega))
      have K1 := Lib.hid k1
      have K4 := Lib.hid k4
      have K17 := Lib.hid k17
      have HC := Lib.hid (HL.out.lc.below (below_alloc wr (.cells #[.int .i64 1, .int .i64 4, .int .i64 17] 3)))
      have hx0 : (wr.alloc (.cells #[.int .i64 1, .int .i64 4, .int .i64 17] 3)).cell? ⟨wr.heap.size, 0, none⟩ = some (.int .i64 1) := by simp [go_sem]
      have hx1 : (wr.alloc (.cells #[.int .i64 1, .int .i64 4, .int .i64 17] 3)).cell? ⟨wr.heap.size, 1, none⟩ = some (.int .i64 4) := by simp [go_sem]
      have hx2 : (wr.alloc (.cells #[.int .i64 1, .int .i64 4, .int .i64 17] 3)).cell? ⟨wr.heap.size, 2, none⟩ = some (.int .i64 17) := by simp [go_sem]
      have hB1 := below_alloc wr (.cells #[.int .i64 1, .int .i64 4, .int .i64 17] 3)
      have HRI2 := Lib.hid (hri.below hB1)
      clear hrun hri hlk k1 k4 k17 hz hlen hB1
      go_wp2_with (go_at_call 62; refine hleft.mono ?_; rintro e w2 ⟨rfl, rfl⟩)
      clear hleft c0
      generalize wr.alloc (.cells #[.int .i64 1, .int .i64 4, .int .i64 17] 3) = W at *
      go_loopw [66] (fun iv w2 => ∃ i : Nat, iv = .int .i64 i ∧ i ≤ 3 ∧ W = w2 ∧ Hid ((0 < i → f 1 = none) ∧ (1 < i → f 4 = none) ∧ (2 < i → f 17 = none))) (fun iv _ => 3 - (intOf iv).toNat)
      case atStart => exact ⟨0, rfl, by omega, rfl, Lib.hid ⟨fun h => absurd h (by omega), fun h => absurd h (by omega), fun h => absurd h (by omega)⟩⟩
      case round =>
        obtain ⟨i, rfl, hi, rfl, HI⟩ := hrel
        have hi4 : i = 0 ∨ i = 1 ∨ i = 2 ∨ i = 3 := by omega
        rcases hi4 with rfl | rfl | rfl | rfl
        · have k1 := K1.out
          cases hf1 : f 1 with
          | none =>
            rw [hf1] at k1
            go_wp2_with (go_at_call 39; refine (want_yes _ _).mono ?_; rintro e w9 ⟨rfl, rfl⟩)
            go_round
            case rel => exact ⟨1, rfl, by omega, (by first | trivial | rfl), Lib.hid ⟨fun _ => (by first | trivial | exact hf1), fun h => absurd h (by omega), fun h => absurd h (by omega)⟩⟩
            case measure => simp [intOf]
          | some fv =>
            rw [hf1] at k1
            have HNO : Hid (readP zs = none) := Lib.hid (readP_lack HRUN.out fun h => by rw [h.1] at hf1; cases hf1)
            go_wp2_with (go_at_call 39; refine (want_no _ _).mono ?_; rintro e w9 ⟨he, rfl⟩; rw [errPanic] at he; subst he)
            exact ⟨rfl, .inl ⟨HNO.out, rfl, HC.out.kqP⟩⟩
        · have k1 := K4.out
          cases hf1 : f 4 with
          | none =>
            rw [hf1] at k1
            go_wp2_with (go_at_call 39; refine (want_yes _ _).mono ?_; rintro e w9 ⟨rfl, rfl⟩)
            go_round
            case rel => exact ⟨2, rfl, by omega, (by first | trivial | rfl), Lib.hid ⟨fun _ => HI.out.1 (by omega), fun _ => (by first | trivial | exact hf1), fun h => absurd h (by omega)⟩⟩
            case measure => simp [intOf]
          | some fv =>
            rw [hf1] at k1
            have HNO : Hid (readP zs = none) := Lib.hid (readP_lack HRUN.out fun h => by rw [h.2.1] at hf1; cases hf1)
            go_wp2_with (go_at_call 39; refine (want_no _ _).mono ?_; rintro e w9 ⟨he, rfl⟩; rw [errPanic] at he; subst he)
            exact ⟨rfl, .inl ⟨HNO.out, rfl, HC.out.kqP⟩⟩
        · have k1 := K17.out
          cases hf1 : f 17 with
          | none =>
            rw [hf1] at k1
            go_wp2_with (go_at_call 39; refine (want_yes _ _).mono ?_; rintro e w9 ⟨rfl, rfl⟩)
            go_round
            case rel => exact ⟨3, rfl, by omega, (by first | trivial | rfl), Lib.hid ⟨fun _ => HI.out.1 (by omega), fun _ => HI.out.2.1 (by omega), fun _ => (by first | trivial | exact hf1)⟩⟩
            case measure => simp [intOf]
          | some fv =>
            rw [hf1] at k1
            have HNO : Hid (readP zs = none) := Lib.hid (readP_lack HRUN.out fun h => by rw [h.2.2] at hf1; cases hf1)
            go_wp2_with (go_at_call 39; refine (want_no _ _).mono ?_; rintro e w9 ⟨he, rfl⟩; rw [errPanic] at he; subst he)
            exact ⟨rfl, .inl ⟨HNO.out, rfl, HC.out.kqP⟩⟩
        · have hall : f 1 = none ∧ f 4 = none ∧ f 17 = none := ⟨HI.out.1 (by omega), HI.out.2.1 (by omega), HI.out.2.2 (by omega)⟩
          have HALL := Lib.hid hall
          have hpr : Pr W p v5 v6 v7 v9 := ⟨HC.out.rq.g, HC.out.rq.o, HC.out.rq.r, HRI2.out.rd⟩
          have hright := right_any hpr
          obtain ⟨c0, c1, c2, c3, c4, c5, c6, c7, c8, c9, c10, c11, cf⟩ := HC.out.rq.cells
          obtain ⟨a5, k5, rfl⟩ := hpr.g.shape
          obtain ⟨a6, k6, rfl⟩ := hpr.o.shape
          obtain ⟨a7, k7, rfl⟩ := hpr.r.shape
          obtain ⟨a9, k9, rfl⟩ := hpr.l.shape
          clear hall hpr hx0 hx1 hx2
          cases hr : rightP p with
          | false =>
            have HNO : Hid (readP zs = none) := Lib.hid (readP_wrong HRUN.out hr)
            rw [hr] at hright
            have HR := Lib.hid hr
            clear hr
            go_wp2_with (first
              | (go_at_call 85; refine hright.mono ?_; rintro e w3 ⟨rfl, hb3⟩)
              | (go_at_call 39; refine (want_no _ _).mono ?_; rintro e w9 ⟨he, rfl⟩; rw [errPanic] at he; subst he))
            exact ⟨rfl, .inl ⟨HNO.out, rfl, HC.out.kqP.trans (KqP.of_below hb3)⟩⟩
          | true =>
            have HYES : Hid (readP zs = some p) := Lib.hid (readP_yes HRUN.out HALL.out hr)
            rw [hr] at hright
            clear hr
            go_wp2_with (first
              | (go_at_call 85; refine hright.mono ?_; rintro e w3 ⟨rfl, hb3⟩; have H3 := Lib.hid (HC.out.below hb3); obtain ⟨c0, c1, c2, c3, c4, c5, c6, c7, c8, c9, c10, c11, cf⟩ := H3.out.rq.cells; obtain ⟨g0, g1, g2, g3, g4, g5, g6, g7, g8, g9⟩ := pcells H3.out.gx; have gf : ∀ j, w3.frozen? ⟨w.heap.size, j, none⟩ = false := fun j => by simp [World.frozen?, H3.out.gx])
              | (go_at_call 39; refine (want_yes _ _).mono ?_; rintro e w9 ⟨rfl, rfl⟩))
            obtain ⟨hG, hBt⟩ := chain10p (.int .i64 p.i) (.int .i64 p.d) (.bool p.hg) (.bool p.ho) (.bool p.hr) (.slice a5 p.g.length k5) (.slice a6 p.o.length k6) (.slice a7 p.r.length k7) (.int .i64 p.c) (.slice a9 p.l.length k9) H3.out.gx
            have hnG : NoB w3 w.heap.size := noB_cells H3.out.gx (by
              intro v hv x
              simp only [nilS, List.mem_cons, List.not_mem_nil, or_false] at hv
              rcases hv with rfl | rfl | rfl | rfl | rfl | rfl | rfl | rfl | rfl | rfl <;> simp)
            refine bodyPost_ret (params_results _ _ w.heap.size _ _ _ _ _ _ _ _ _ _ rfl hG) rfl (.inr ⟨p, _, _, _, _, HYES.out, rfl, ⟨H3.out.rq.g.but hBt hnG, H3.out.rq.o.but hBt hnG, H3.out.rq.r.but hBt hnG, (HRI2.out.below hb3).but hBt (Nat.lt_succ_self _)⟩, ?_⟩)
            have hk3 := H3.out.kqP
            exact ⟨hBt.os.trans hk3.os, hBt.tape.trans hk3.tape, hBt.output.trans hk3.output, Nat.le_trans hk3.size hBt.size, fun k hk1 hn hm => (hBt.block k (Nat.lt_of_lt_of_le hk1 hk3.size) (by omega)).trans (hk3.block k hk1 hn hm)⟩
    · have hpos : 0 < rest.length := by omega
      have hbyt : Byt rest := by obtain ⟨_, _, hr, _⟩ := HL.out.fq.box; exact hr.byt
      rcases rd_size hbyt with ⟨e0, ⟨en1, en2⟩, s1, es, es1, _, hs1⟩ | ⟨e1, e2, e3⟩
      · have hrd : rd rest = ((rd rest).1, (s1 : Int), 0) := by rw [← es, ← e0]
        have hn1 := number_q HL.out.fq _ s1 hrd hs1
        have HN := Lib.hid hrd
        have hwf := wfMP (k := (rd rest).1) en1 (by omega)
        have HML := Lib.hid (fun (w2 : World) (h : MapFP w2 (w.heap.size + 1) 6 f) => h.look hwf)
        by_cases hok : last < (rd rest).1 ∧ ∃ fv, fnOfP (rd rest).1 = some fv
        · obtain ⟨hl, fv, hfv⟩ := hok
          obtain ⟨F, rfl, tk, hn17⟩ := fn_tk hfv
          have hfn : f (rd rest).1 = some (.func (.func F) #[] #[]) := by rw [HL.out.up _ hl]; exact hfv
          have hl9 : v9 = nilS ∧ p.l = [] := by
            rcases HL.out.l9 with h | ⟨h, _⟩
            · exact h
            · omega
          obtain ⟨rfl, hpl⟩ := hl9
          have HPL := Lib.hid hpl
          have HFN := Lib.hid hfn
          have hlt : decide (last < (rd rest).1) = true := decide_eq_true hl
          have hby1 := hbyt.drop s1
          have HE0 := Lib.hid e0
          have HES := Lib.hid es
          clear hpl hrd HN HML e0 es hfv
          generalize hN1 : (rd rest).1 = n1 at *
          have HN1 := Lib.hid hN1
          clear hN1
          rcases rd_size hby1 with ⟨g0, ⟨gn1, gn2⟩, s2, gs, gs1, _, hs2⟩ | ⟨g1, g2, g3⟩
          · have hrd2 : rd (rest.drop s1) = ((rd (rest.drop s1)).1, (s2 : Int), 0) := by rw [← gs, ← g0]
            by_cases hsh : (((rest.drop s1).drop s2).length : Int) < (rd (rest.drop s1)).1
            · have HNO : Hid (readP zs = none) := Lib.hid (readP_no (by
                rw [HL.out.run]; refine rf_cut hpos (cut_no3 ?_)
                rw [HES.out, Int.toNat_natCast, gs, Int.toNat_natCast]; omega))
              have HSH := Lib.hid hsh
              clear hsh gs gs1 g0 gn1 gn2
              have HRD2 := Lib.hid hrd2
              clear hrd2
              generalize (rd (rest.drop s1)).1 = N2 at *
              go_wp2_with (first
          | (go_at_call 62; refine hleft.mono ?_; rintro e w1 ⟨rfl, rfl⟩)
            | (go_at_call 83; refine hn1.mono ?_; rintro e w2 ⟨rfl, hF2, hb2⟩; have HC := Lib.hid (HL.out.lc.but hb2 hF2); have hlk := HC.out.mp.look hwf; rw [hfn] at hlk; have c0 := HC.out.c0)
            | (go_at_call 39; refine (want_yes _ _).mono ?_; rintro e w3 ⟨rfl, rfl⟩))
              have hn2 := number_q hF2.drew _ s2 HRD2.out hs2
              clear hF2
              refine wp_region_held_drew (S := fun w' => w'.cell? ⟨R, 0, none⟩ = some (.pointer (some ⟨B, 0, none⟩))) (by kernel_rfl) c0 (fun _ => ?_)
              refine wpAnyH_take (i := 0) (oi := { dst := some 37, op := Op.move (Operand.tmp 0), type := 109, pos := "reader.go:34", after := #[], guard := none }) (v := ?_) rfl (by kernel_rfl) (by kernel_rfl) (by kernel_rfl) (fun _ _ _ h => h) (Or.inl ⟨by rfl, ?_⟩) (by exact c0) ?_
              rotate_left
              · intro w hSw; (try dsimp only at hSw); go_simp; try (with_reducible rfl)
              repeat (first | simp only [Act.put] | simp only [List.setIfInBounds_toArray] | simp only [List.set_cons_zero] | simp only [List.set_cons_succ])
              refine wpAnyH_take (i := 1) (oi := { dst := some 38, op := Op.move (Operand.tmp 0), type := 109, pos := "reader.go:34", after := #[], guard := none }) (v := ?_) rfl (by kernel_rfl) (by kernel_rfl) (by kernel_rfl) (fun _ _ _ h => h) (Or.inl ⟨by rfl, ?_⟩) (by exact c0) ?_
              rotate_left
              · intro w hSw; (try dsimp only at hSw); go_simp; try (with_reducible rfl)
              repeat (first | simp only [Act.put] | simp only [List.setIfInBounds_toArray] | simp only [List.set_cons_zero] | simp only [List.set_cons_succ])
              refine wpAnyH_take (i := 2) (oi := { dst := some 39, op := Op.nilCheck (Operand.tmp 38), type := 0, pos := "reader.go:34", after := #[{ on := 1, ground := Ground.data }], guard := none }) (v := ?_) rfl (by kernel_rfl) (by kernel_rfl) (by kernel_rfl) (fun _ _ _ h => h) (Or.inl ⟨by rfl, ?_⟩) (by exact c0) ?_
              rotate_left
              · intro w hSw; (try dsimp only at hSw); go_simp; try (with_reducible rfl)
              repeat (first | simp only [Act.put] | simp only [List.setIfInBounds_toArray] | simp only [List.set_cons_zero] | simp only [List.set_cons_succ])
              refine wpAnyH_take (i := 3) (oi := { dst := some 40, op := Op.fieldAddr 102 (Operand.tmp 39) 0, type := 0, pos := "reader.go:34", after := #[{ on := 2, ground := Ground.data }], guard := none }) (v := ?_) rfl (by kernel_rfl) (by kernel_rfl) (by kernel_rfl) (fun _ _ _ h => h) (Or.inl ⟨by rfl, ?_⟩) (by exact c0) ?_
              rotate_left
              · intro w hSw; (try dsimp only at hSw); go_simp; try (with_reducible rfl)
              repeat (first | simp only [Act.put] | simp only [List.setIfInBounds_toArray] | simp only [List.set_cons_zero] | simp only [List.set_cons_succ])
              refine wpAnyH_take (i := 4) (oi := { dst := some 41, op := Op.load 56 (Operand.tmp 40), type := 56, pos := "reader.go:34", after := #[{ on := 3, ground := Ground.data }], guard := none }) (v := ?_) rfl (by kernel_rfl) (by kernel_rfl) (by kernel_rfl) (fun _ _ _ h => h) (Or.inl ⟨by rfl, ?_⟩) (by exact c0) ?_
              rotate_left
              · intro w hSw; (try dsimp only at hSw); go_simp; try (with_reducible rfl)
              repeat (first | simp only [Act.put] | simp only [List.setIfInBounds_toArray] | simp only [List.set_cons_zero] | simp only [List.set_cons_succ])
              refine wpAnyH_take (i := 5) (oi := { dst := some 42, op := Op.move (Operand.tmp 0), type := 109, pos := "reader.go:34", after := #[], guard := none }) (v := ?_) rfl (by kernel_rfl) (by kernel_rfl) (by kernel_rfl) (fun _ _ _ h => h) (Or.inl ⟨by rfl, ?_⟩) (by exact c0) ?_
              rotate_left
              · intro w hSw; (try dsimp only at hSw); go_simp; try (with_reducible rfl)
              repeat (first | simp only [Act.put] | simp only [List.setIfInBounds_toArray] | simp only [List.set_cons_zero] | simp only [List.set_cons_succ])
              refine wpAnyH_take (i := 6) (oi := { dst := some 43, op := Op.nilCheck (Operand.tmp 42), type := 0, pos := "reader.go:34", after := #[{ on := 5, ground := Ground.data }], guard := none }) (v := ?_) rfl (by kernel_rfl) (by kernel_rfl) (by kernel_rfl) (fun _ _ _ h => h) (Or.inl ⟨by rfl, ?_⟩) (by exact c0) ?_
              rotate_left
              · intro w hSw; (try dsimp only at hSw); go_simp; try (with_reducible rfl)
              repeat (first | simp only [Act.put] | simp only [List.setIfInBounds_toArray] | simp only [List.set_cons_zero] | simp only [List.set_cons_succ])
              refine wpAnyH_take (i := 7) (oi := { dst := some 44, op := Op.fieldAddr 102 (Operand.tmp 43) 0, type := 0, pos := "reader.go:34", after := #[{ on := 6, ground := Ground.data }], guard := none }) (v := ?_) rfl (by kernel_rfl) (by kernel_rfl) (by kernel_rfl) (fun _ _ _ h => h) (Or.inl ⟨by rfl, ?_⟩) (by exact c0) ?_
              rotate_left
              · intro w hSw; (try dsimp only at hSw); go_simp; try (with_reducible rfl)
              repeat (first | simp only [Act.put] | simp only [List.setIfInBounds_toArray] | simp only [List.set_cons_zero] | simp only [List.set_cons_succ])
              refine wpAnyH_take (i := 8) (oi := { dst := some 45, op := Op.load 56 (Operand.tmp 44), type := 56, pos := "reader.go:34", after := #[{ on := 7, ground := Ground.data }], guard := none }) (v := ?_) rfl (by kernel_rfl) (by kernel_rfl) (by kernel_rfl) (fun _ _ _ h => h) (Or.inl ⟨by rfl, ?_⟩) (by exact c0) ?_
              rotate_left
              · intro w hSw; (try dsimp only at hSw); go_simp; try (with_reducible rfl)
              repeat (first | simp only [Act.put] | simp only [List.setIfInBounds_toArray] | simp only [List.set_cons_zero] | simp only [List.set_cons_succ])
              refine wpAnyH_ready (rs := [9]) (by kernel_rfl) (by simp) ?_
              refine AllReadyH.cons (o := { dst := some 46, op := Op.call { callee := Callee.value (Operand.func 83), args := #[Operand.tmp 45], argTypes := #[56] }, type := 3, pos := "reader.go:34", after := #[{ on := 8, ground := Ground.data }], guard := none }) rfl (fun K hK => ?_) AllReadyH.nil
              go_simp
              refine hn2.mono ?_
              rintro e w3 ⟨rfl, hF3, hb3⟩
              have h3 := HC.out.but ((But.refl B w2).drew.trans hb3) hF3
              have k3 := h3.c0
              refine hK.out _ _ k3 (fun _ => ?_)
              clear hK K
              repeat (first | simp only [Act.put] | simp only [List.setIfInBounds_toArray] | simp only [List.set_cons_zero] | simp only [List.set_cons_succ])
              refine wpAnyH_ready (rs := [10]) (by kernel_rfl) (by simp) ?_
              refine AllReadyH.cons (o := { dst := some 47, op := Op.call { callee := Callee.value (Operand.func 84), args := #[Operand.tmp 41, Operand.tmp 46], argTypes := #[56, 3] }, type := 22, pos := "reader.go:34", after := #[{ on := 4, ground := Ground.data }, { on := 9, ground := Ground.data }, { on := 9, ground := Ground.chain }], guard := none }) rfl (fun K hK => ?_) AllReadyH.nil
              go_simp
              have hn3 := bytes_e hF3 _ HSH.out
              refine hn3.mono ?_
              rintro e w4 ⟨he, hb4⟩
              rw [errPanic] at he
              subst he
              exact ⟨rfl, .inl ⟨HNO.out, rfl, h3.kqP.trans (KqP.r hb4)⟩⟩
            · have hcut : cutP rest = some (n1, ((rest.drop s1).drop s2).take (rd (rest.drop s1)).1.toNat, ((rest.drop s1).drop s2).drop (rd (rest.drop s1)).1.toNat) := by
                have h1 := cut_yes (zs := rest) HE0.out (by rw [HES.out, Int.toNat_natCast]; exact g0) (by rw [HES.out, Int.toNat_natCast, gs, Int.toNat_natCast]; omega)
                rw [HES.out, Int.toNat_natCast, gs, Int.toNat_natCast, HN1.out] at h1
                exact h1
              have HCUT := Lib.hid hcut
              have HN2 : Hid (((rd (rest.drop s1)).1.toNat : Int) = (rd (rest.drop s1)).1) := Lib.hid (by omega)
              have HSH : Hid ((rd (rest.drop s1)).1.toNat ≤ ((rest.drop s1).drop s2).length) := Lib.hid (by omega)
              have HRD2 := Lib.hid hrd2
              clear hsh gs gs1 g0 gn1 gn2 hrd2 hcut
              generalize (rd (rest.drop s1)).1 = N2 at *
              have HVL : Hid ((((rest.drop s1).drop s2).take N2.toNat).length ≤ 1000000) := Lib.hid (by simp; omega)
              have HSL : Hid ((((rest.drop s1).drop s2).drop N2.toNat).length < rest.length) := Lib.hid (by simp; omega)
              go_wp2_with (first
          | (go_at_call 62; refine hleft.mono ?_; rintro e w1 ⟨rfl, rfl⟩)
            | (go_at_call 83; refine hn1.mono ?_; rintro e w2 ⟨rfl, hF2, hb2⟩; have HC := Lib.hid (HL.out.lc.but hb2 hF2); have hlk := HC.out.mp.look hwf; rw [hfn] at hlk; have c0 := HC.out.c0)
            | (go_at_call 39; refine (want_yes _ _).mono ?_; rintro e w3 ⟨rfl, rfl⟩))
              have hn2 := number_q hF2.drew _ s2 HRD2.out hs2
              clear hF2
              refine wp_region_held_drew (S := fun w' => w'.cell? ⟨R, 0, none⟩ = some (.pointer (some ⟨B, 0, none⟩))) (by kernel_rfl) c0 (fun _ => ?_)
              refine wpAnyH_take (i := 0) (oi := { dst := some 37, op := Op.move (Operand.tmp 0), type := 109, pos := "reader.go:34", after := #[], guard := none }) (v := ?_) rfl (by kernel_rfl) (by kernel_rfl) (by kernel_rfl) (fun _ _ _ h => h) (Or.inl ⟨by rfl, ?_⟩) (by exact c0) ?_
              rotate_left
              · intro w hSw; (try dsimp only at hSw); go_simp; try (with_reducible rfl)
              repeat (first | simp only [Act.put] | simp only [List.setIfInBounds_toArray] | simp only [List.set_cons_zero] | simp only [List.set_cons_succ])
              refine wpAnyH_take (i := 1) (oi := { dst := some 38, op := Op.move (Operand.tmp 0), type := 109, pos := "reader.go:34", after := #[], guard := none }) (v := ?_) rfl (by kernel_rfl) (by kernel_rfl) (by kernel_rfl) (fun _ _ _ h => h) (Or.inl ⟨by rfl, ?_⟩) (by exact c0) ?_
              rotate_left
              · intro w hSw; (try dsimp only at hSw); go_simp; try (with_reducible rfl)
              repeat (first | simp only [Act.put] | simp only [List.setIfInBounds_toArray] | simp only [List.set_cons_zero] | simp only [List.set_cons_succ])
              refine wpAnyH_take (i := 2) (oi := { dst := some 39, op := Op.nilCheck (Operand.tmp 38), type := 0, pos := "reader.go:34", after := #[{ on := 1, ground := Ground.data }], guard := none }) (v := ?_) rfl (by kernel_rfl) (by kernel_rfl) (by kernel_rfl) (fun _ _ _ h => h) (Or.inl ⟨by rfl, ?_⟩) (by exact c0) ?_
              rotate_left
              · intro w hSw; (try dsimp only at hSw); go_simp; try (with_reducible rfl)
              repeat (first | simp only [Act.put] | simp only [List.setIfInBounds_toArray] | simp only [List.set_cons_zero] | simp only [List.set_cons_succ])
              refine wpAnyH_take (i := 3) (oi := { dst := some 40, op := Op.fieldAddr 102 (Operand.tmp 39) 0, type := 0, pos := "reader.go:34", after := #[{ on := 2, ground := Ground.data }], guard := none }) (v := ?_) rfl (by kernel_rfl) (by kernel_rfl) (by kernel_rfl) (fun _ _ _ h => h) (Or.inl ⟨by rfl, ?_⟩) (by exact c0) ?_
              rotate_left
              · intro w hSw; (try dsimp only at hSw); go_simp; try (with_reducible rfl)
              repeat (first | simp only [Act.put] | simp only [List.setIfInBounds_toArray] | simp only [List.set_cons_zero] | simp only [List.set_cons_succ])
              refine wpAnyH_take (i := 4) (oi := { dst := some 41, op := Op.load 56 (Operand.tmp 40), type := 56, pos := "reader.go:34", after := #[{ on := 3, ground := Ground.data }], guard := none }) (v := ?_) rfl (by kernel_rfl) (by kernel_rfl) (by kernel_rfl) (fun _ _ _ h => h) (Or.inl ⟨by rfl, ?_⟩) (by exact c0) ?_
              rotate_left
              · intro w hSw; (try dsimp only at hSw); go_simp; try (with_reducible rfl)
              repeat (first | simp only [Act.put] | simp only [List.setIfInBounds_toArray] | simp only [List.set_cons_zero] | simp only [List.set_cons_succ])
              refine wpAnyH_take (i := 5) (oi := { dst := some 42, op := Op.move (Operand.tmp 0), type := 109, pos := "reader.go:34", after := #[], guard := none }) (v := ?_) rfl (by kernel_rfl) (by kernel_rfl) (by kernel_rfl) (fun _ _ _ h => h) (Or.inl ⟨by rfl, ?_⟩) (by exact c0) ?_
              rotate_left
              · intro w hSw; (try dsimp only at hSw); go_simp; try (with_reducible rfl)
              repeat (first | simp only [Act.put] | simp only [List.setIfInBounds_toArray] | simp only [List.set_cons_zero] | simp only [List.set_cons_succ])
              refine wpAnyH_take (i := 6) (oi := { dst := some 43, op := Op.nilCheck (Operand.tmp 42), type := 0, pos := "reader.go:34", after := #[{ on := 5, ground := Ground.data }], guard := none }) (v := ?_) rfl (by kernel_rfl) (by kernel_rfl) (by kernel_rfl) (fun _ _ _ h => h) (Or.inl ⟨by rfl, ?_⟩) (by exact c0) ?_
              rotate_left
              · intro w hSw; (try dsimp only at hSw); go_simp; try (with_reducible rfl)
              repeat (first | simp only [Act.put] | simp only [List.setIfInBounds_toArray] | simp only [List.set_cons_zero] | simp only [List.set_cons_succ])
              refine wpAnyH_take (i := 7) (oi := { dst := some 44, op := Op.fieldAddr 102 (Operand.tmp 43) 0, type := 0, pos := "reader.go:34", after := #[{ on := 6, ground := Ground.data }], guard := none }) (v := ?_) rfl (by kernel_rfl) (by kernel_rfl) (by kernel_rfl) (fun _ _ _ h => h) (Or.inl ⟨by rfl, ?_⟩) (by exact c0) ?_
              rotate_left
              · intro w hSw; (try dsimp only at hSw); go_simp; try (with_reducible rfl)
              repeat (first | simp only [Act.put] | simp only [List.setIfInBounds_toArray] | simp only [List.set_cons_zero] | simp only [List.set_cons_succ])
              refine wpAnyH_take (i := 8) (oi := { dst := some 45, op := Op.load 56 (Operand.tmp 44), type := 56, pos := "reader.go:34", after := #[{ on := 7, ground := Ground.data }], guard := none }) (v := ?_) rfl (by kernel_rfl) (by kernel_rfl) (by kernel_rfl) (fun _ _ _ h => h) (Or.inl ⟨by rfl, ?_⟩) (by exact c0) ?_
              rotate_left
              · intro w hSw; (try dsimp only at hSw); go_simp; try (with_reducible rfl)
              repeat (first | simp only [Act.put] | simp only [List.setIfInBounds_toArray] | simp only [List.set_cons_zero] | simp only [List.set_cons_succ])
              refine wpAnyH_ready (rs := [9]) (by kernel_rfl) (by simp) ?_
              refine AllReadyH.cons (o := { dst := some 46, op := Op.call { callee := Callee.value (Operand.func 83), args := #[Operand.tmp 45], argTypes := #[56] }, type := 3, pos := "reader.go:34", after := #[{ on := 8, ground := Ground.data }], guard := none }) rfl (fun K hK => ?_) AllReadyH.nil
              go_simp
              refine hn2.mono ?_
              rintro e w3 ⟨rfl, hF3, hb3⟩
              have h3 := HC.out.but ((But.refl B w2).drew.trans hb3) hF3
              have k3 := h3.c0
              refine hK.out _ _ k3 (fun _ => ?_)
              clear hK K
              repeat (first | simp only [Act.put] | simp only [List.setIfInBounds_toArray] | simp only [List.set_cons_zero] | simp only [List.set_cons_succ])
              refine wpAnyH_ready (rs := [10]) (by kernel_rfl) (by simp) ?_
              refine AllReadyH.cons (o := { dst := some 47, op := Op.call { callee := Callee.value (Operand.func 84), args := #[Operand.tmp 41, Operand.tmp 46], argTypes := #[56, 3] }, type := 22, pos := "reader.go:34", after := #[{ on := 4, ground := Ground.data }, { on := 9, ground := Ground.data }, { on := 9, ground := Ground.chain }], guard := none }) rfl (fun K hK => ?_) AllReadyH.nil
              go_simp
              have hn3 := bytes_q hF3 N2.toNat HSH.out
              rw [HN2.out] at hn3
              refine hn3.mono ?_
              rintro e w4 ⟨bv, rfl, ⟨hbv, hbp⟩, hF4, hb4⟩
              have h4 := h3.but hb4 hF4
              have k4 := h4.c0
              have hof := of_q (short := 3) hbv.rd hbp HVL.out
              have h5 := h4.below (below_alloc w4 (.cells #[bv, .int .i64 0, .int .i64 3] 87))
              have k5 := h5.c0
              have c15 := h5.c1
              have f5 := h5.fz
              obtain ⟨ba, bn, bc, rfl⟩ := hbp.slice
              refine hK.out _ _ k4 (fun _ => ?_)
              clear hK K
              repeat (first | simp only [Act.put] | simp only [List.setIfInBounds_toArray] | simp only [List.set_cons_zero] | simp only [List.set_cons_succ])
              refine wpAnyH_ready (rs := [11]) (by kernel_rfl) (by simp) ?_
              refine AllReadyH.cons (o := { dst := some 48, op := Op.call { callee := Callee.value (Operand.func 40), args := #[Operand.tmp 47, Operand.const (Value.int IntKind.i64 3)], argTypes := #[22, 35] }, type := 56, pos := "reader.go:34", after := #[{ on := 10, ground := Ground.data }, { on := 10, ground := Ground.chain }], guard := none }) rfl (fun K hK => ?_) AllReadyH.nil
              go_simp
              refine hof.mono ?_
              rintro e w5 ⟨rfl, hF5, rfl⟩
              refine hK.out _ _ k5 (fun _ => ?_)
              clear hK K
              repeat (first | simp only [Act.put] | simp only [List.setIfInBounds_toArray] | simp only [List.set_cons_zero] | simp only [List.set_cons_succ])
              refine wpAnyH_take (i := 12) (oi := { dst := some 49, op := Op.nilCheck (Operand.tmp 37), type := 0, pos := "reader.go:34", after := #[{ on := 0, ground := Ground.data }, { on := 0, ground := Ground.phase }, { on := 1, ground := Ground.phase }, { on := 2, ground := Ground.phase }, { on := 3, ground := Ground.phase }, { on := 4, ground := Ground.phase }, { on := 5, ground := Ground.phase }, { on := 6, ground := Ground.phase }, { on := 7, ground := Ground.phase }, { on := 8, ground := Ground.phase }, { on := 9, ground := Ground.phase }, { on := 10, ground := Ground.phase }, { on := 11, ground := Ground.phase }], guard := none }) (v := ?_) rfl (by kernel_rfl) (by kernel_rfl) (by kernel_rfl) (fun _ _ _ h => h) (Or.inl ⟨by rfl, ?_⟩) (by exact k5) ?_
              rotate_left
              · intro w hSw; (try dsimp only at hSw); go_simp; try (with_reducible rfl)
              repeat (first | simp only [Act.put] | simp only [List.setIfInBounds_toArray] | simp only [List.set_cons_zero] | simp only [List.set_cons_succ])
              refine wpAnyH_take (i := 13) (oi := { dst := some 50, op := Op.fieldAddr 102 (Operand.tmp 49) 1, type := 0, pos := "reader.go:34", after := #[{ on := 12, ground := Ground.data }, { on := 0, ground := Ground.phase }, { on := 1, ground := Ground.phase }, { on := 2, ground := Ground.phase }, { on := 3, ground := Ground.phase }, { on := 4, ground := Ground.phase }, { on := 5, ground := Ground.phase }, { on := 6, ground := Ground.phase }, { on := 7, ground := Ground.phase }, { on := 8, ground := Ground.phase }, { on := 9, ground := Ground.phase }, { on := 10, ground := Ground.phase }, { on := 11, ground := Ground.phase }], guard := none }) (v := ?_) rfl (by kernel_rfl) (by kernel_rfl) (by kernel_rfl) (fun _ _ _ h => h) (Or.inl ⟨by rfl, ?_⟩) (by exact k5) ?_
              rotate_left
              · intro w hSw; (try dsimp only at hSw); go_simp; try (with_reducible rfl)
              repeat (first | simp only [Act.put] | simp only [List.setIfInBounds_toArray] | simp only [List.set_cons_zero] | simp only [List.set_cons_succ])
              refine wpAnyH_ready (rs := [14]) (by kernel_rfl) (by simp) ?_
              refine AllReadyH.cons (o := { dst := none, op := Op.store 56 (Operand.tmp 50) (Operand.tmp 48), type := 0, pos := "reader.go:34", after := #[{ on := 13, ground := Ground.data }, { on := 11, ground := Ground.data }, { on := 11, ground := Ground.chain }, { on := 0, ground := Ground.phase }, { on := 1, ground := Ground.phase }, { on := 2, ground := Ground.phase }, { on := 3, ground := Ground.phase }, { on := 4, ground := Ground.phase }, { on := 5, ground := Ground.phase }, { on := 6, ground := Ground.phase }, { on := 7, ground := Ground.phase }, { on := 8, ground := Ground.phase }, { on := 9, ground := Ground.phase }, { on := 10, ground := Ground.phase }, { on := 11, ground := Ground.phase }], guard := none }) rfl (fun K hK => ?_) AllReadyH.nil
              go_simp
              have h6 := h5.set1 w4.heap.size
              have k6 := h6.c0
              refine hK.out _ _ k6 (fun _ => ?_)
              clear hK K
              repeat (first | simp only [Act.put] | simp only [List.setIfInBounds_toArray] | simp only [List.set_cons_zero] | simp only [List.set_cons_succ])
              refine wpAnyH_done (by kernel_rfl) ?_ _
              have hent := tk.ent
              have hdq : Dq ((w4.alloc (.cells #[.slice ba bn bc, .int .i64 0, .int .i64 3] 87)).setCell ⟨R, 1, none⟩ (.pointer (some ⟨w4.heap.size, 0, none⟩))) w4.heap.size (((rest.drop s1).drop s2).take N2.toNat) :=
                Dq.set ⟨w4, 0, rfl, hF5⟩ h5.rq.noB h4.rq.lt 1 _
              have hT := tk.does _ R B w4.heap.size p v5 v6 v7 _ h6.rq h4.rq.lt HPL.out hdq
              have H6 := Lib.hid h6
              have hF6 := (hF4.keep (below_alloc w4 (.cells #[.slice ba bn bc, .int .i64 0, .int .i64 3] 87))).but (But.set _ R 1 (.pointer (some ⟨w4.heap.size, 0, none⟩))) (by have := HH.out; omega) (by have := HH.out; omega)
              have HF6 := Lib.hid hF6
              have hsz6 : Hid (w4.heap.size < ((w4.alloc (.cells #[.slice ba bn bc, .int .i64 0, .int .i64 3] 87)).setCell ⟨R, 1, none⟩ (.pointer (some ⟨w4.heap.size, 0, none⟩))).heap.size) := Lib.hid (by simp [World.setCell])
              have HMD : Hid (w.heap.size + 1 < w4.heap.size) := Lib.hid h4.mp.lt
              clear hn2 hn3 hn1 h3 k3 h4 k4 hof h5 k5 c15 f5 h6 k6 hF3 hF4 hF5 hb3 hb4 hbv hdq hF6 hlk hb2
              generalize ((w4.alloc (.cells #[.slice ba bn bc, .int .i64 0, .int .i64 3] 87)).setCell ⟨R, 1, none⟩ (.pointer (some ⟨w4.heap.size, 0, none⟩))) = w6 at *
              generalize w4.heap.size = D at *
              go_wp2_with fail
              refine hT.mono ?_
              rintro e w7 (⟨he, hk7, hno7⟩ | ⟨p', u5, u6, u7, u9, rest', rfl, hq7, hd7, hk7, hr7, h97, hy, hn⟩)
              · have HNO : Hid (readP zs = none) := Lib.hid (readP_no (by rw [HL.out.run]; exact rf_low hpos HCUT.out (.inr hno7)))
                have HKQ := Lib.hid (H6.out.kqd hk7 HMD.out)
                rw [errPanic] at he
                subst he
                go_wp2_with fail
                exact ⟨rfl, .inl ⟨HNO.out, rfl, HKQ.out⟩⟩
              · have h7 := H6.out.took hk7 HMD.out hq7
                have c1 := h7.c1
                obtain ⟨wb, tb, hsb, hFb⟩ := hd7
                have hleft7 := left_q hFb
                have H7 := Lib.hid h7
                have HF7 := Lib.hid (HF6.out.kqP hk7 (by have := HH.out; omega) (by have := HH.out; have := HMD.out; omega) (by have := HH.out; omega) (by have := HH.out; have := HMD.out; omega))
                have HY := Lib.hid hy
                have HN7 := Lib.hid hn
                have HWF := Lib.hid hwf
                have HR7 := Lib.hid hr7
                have H97 := Lib.hid h97
                have HHL := Lib.hid hl
                clear h7 hq7 hFb hsb hy hn hr7 h97 hk7 hT hent c0
                by_cases hz7 : rest'.length = 0
                · obtain rfl := List.eq_nil_of_length_eq_zero hz7
                  have HMP := Lib.hid H7.out.mp
                  obtain ⟨w8, hdel, hm8, hg8⟩ := HMP.out.drop HWF.out 0
                  have HM8 := Lib.hid hm8
                  have HG8 := Lib.hid hg8
                  clear hm8 hg8 hz7
                  go_wp2_with (first
                    | (go_at_call 62; refine hleft7.mono ?_; rintro e w9 ⟨rfl, rfl⟩)
                    | (go_at_call 39; refine (want_yes _ _).mono ?_; rintro e w9 ⟨rfl, rfl⟩))
                  have hm8 := HM8.out
                  have hg8 := HG8.out
                  have h8 := H7.out.del hm8 hg8
                  have hF8 := HF7.out.but (but_grown hg8) (by have := HH.out; omega) (by have := HH.out; omega)
                  have HST := Lib.hid (HL.out.step hpos HCUT.out HHL.out HFN.out (HY.out (by first | trivial | rfl)) h8 hF8 (by
                    by_cases h17 : n1 < 17
                    · exact .inl (H97.out h17)
                    · exact .inr ⟨by omega, (HR7.out.mono (by have := hsz6.out; have := HMD.out; omega)).butC (but_grown hg8) (noC_map HMP.out)⟩) HSL.out)
                  go_round
                  case rel => exact ⟨_, _, _, _, _, _, _, _, _, _, _, _, rfl, HST⟩
                  case measure => rw [hF8.leftW, HL.out.fq.leftW]; exact HSL.out
                · have hpos7 : 0 < rest'.length := by omega
                  have HNO : Hid (readP zs = none) := Lib.hid (readP_no (by rw [HL.out.run]; exact rf_low hpos HCUT.out (.inr (HN7.out fun e => hz7 (by rw [e]; rfl)))))
                  have hb7 : ((rest'.length : Int) == 0) = false := beq_eq_false_iff_ne.2 (by omega)
                  go_wp2_with (first
                    | (go_at_call 62; refine hleft7.mono ?_; rintro e w8 ⟨rfl, rfl⟩)
                    | (go_at_call 39; with_reducible refine (want_no _ _).mono ?_; (rintro e w9 ⟨he, rfl⟩; rw [errPanic] at he; subst he)))
                  exact ⟨rfl, .inl ⟨HNO.out, rfl, H7.out.kqP⟩⟩
          · have hrd2 : rd (rest.drop s1) = (0, 0, (rd (rest.drop s1)).2.2) := Prod.ext g1 (Prod.ext g2 rfl)
            have HNO : Hid (readP zs = none) := Lib.hid (readP_no (by
              rw [HL.out.run]; refine rf_cut hpos (cut_no2 ?_)
              rw [HES.out, Int.toNat_natCast]; omega))
            have e4 : (if (rd (rest.drop s1)).2.2 = 2 then (3 : Int) else (rd (rest.drop s1)).2.2) = 3 := by split <;> omega
            have HE4 := Lib.hid e4
            have HRD2 := Lib.hid hrd2
            have HG3 := Lib.hid g3
            clear g1 g2 g3 e4 hrd2
            go_wp2_with (first
          | (go_at_call 62; refine hleft.mono ?_; rintro e w1 ⟨rfl, rfl⟩)
            | (go_at_call 83; refine hn1.mono ?_; rintro e w2 ⟨rfl, hF2, hb2⟩; have HC := Lib.hid (HL.out.lc.but hb2 hF2); have hlk := HC.out.mp.look hwf; rw [hfn] at hlk; have c0 := HC.out.c0)
            | (go_at_call 39; refine (want_yes _ _).mono ?_; rintro e w3 ⟨rfl, rfl⟩))
            have hn2 := number_e hF2.drew _ HRD2.out HG3.out
            rw [HE4.out] at hn2
            clear hF2
            refine wp_region_held_drew (S := fun w' => w'.cell? ⟨R, 0, none⟩ = some (.pointer (some ⟨B, 0, none⟩))) (by kernel_rfl) c0 (fun _ => ?_)
            refine wpAnyH_take (i := 0) (oi := { dst := some 37, op := Op.move (Operand.tmp 0), type := 109, pos := "reader.go:34", after := #[], guard := none }) (v := ?_) rfl (by kernel_rfl) (by kernel_rfl) (by kernel_rfl) (fun _ _ _ h => h) (Or.inl ⟨by rfl, ?_⟩) (by exact c0) ?_
            rotate_left
            · intro w hSw; (try dsimp only at hSw); go_simp; try (with_reducible rfl)
            repeat (first | simp only [Act.put] | simp only [List.setIfInBounds_toArray] | simp only [List.set_cons_zero] | simp only [List.set_cons_succ])
            refine wpAnyH_take (i := 1) (oi := { dst := some 38, op := Op.move (Operand.tmp 0), type := 109, pos := "reader.go:34", after := #[], guard := none }) (v := ?_) rfl (by kernel_rfl) (by kernel_rfl) (by kernel_rfl) (fun _ _ _ h => h) (Or.inl ⟨by rfl, ?_⟩) (by exact c0) ?_
            rotate_left
            · intro w hSw; (try dsimp only at hSw); go_simp; try (with_reducible rfl)
            repeat (first | simp only [Act.put] | simp only [List.setIfInBounds_toArray] | simp only [List.set_cons_zero] | simp only [List.set_cons_succ])
            refine wpAnyH_take (i := 2) (oi := { dst := some 39, op := Op.nilCheck (Operand.tmp 38), type := 0, pos := "reader.go:34", after := #[{ on := 1, ground := Ground.data }], guard := none }) (v := ?_) rfl (by kernel_rfl) (by kernel_rfl) (by kernel_rfl) (fun _ _ _ h => h) (Or.inl ⟨by rfl, ?_⟩) (by exact c0) ?_
            rotate_left
            · intro w hSw; (try dsimp only at hSw); go_simp; try (with_reducible rfl)
            repeat (first | simp only [Act.put] | simp only [List.setIfInBounds_toArray] | simp only [List.set_cons_zero] | simp only [List.set_cons_succ])
            refine wpAnyH_take (i := 3) (oi := { dst := some 40, op := Op.fieldAddr 102 (Operand.tmp 39) 0, type := 0, pos := "reader.go:34", after := #[{ on := 2, ground := Ground.data }], guard := none }) (v := ?_) rfl (by kernel_rfl) (by kernel_rfl) (by kernel_rfl) (fun _ _ _ h => h) (Or.inl ⟨by rfl, ?_⟩) (by exact c0) ?_
            rotate_left
            · intro w hSw; (try dsimp only at hSw); go_simp; try (with_reducible rfl)
            repeat (first | simp only [Act.put] | simp only [List.setIfInBounds_toArray] | simp only [List.set_cons_zero] | simp only [List.set_cons_succ])
            refine wpAnyH_take (i := 4) (oi := { dst := some 41, op := Op.load 56 (Operand.tmp 40), type := 56, pos := "reader.go:34", after := #[{ on := 3, ground := Ground.data }], guard := none }) (v := ?_) rfl (by kernel_rfl) (by kernel_rfl) (by kernel_rfl) (fun _ _ _ h => h) (Or.inl ⟨by rfl, ?_⟩) (by exact c0) ?_
            rotate_left
            · intro w hSw; (try dsimp only at hSw); go_simp; try (with_reducible rfl)
            repeat (first | simp only [Act.put] | simp only [List.setIfInBounds_toArray] | simp only [List.set_cons_zero] | simp only [List.set_cons_succ])
            refine wpAnyH_take (i := 5) (oi := { dst := some 42, op := Op.move (Operand.tmp 0), type := 109, pos := "reader.go:34", after := #[], guard := none }) (v := ?_) rfl (by kernel_rfl) (by kernel_rfl) (by kernel_rfl) (fun _ _ _ h => h) (Or.inl ⟨by rfl, ?_⟩) (by exact c0) ?_
            rotate_left
            · intro w hSw; (try dsimp only at hSw); go_simp; try (with_reducible rfl)
            repeat (first | simp only [Act.put] | simp only [List.setIfInBounds_toArray] | simp only [List.set_cons_zero] | simp only [List.set_cons_succ])
            refine wpAnyH_take (i := 6) (oi := { dst := some 43, op := Op.nilCheck (Operand.tmp 42), type := 0, pos := "reader.go:34", after := #[{ on := 5, ground := Ground.data }], guard := none }) (v := ?_) rfl (by kernel_rfl) (by kernel_rfl) (by kernel_rfl) (fun _ _ _ h => h) (Or.inl ⟨by rfl, ?_⟩) (by exact c0) ?_
            rotate_left
            · intro w hSw; (try dsimp only at hSw); go_simp; try (with_reducible rfl)
            repeat (first | simp only [Act.put] | simp only [List.setIfInBounds_toArray] | simp only [List.set_cons_zero] | simp only [List.set_cons_succ])
            refine wpAnyH_take (i := 7) (oi := { dst := some 44, op := Op.fieldAddr 102 (Operand.tmp 43) 0, type := 0, pos := "reader.go:34", after := #[{ on := 6, ground := Ground.data }], guard := none }) (v := ?_) rfl (by kernel_rfl) (by kernel_rfl) (by kernel_rfl) (fun _ _ _ h => h) (Or.inl ⟨by rfl, ?_⟩) (by exact c0) ?_
            rotate_left
            · intro w hSw; (try dsimp only at hSw); go_simp; try (with_reducible rfl)
            repeat (first | simp only [Act.put] | simp only [List.setIfInBounds_toArray] | simp only [List.set_cons_zero] | simp only [List.set_cons_succ])
            refine wpAnyH_take (i := 8) (oi := { dst := some 45, op := Op.load 56 (Operand.tmp 44), type := 56, pos := "reader.go:34", after := #[{ on := 7, ground := Ground.data }], guard := none }) (v := ?_) rfl (by kernel_rfl) (by kernel_rfl) (by kernel_rfl) (fun _ _ _ h => h) (Or.inl ⟨by rfl, ?_⟩) (by exact c0) ?_
            rotate_left
            · intro w hSw; (try dsimp only at hSw); go_simp; try (with_reducible rfl)
            repeat (first | simp only [Act.put] | simp only [List.setIfInBounds_toArray] | simp only [List.set_cons_zero] | simp only [List.set_cons_succ])
            refine wpAnyH_ready (rs := [9]) (by kernel_rfl) (by simp) ?_
            refine AllReadyH.cons (o := { dst := some 46, op := Op.call { callee := Callee.value (Operand.func 83), args := #[Operand.tmp 45], argTypes := #[56] }, type := 3, pos := "reader.go:34", after := #[{ on := 8, ground := Ground.data }], guard := none }) rfl (fun K hK => ?_) AllReadyH.nil
            go_simp
            refine hn2.mono ?_
            rintro e w4 ⟨he, hb4⟩
            rw [errPanic] at he
            subst he
            exact ⟨rfl, .inl ⟨HNO.out, rfl, HC.out.kqP.trans (KqP.r (((But.refl B w2).drew).trans hb4))⟩⟩
        · have HNO : Hid (readP zs = none) := Lib.hid (readP_no (by
            rw [HL.out.run]
            cases hc : cutP rest with
            | none => exact rf_cut hpos hc
            | some x =>
              obtain ⟨n, v, s⟩ := x
              have en := cut_n hc
              refine rf_low hpos hc ?_
              by_cases hl : n ≤ last
              · exact .inl hl
              · refine .inr (fn_noneP ?_ p v)
                cases hf : fnOfP n with
                | none => rfl
                | some fv => exact absurd ⟨by omega, fv, by rw [← en]; exact hf⟩ hok))
          have HKQ := Lib.hid (fun (w3 : World) (hb : But B wr w3) => HL.out.lc.kqP.trans (KqP.r (R := R) hb))
          have HMP := Lib.hid (fun (w3 : World) {r3 : List Int} {t3 : Nat} (hb : But B wr w3) (hF : Fq w0 w3 B r3 t3 3) => (HL.out.lc.but hb hF).mp)
          have hdec : (f (rd rest).1).isSome = true → decide (last < (rd rest).1) = false := fun hs => by
            refine decide_eq_false fun hl => hok ⟨hl, ?_⟩
            rw [HL.out.up _ hl] at hs
            exact Option.isSome_iff_exists.1 hs
          generalize (rd rest).1 = n1 at *
          have HD := Lib.hid hdec
          clear hdec hok
          cases hsm : (f n1).isSome with
          | true =>
            have hd := HD.out hsm
            go_wp2_with (first
              | (go_at_call 62; refine hleft.mono ?_; rintro e w2 ⟨rfl, rfl⟩)
              | (go_at_call 83; refine hn1.mono ?_; rintro e w3 ⟨rfl, hF3, hb3⟩; have hlk := HML.out w3 (HMP.out w3 hb3 hF3); rw [hsm] at hlk)
              | (go_at_call 39; refine (want_no _ _).mono ?_; rintro e w4 ⟨he, rfl⟩; rw [errPanic] at he; subst he))
            exact ⟨rfl, .inl ⟨HNO.out, rfl, HKQ.out _ hb3⟩⟩
          | false =>
            go_wp2_with (first
              | (go_at_call 62; refine hleft.mono ?_; rintro e w2 ⟨rfl, rfl⟩)
              | (go_at_call 83; refine hn1.mono ?_; rintro e w3 ⟨rfl, hF3, hb3⟩; have hlk := HML.out w3 (HMP.out w3 hb3 hF3); rw [hsm] at hlk)
              | (go_at_call 39; refine (want_no _ _).mono ?_; rintro e w4 ⟨he, rfl⟩; rw [errPanic] at he; subst he))
            exact ⟨rfl, .inl ⟨HNO.out, rfl, HKQ.out _ hb3⟩⟩
      · have hrd : rd rest = (0, 0, (rd rest).2.2) := Prod.ext e1 (Prod.ext e2 rfl)
        have hn1 := number_e HL.out.fq _ hrd e3
        have HNO : Hid (readP zs = none) := Lib.hid (readP_no (by rw [HL.out.run]; exact rf_cut hpos (cut_no1 (by omega))))
        have e4 : (if (rd rest).2.2 = 2 then (3 : Int) else (rd rest).2.2) = 3 := by split <;> omega
        rw [e4] at hn1
        clear e1 e2 e3 e4 hrd
        go_wp2_with (first
          | (go_at_call 62; refine hleft.mono ?_; rintro e w2 ⟨rfl, rfl⟩)
          | (go_at_call 83; refine hn1.mono ?_; rintro e w3 ⟨he, hb1⟩; rw [errPanic] at he; subst he))
        exact ⟨rfl, .inl ⟨HNO.out, rfl, HL.out.lc.kqP.trans (KqP.r hb1)⟩⟩
end Go.Proofs.YtefcjggmlhoebaaDoor
