/- special: what the document's ReadList tells. -/
import Derived.Test.YtjdlmmbkppaenaaQApp1
import Derived.Test.YtjdlmmbkppaenaaQDRetry
namespace Go.Proofs.Ytjdlmmbkppaenaa
open Go Go.RowKit

theorem versOf_len (r : List Int) (k : Nat) : (versOf r k).length = k := by simp [versOf]
theorem versOf_succ (r : List Int) (k : Nat) : versOf r (k + 1) = versOf r k ++ [say4 ((r.drop (4 * k)).take 4)] := by simp [versOf, List.range_succ]
/-- What ReadList ends with. -/
def DLRet (b : Bool) (to fr vs : List Int) (w : World) (r : Ending) (w' : World) : Prop :=
  ∃ vt vf vi, r = .returned (.tuple #[.agg #[vt, vf, vi], .bool b]) ∧ (Rd w' vt (if b then to else []) ∧ Rd w' vf (if b then fr else []) ∧ Ri w' vi (if b then vs else [])) ∧ Below w.heap.size w w'
theorem chain3_row {w : World} {G : Nat} {T : TypeId} {z0 z1 z2 : Value} (h3 : w.heap[G]? = some (.cells #[z0, z1, z2] T (0, 0))) (c0 c1 c2 : Value) : (((w.setCell ⟨G, 0, none⟩ c0).setCell ⟨G, 1, none⟩ c1).setCell ⟨G, 2, none⟩ c2).heap[G]? = some (.cells #[c0, c1, c2] T (0, 0)) := by
  have e0 := heap_setCell_same w G 0 _ T c0 h3
  simp only [List.setIfInBounds_toArray, List.set_cons_zero] at e0
  have e1 := heap_setCell_same _ G 1 _ T c1 e0
  simp only [List.setIfInBounds_toArray, List.set_cons_zero, List.set_cons_succ] at e1
  have e2 := heap_setCell_same _ G 2 _ T c2 e1
  simp only [List.setIfInBounds_toArray, List.set_cons_zero, List.set_cons_succ] at e2
  exact e2
theorem chain3_below {w0 w : World} {G : Nat} (hb : Below w0.heap.size w0 w) (hG : w0.heap.size ≤ G) (c0 c1 c2 : Value) : Below w0.heap.size w0 (((w.setCell ⟨G, 0, none⟩ c0).setCell ⟨G, 1, none⟩ c1).setCell ⟨G, 2, none⟩ c2) :=
  ((hb.setCell (p := ⟨G, 0, none⟩) hG c0).setCell (p := ⟨G, 1, none⟩) hG c1).setCell (p := ⟨G, 2, none⟩) hG c2
theorem chain3_ra {w : World} {G lo : Nat} {v : Value} {zs : List Int} (h : Ra lo w v zs) (hG : G < lo) (c0 c1 c2 : Value) : Ra lo (((w.setCell ⟨G, 0, none⟩ c0).setCell ⟨G, 1, none⟩ c1).setCell ⟨G, 2, none⟩ c2) v zs :=
  ((h.set (p := ⟨G, 0, none⟩) hG c0).set (p := ⟨G, 1, none⟩) hG c1).set (p := ⟨G, 2, none⟩) hG c2
theorem chain3_rai {w : World} {G lo : Nat} {v : Value} {zs : List Int} (h : Rai lo w v zs) (hG : G < lo) (c0 c1 c2 : Value) : Rai lo (((w.setCell ⟨G, 0, none⟩ c0).setCell ⟨G, 1, none⟩ c1).setCell ⟨G, 2, none⟩ c2) v zs :=
  ((h.set (p := ⟨G, 0, none⟩) hG c0).set (p := ⟨G, 1, none⟩) hG c1).set (p := ⟨G, 2, none⟩) hG c2
theorem cellsL3 {w : World} {M : Nat} {T : TypeId} {c0 c1 c2 : Value} (h : w.heap[M]? = some (.cells #[c0, c1, c2] T (0, 0))) :
    w.cell? ⟨M, 0, none⟩ = some c0 ∧ w.cell? ⟨M, 1, none⟩ = some c1 ∧ w.cell? ⟨M, 2, none⟩ = some c2 ∧ ∀ j, w.frozen? ⟨M, j, none⟩ = false :=
  ⟨(cell_of_row w M 0 _ _ (0, 0) h).trans rfl, (cell_of_row w M 1 _ _ (0, 0) h).trans rfl, (cell_of_row w M 2 _ _ (0, 0) h).trans rfl, fun j => by simp [World.frozen?, h]⟩
theorem dlist_results (tmps : Array Value) (w : World) (M : Nat) (c0 c1 c2 x : Value) (h2 : tmps[2]?.getD undef = .pointer (some ⟨M, 0, none⟩)) (h3 : tmps[3]?.getD undef = x)
    (hL : w.heap[M]? = some (.cells #[c0, c1, c2] 25 (0, 0))) :
    (results Try.f17 tmps).run Try.prog w = .ok (.tuple #[.agg #[c0, c1, c2], x]) w := by
  obtain ⟨a0, a1, a2, _⟩ := cellsL3 hL
  simp [results, Try.results17, go_sem, h2, h3, a0, a1, a2]
theorem wpList_append_one {w : World} {ops : Array Oper} {rest : List Oper} {o : Oper} {a : Act} {Q : Exit → Act → World → Prop} (hgd : o.guard = none) (s x : Operand)
    (ho : o.op = .call { callee := .builtin .append, args := #[s, x], argTypes := #[23, 23] }) (base : Nat) (v : Value) (n : Nat) (xs : List Int) (hs : a.eval s = v)
    (hown : w.ownsRow base 3 1 v n (xs.map (Value.int .i64))) (g : Nat) (y : Int) (hx : a.eval x = .slice (some ⟨g, 0, none⟩) 1 1) (hc : w.cell? ⟨g, 0, none⟩ = some (.int .i64 y)) (hn : n ≤ 1000) (hbase : base ≤ w.heap.size)
    (h : ∀ v' w', w'.ownsRow base 3 1 v' (n + 1) ((xs ++ [y]).map (Value.int .i64)) → w.grownBy w' v.ownBlock → wpList Try.prog ops Q rest (a.put o.dst v') w') : wpList Try.prog ops Q (o :: rest) a w :=
  wpList_plain hgd fun _ hK => wp_append_one s x ho base v n xs hs hown g y hx hc hn hbase fun v' w' h2 h3 => hK _ _ (h v' w' h2 h3)
/-- A row of numbers that the call owns reads. -/
theorem rai_of_own {w : World} {base n : Nat} {v : Value} {vs : List Int} (h : w.ownsRow base 3 1 v n (vs.map (Value.int .i64))) : Rai base w v vs ∧ n = vs.length := by
  have hn : vs.length = n := by have := h.1; simpa using this
  subst hn
  have hcell := fun g (hg : v.ownBlock = some g) => World.ownsRow.cells h hg
  refine ⟨⟨?_, ?_⟩, rfl⟩
  · rcases h.2 with ⟨rfl, h0⟩ | ⟨g, cap, cur, rfl, _, hh, h1, h2, h3, h4⟩
    · obtain rfl := List.eq_nil_of_length_eq_zero h0
      exact Ri.nil w
    · refine ⟨some ⟨g, 0, none⟩, cap, rfl, h1, h2, (fun h => by cases h), fun a ha j hj => ?_⟩
      cases ha
      exact hcell g rfl j _ (by simp [hj])
  · intro a n cap e _
    have := (h.lt a.block (by rw [e]; rfl)).1
    exact this
theorem slice_of_own {w : World} {base e size n : Nat} {v : Value} {xs : List Value} (h : w.ownsRow base e size v n xs) : ∃ ao m cap, v = .slice ao m cap := by
  rcases h.2 with ⟨rfl, _⟩ | ⟨g, cap, cur, rfl, _⟩
  · exact ⟨_, _, _, rfl⟩
  · exact ⟨_, _, _, rfl⟩
theorem cell_new1 (w : World) (y : Int) : (w.alloc (.cells #[.int .i64 y] 3)).cell? ⟨w.heap.size, 0, none⟩ = some (.int .i64 y) := by simp [go_sem]
theorem alloc_le (w : World) (o : Obj) {n : Nat} (h : n < w.heap.size) : n + 1 ≤ (w.alloc o).heap.size := by simp; omega
/-- What holds in the document's loop. -/
structure Dl (w : World) (G M : Nat) (vt vf : Value) (vs : List Int) (wr : World) : Prop where
  bel : Below w.heap.size w wr
  gx : ∃ vi, wr.heap[G]? = some (.cells #[vt, vf, vi] 25 (0, 0)) ∧ wr.ownsRow (G + 1) 3 1 vi vs.length (vs.map (Value.int .i64))
  mx : wr.heap[M]? = some (.cells #[.slice none 0 0, .slice none 0 0, .slice none 0 0] 25 (0, 0))
  mg : M < G
  mw : w.heap.size ≤ M
theorem Dl.drewN {w wr : World} {G M : Nat} {vt vf : Value} {vs : List Int} (h : Dl w G M vt vf vs wr) (k : Nat) : Dl w G M vt vf vs (wr.drewN k) := by
  obtain ⟨vi, h1, h2⟩ := h.gx
  exact ⟨h.bel.trans ⟨rfl, rfl, rfl, Nat.le_refl _, fun _ _ => rfl⟩, ⟨vi, h1, h2⟩, h.mx, h.mg, h.mw⟩
/-- One version more. -/
theorem Dl.more {w wr w2 : World} {G M : Nat} {vt vf vi vi2 : Value} {vs : List Int} {y : Int} {o : Obj} (h : Dl w G M vt vf vs wr) (h1 : wr.heap[G]? = some (.cells #[vt, vf, vi] 25 (0, 0))) (hv : ∀ g, vi.ownBlock = some g → G + 1 ≤ g)
    (hown : w2.ownsRow (G + 1) 3 1 vi2 (vs.length + 1) ((vs ++ [y]).map (Value.int .i64))) (hg : (wr.alloc o).grownBy w2 vi.ownBlock) : Dl w G M vt vf (vs ++ [y]) (w2.setCell ⟨G, 2, none⟩ vi2) := by
  have hGl := blk_lt' h1
  have hMl := blk_lt' h.mx
  have hMG := h.mg
  have hkeep : ∀ k, k < wr.heap.size → vi.ownBlock ≠ some k → w2.heap[k]? = wr.heap[k]? := fun k hk hn => by
    rw [hg.block k (by simp; omega) (fun e => hn e.symm)]
    exact (below_alloc wr o).block k hk
  have hG2 : w2.heap[G]? = some (.cells #[vt, vf, vi] 25 (0, 0)) := by
    rw [hkeep G hGl (fun e => by have := hv G e; omega)]; exact h1
  have hM2 : w2.heap[M]? = some (.cells #[.slice none 0 0, .slice none 0 0, .slice none 0 0] 25 (0, 0)) := by
    rw [hkeep M hMl (fun e => by have := hv M e; omega)]; exact h.mx
  have e2 := heap_setCell_same w2 G 2 _ 25 vi2 hG2
  simp only [List.setIfInBounds_toArray, List.set_cons_zero, List.set_cons_succ] at e2
  refine ⟨?_, ⟨vi2, e2, ?_⟩, ?_, h.mg, h.mw⟩
  · have hb : Below w.heap.size w w2 := by
      have := h.bel.size
      have hmw := h.mw
      refine (h.bel.alloc this o).trans ⟨hg.os, hg.tape, hg.output, hg.size, fun k hk => ?_⟩
      exact hg.block k (by simp; omega) (fun e => by have := hv k e.symm; omega)
    exact hb.setCell (p := ⟨G, 2, none⟩) (by show w.heap.size ≤ G; have := h.mw; omega) _
  · have := own_keepQ (w' := w2.setCell ⟨G, 2, none⟩ vi2) hown fun g hgg => Below.heap_setCell _ _ _ _ (by have := (hown.lt g hgg).1; show g ≠ G; omega)
    simpa using this
  · rw [Below.heap_setCell _ _ _ _ (show M ≠ G by omega)]; exact hM2
set_option maxRecDepth 20000 in
set_option maxHeartbeats 4000000 in
theorem dreadlist_any {w : World} {v : Value} {zs : List Int} (hr : Rd w v zs) (hp : Plain v) (hl : zs.length ≤ 40000) (s : Int × List Int × List Int × List Int × Bool) (hs : startP zs 128 = s) :
    Calls Try.prog 17 #[v] w fun r w' => DLRet (dlB s) s.2.1 s.2.2.1 (versOf s.2.2.2.1 (s.2.2.2.1.length / 4)) w r w' := by
  obtain ⟨W, hW⟩ : ∃ W, w.alloc (.cells #[.slice none 0 0, .slice none 0 0, .slice none 0 0] 25) = W := ⟨_, rfl⟩
  have hbW : Below w.heap.size w W := by rw [← hW]; exact below_alloc w _
  have hM : W.heap[w.heap.size]? = some (.cells #[.slice none 0 0, .slice none 0 0, .slice none 0 0] 25 (0, 0)) := by rw [← hW]; exact heap_alloc_new w _
  have HW := Lib.hid hbW
  have c1 := start_any hbW hr hp (by omega) 128 (by omega)
  rw [hs] at c1
  obtain ⟨V, T, F, R, ok⟩ := s
  simp only at c1 ⊢
  clear hr hbW hp hs
  go_enter Try.func17, Try.ntmps17
  go_wp2_with fail
  clear hW
  refine c1.mono ?_
  rintro e1 w1 ⟨vt, vf, vr, rfl, ⟨rt, _⟩, ⟨rf', _⟩, ⟨rr, hpr⟩, b1⟩
  have hM1 := (b1.block _ (blk_lt' hM)).trans hM
  have HM1 := Lib.hid hM1
  have HB1 := Lib.hid (HW.out.trans (b1.mono HW.out.size))
  have HRD := Lib.hid (And.intro rt rf')
  clear c1
  obtain ⟨m0, m1, m2, mf⟩ := cellsL3 hM1
  obtain ⟨a2, d2, rfl⟩ := rt.shape
  obtain ⟨a3, d3, rfl⟩ := rf'.shape
  clear hM hM1 b1 rt rf'
  by_cases hgood : ok = true ∧ V = 0 ∧ 0 < R.length ∧ R.length % 4 = 0 ∧ R.length ≤ 64
  case neg =>
    have hd : dlB (V, T, F, R, ok) = false := by
      simp only [dlB]
      cases ok with
      | false => simp
      | true =>
        by_cases h1 : V = 0
        · by_cases h2 : 0 < R.length
          · by_cases h3 : R.length % 4 = 0
            · have h4 : ¬ R.length ≤ 64 := fun h4 => hgood ⟨rfl, h1, h2, h3, h4⟩
              simp [h4]
            · simp [h3]
          · simp [h2]
        · simp [h1]
    have HDF := Lib.hid hd
    have HEND := Lib.hid (chain3_row HM1.out (.slice none 0 0) (.slice none 0 0) (.slice none 0 0))
    have HBE := Lib.hid (chain3_below HB1.out (Nat.le_refl _) (.slice none 0 0) (.slice none 0 0) (.slice none 0 0))
    obtain ⟨a4, d4, rfl⟩ := rr.shape
    clear rr hpr hd
    cases ok with
    | false =>
      clear hgood
      go_wp2_with fail
      refine bodyPost_ret (dlist_results _ _ w.heap.size _ _ _ _ rfl rfl HEND.out) rfl ?_
      rw [HDF.out]
      exact ⟨_, _, _, rfl, ⟨Rd.nil _, Rd.nil _, Ri.nil _⟩, HBE.out⟩
    | true =>
      by_cases h1 : V = 0
      · subst h1
        by_cases h2 : R.length = 0
        · clear hgood
          rw [h2]
          clear h2
          go_wp2_with fail
          refine bodyPost_ret (dlist_results _ _ w.heap.size _ _ _ _ rfl rfl HEND.out) rfl ?_
          rw [HDF.out]
          exact ⟨_, _, _, rfl, ⟨Rd.nil _, Rd.nil _, Ri.nil _⟩, HBE.out⟩
        · have e2 : ((R.length : Int) == 0) = false := beq_eq_false_iff_ne.2 (by omega)
          by_cases h3 : R.length % 4 = 0
          · have h4 : (64 : Int) < (R.length : Int) := by
              have : ¬ R.length ≤ 64 := fun h4 => hgood ⟨rfl, rfl, by omega, h3, h4⟩
              omega
            have e3 : ((R.length : Int) % 4 != 0) = false := by rw [bne_eq_false_iff_eq]; omega
            have h00 : (0 : Int) ≤ (R.length : Int) := by omega
            clear hgood h2 h3
            go_wp2_with fail
            refine bodyPost_ret (dlist_results _ _ w.heap.size _ _ _ _ rfl rfl HEND.out) rfl ?_
            rw [HDF.out]
            exact ⟨_, _, _, rfl, ⟨Rd.nil _, Rd.nil _, Ri.nil _⟩, HBE.out⟩
          · have e3 : ((R.length : Int) % 4 != 0) = true := by rw [bne_iff_ne]; omega
            have h00 : (0 : Int) ≤ (R.length : Int) := by omega
            clear hgood h2 h3
            go_wp2_with fail
            refine bodyPost_ret (dlist_results _ _ w.heap.size _ _ _ _ rfl rfl HEND.out) rfl ?_
            rw [HDF.out]
            exact ⟨_, _, _, rfl, ⟨Rd.nil _, Rd.nil _, Ri.nil _⟩, HBE.out⟩
      · have e1 : (V != 0) = true := by rw [bne_iff_ne]; exact h1
        clear hgood h1
        go_wp2_with fail
        refine bodyPost_ret (dlist_results _ _ w.heap.size _ _ _ _ rfl rfl HEND.out) rfl ?_
        rw [HDF.out]
        exact ⟨_, _, _, rfl, ⟨Rd.nil _, Rd.nil _, Ri.nil _⟩, HBE.out⟩
  case pos =>
    obtain ⟨rfl, rfl, h0, h4, h64⟩ := hgood
    obtain ⟨N, hN⟩ : ∃ N, R.length / 4 = N := ⟨_, rfl⟩
    have hRN : R.length = 4 * N := by omega
    have hd : dlB (0, T, F, R, true) = (versOf R N).all fun n => !(n == 0) := by
      simp only [dlB, hN]
      simp [h0, h4, h64]
    have HNN := Lib.hid hN
    have HDF := Lib.hid hd
    rcases rr.cases with ⟨e0, _⟩ | ⟨bl, off, cap, rfl, _, hlc, hcap, _, _⟩
    · rw [e0] at h0; simp at h0
    have c4 := fun (k : Nat) (hk : k < N) (W8 : World) (h : Below w.heap.size w W8) => by
      have p4 := (rd_part rr hpr (4 * k) (R.length - 4 * k) (by omega)).1
      rw [List.take_of_length_le (by simp)] at p4
      simp only [Option.map_some, Addr.add_lit] at p4
      exact four_any (p4.below h) (by simp; omega)
    have H4 := Lib.hid c4
    have hDl : Dl w w1.heap.size w.heap.size (.slice a2 T.length d2) (.slice a3 F.length d3) (versOf R 0) (w1.alloc (.cells #[.slice a2 T.length d2, .slice a3 F.length d3, .slice none 0 0] 25)) :=
      ⟨HB1.out.alloc HB1.out.size _, ⟨.slice none 0 0, heap_alloc_new _ _, World.ownsRow_nil _ _ _ _⟩, (Below.heap_alloc w1 _ _ (blk_lt' HM1.out)).trans HM1.out, blk_lt' HM1.out, Nat.le_refl _⟩
    have hR4 : ((R.length : Int) % 4 != 0) = false := by rw [bne_eq_false_iff_eq]; omega
    have hR0 : ((R.length : Int) == 0) = false := beq_eq_false_iff_ne.2 (by omega)
    have hR6 : (R.length : Int) ≤ 64 := by omega
    have hR00 : (0 : Int) ≤ (R.length : Int) := by omega
    have HDl := Lib.hid hDl
    have HRN := Lib.hid hRN
    clear hd c4 rr hpr h4 hN hDl hRN
    go_wp2_with fail
    go_loopw [10] (fun i wr => ∃ (k t : Nat), i = .int .i64 t ∧ t = 4 * k ∧ k ≤ N ∧ ((versOf R k).all fun n => !(n == 0)) = true ∧ Dl w w1.heap.size w.heap.size (.slice a2 T.length d2) (.slice a3 F.length d3) (versOf R k) wr) (fun i _ => R.length - (intOf i).toNat)
    case atStart => exact ⟨0, 0, rfl, rfl, by omega, rfl, HDl.out⟩
    case round =>
      obtain ⟨k, t, rfl, ht, hk, hall, hD⟩ := hrel
      clear m0 m1 m2 mf
      obtain ⟨vi, hg1, hown⟩ := hD.gx
      obtain ⟨g0, g1, g2, gf⟩ := cellsL3 hg1
      obtain ⟨m0, m1, m2, mf⟩ := cellsL3 hD.mx
      have HG1 := Lib.hid hg1
      have HOWN := Lib.hid hown
      have HD := Lib.hid hD
      have HALL := Lib.hid hall
      by_cases hlt : k < N
      · have hc4 := H4.out k hlt _ hD.bel
        rw [← ht] at hc4
        have HT := Lib.hid ht
        have hsuc := versOf_succ R k
        rw [← ht] at hsuc
        have HSUC := Lib.hid hsuc
        have ht1 : (t : Int) < (R.length : Int) := by have := HRN.out; omega
        have ht2 : (t : Int) ≤ (R.length : Int) := by omega
        have ht3 : ¬ cap = t := by have := HRN.out; omega
        generalize say4 ((R.drop t).take 4) = y at hc4 HSUC
        clear ht hsuc hown hg1 hD hall
        go_wp2_with fail
        refine hc4.mono ?_
        rintro e4 w4 ⟨rfl, m4, rfl⟩
        have HD4 := Lib.hid (HD.out.drewN m4)
        clear hc4
        by_cases hy : y = 0
        · have hyb : (y == 0) = true := by simp [hy]
          have hf : ((versOf R N).all fun n => !(n == 0)) = false := by
            rw [Bool.eq_false_iff]
            intro hc
            have hmem : y ∈ versOf R N := by
              have h1 : y ∈ versOf R (k + 1) := by rw [HSUC.out]; simp
              unfold versOf at h1 ⊢
              obtain ⟨j, hj, e⟩ := List.mem_map.1 h1
              exact List.mem_map.2 ⟨j, List.mem_range.2 (by have := List.mem_range.1 hj; omega), e⟩
            have := List.all_eq_true.1 hc y hmem
            rw [hyb] at this; cases this
          have HF := Lib.hid (HDF.out.trans hf)
          have HEND := Lib.hid (chain3_row HD4.out.mx (.slice none 0 0) (.slice none 0 0) (.slice none 0 0))
          have HBE := Lib.hid (chain3_below HD4.out.bel HD4.out.mw (.slice none 0 0) (.slice none 0 0) (.slice none 0 0))
          clear hf hy
          go_wp2_with fail
          refine bodyPost_ret (dlist_results _ _ w.heap.size _ _ _ _ rfl rfl HEND.out) rfl ?_
          rw [HF.out]
          exact ⟨_, _, _, rfl, ⟨Rd.nil _, Rd.nil _, Ri.nil _⟩, HBE.out⟩
        · have hyb : (y == 0) = false := by simp [hy]
          have hall2 : ((versOf R (k + 1)).all fun n => !(n == 0)) = true := by
            rw [HSUC.out, List.all_append, HALL.out]; simp [hyb]
          have HALL2 := Lib.hid hall2
          have hvl : (versOf R k).length ≤ 1000 := by rw [versOf_len]; have := HRN.out; omega
          have hgl : w1.heap.size < wr.heap.size := blk_lt' HG1.out
          obtain ⟨ai, ni, ci, rfl⟩ := slice_of_own HOWN.out
          have HLT := Lib.hid (fun g hg => (HOWN.out.lt g hg).1)
          clear hy hall2
          go_wp2_with (at_builtin; refine wpList_append_one rfl (.tmp 60) (.tmp 62) rfl (w1.heap.size + 1) _ _ (versOf R k) rfl (World.ownsRow.alloc (w := wr.drewN m4) HOWN.out _) wr.heap.size y rfl (cell_new1 (wr.drewN m4) y) hvl (alloc_le (wr.drewN m4) _ hgl) ?_; intro v5 w5 hown5 hg5; obtain ⟨a5, n5, c5, rfl⟩ := slice_of_own hown5; have hm5 := Lib.hid (Dl.more HD4.out HG1.out HLT.out hown5 hg5); have hG5 := Lib.hid ((hg5.block w1.heap.size (Nat.lt_of_succ_le (alloc_le (wr.drewN m4) _ hgl)) (fun e => by have := HLT.out _ e.symm; omega)).trans ((below_alloc (wr.drewN m4) _).block _ hgl |>.trans HG1.out)); obtain ⟨g0, g1, g2, gf⟩ := cellsL3 hG5.out)
          go_roundw
          case rel => exact ⟨k + 1, t + 4, by go_num, by have := HT.out; omega, by omega, HALL2.out, by rw [HSUC.out]; exact hm5.out⟩
          case measure => simp [intOf]; omega
      · obtain rfl : k = N := by omega
        have HF := Lib.hid (HDF.out.trans hall)
        obtain ⟨ai, ni, ci, rfl⟩ := slice_of_own hown
        have hvi := rai_of_own hown
        have HEND := fun c0 c1 c2 => Lib.hid (chain3_row HD.out.mx c0 c1 c2)
        have HBE := fun c0 c1 c2 => Lib.hid (chain3_below HD.out.bel HD.out.mw c0 c1 c2)
        have HVI := Lib.hid hvi
        have htR : ¬ (t : Int) < (R.length : Int) := by have := HRN.out; omega
        clear hvi hown hg1 hD hall ht
        go_wp2_with fail
        refine bodyPost_ret (dlist_results _ _ w.heap.size _ _ _ _ rfl rfl (HEND _ _ _).out) rfl ?_
        rw [HF.out, HNN.out]
        refine ⟨_, _, _, rfl, ⟨HRD.out.1.below (HBE _ _ _).out, HRD.out.2.below (HBE _ _ _).out, ?_⟩, (HBE _ _ _).out⟩
        exact (chain3_rai HVI.out.1 (by have := HD.out.mg; omega) _ _ _).rd
end Go.Proofs.Ytjdlmmbkppaenaa
