/- TicketIssues, for every input. -/
import Derived.Test.YtofklfahbhhoiaaDoorKRdm
import Derived.Test.YtofklfahbhhoiaaDoorKRT17
namespace Go.Proofs.YtofklfahbhhoiaaDoor.TicketIssues
open Go Go.RowKit

variable {w0 w : World} {tb mb n : Nat} {N : List T.Nd} {rs : List (Nat × Obj)}
theorem bk {v v' : World} {k : Nat} {o : Obj} (hb : Below v.heap.size v v') (h : v.heap[k]? = some o) : v'.heap[k]? = some o := (hb.block _ (blkLt h)).trans h
theorem gd_fresh (h : T.Gd w0 w tb mb N n rs) {w' : World} {us : List (Nat × Obj)} (hb : Below w.heap.size w w') (h' : T.Gd w0 w' tb mb N n us) (hu : ∀ u ∈ us, u ∈ rs ∨ w.heap.size ≤ u.1) {g : Nat} {o : Obj} (hg : w.heap.size ≤ g) (ho : w'.heap[g]? = some o) : T.Gd w0 w' tb mb N n ((g, o) :: us) := by
  have hk := h.keep hb
  obtain ⟨nv, ht, hr⟩ := h.st.tab
  obtain ⟨L, hL, _, _⟩ := ht.ex
  have l1 := blkLt hL.tab
  have l2 := hL.map.lt
  have l3 := fun k (e : some k = nv.ownBlock) => (hL.nodes.lt k e.symm).2
  refine ⟨⟨⟨nv, ht.keep hb, fun r hm => ?_⟩, fun r hm => ?_, h'.st.bel⟩, h.good, h.len⟩
  · rcases List.mem_cons.1 hm with rfl | hm
    · exact ⟨by simp only; omega, by simp only; omega, fun e => by have := l3 _ e; simp only at this; omega⟩
    · rcases hu r hm with h1 | h1
      · exact hr r h1
      · exact ⟨by omega, by omega, fun e => by have := l3 _ e; omega⟩
  · rcases List.mem_cons.1 hm with rfl | hm
    · exact ho
    · exact h'.st.own r hm
set_option maxRecDepth 20000 in
set_option maxHeartbeats 4000000 in
theorem walk {w : World} {v t l now : Int} (hnow : -9223372036854775808 ≤ now ∧ now ≤ 9223372036854775807) (ht : Tab w) (hw : 1 < w.heap.size) :
    Calls Tryd.prog 7 #[.agg #[.int .i64 v, .int .i64 t, .int .i64 l], .int .i64 now] w fun e w' => e = .returned (.bool true) ∧ Below w.heap.size w w' := by
  obtain ⟨X, hX⟩ : ∃ X, w.alloc (.cells #[.int .i64 v, .int .i64 t, .int .i64 l] 58) = X := ⟨_, rfl⟩
  have hbX : Below w.heap.size w X := by rw [← hX]; exact below_alloc w _
  have hA : X.heap[w.heap.size]? = some (.cells #[.int .i64 v, .int .i64 t, .int .i64 l] 58 (0, 0)) := by rw [← hX]; exact heap_alloc_new w _
  have H := Lib.hid (And.intro hbX (And.intro hA (And.intro (ht.below hbX) (And.intro (show 1 < X.heap.size by have := hbX.size; omega) hnow))))
  clear ht hw hbX hA hnow
  go_enter Tryd.func7, Tryd.ntmps7
  go_wp2_with fail
  refine (T.St.new X).mono ?_
  rintro e w1 ⟨tb, mb, rfl, s1⟩
  have g1 : T.Gd X w1 tb mb [] 0 [] := ⟨T.Sg.of_st s1, T.good_nil, Nat.le_refl _⟩
  have c1 := g1.secretG (by omega)
  clear s1 g1
  go_wp2_with fail
  refine c1.mono ?_
  rintro e w2 ⟨N2, k, rfl, g2, -, f2, -⟩
  have c2 := g2.secretG (by omega)
  have H2 := Lib.hid f2
  clear c1 g2 f2
  go_wp2_with fail
  refine c2.mono ?_
  rintro e w3 ⟨N3, s, rfl, g3, p3, f3, -⟩
  obtain ⟨x0, x1, x2, -⟩ := cells3 (bk g3.st.bel H.out.2.1)
  have H3 := Lib.hid (And.intro (H2.out.ext p3) f3)
  have g4 : T.Gd X (w3.alloc (.cells #[.int .i64 v, .int .i64 t, .int .i64 l, .int .i64 s] 60)) tb mb N3 (0 + 1 + 1) ((w3.heap.size, (.cells #[.int .i64 v, .int .i64 t, .int .i64 l, .int .i64 s] 60)) :: []) := ⟨g3.st.guest _ _ rfl, g3.good, g3.len⟩
  cases hok : tickOk v t l with
  | false =>
    have c4 := issue_no (k := k) (s := s) g4 hok H.out.2.2.1 H.out.2.2.2.1
    have HO := Lib.hid hok
    clear c2 g3 p3 f3 hok g4
    go_wp2_with fail
    refine c4.mono ?_
    rintro e w5 ⟨rfl, g5, -⟩
    have c5 := rktext_any (w := w5) (v := v) (t := t) (l := l)
    rw [tickT_no HO.out] at c5
    have B5 := Lib.hid g5.st.bel
    obtain ⟨y0, y1, y2, -⟩ := cells3 (bk g5.st.bel H.out.2.1)
    clear c4 g5 x0 x1 x2
    go_wp2_with fail
    refine c5.mono ?_
    rintro e w6 ⟨v6, rfl, o6, b6⟩
    obtain ⟨a6, p6, rfl⟩ := (Rd.of_own o6 Byt.nil).1.shape'
    have B6 := Lib.hid (B5.out.trans (b6.mono B5.out.size))
    clear c5 o6 b6 y0 y1 y2
    go_wp2_with fail
    refine (awake17_any (H.out.2.2.1.below B6.out) (Nat.lt_of_lt_of_le H.out.2.2.2.1 B6.out.size)).mono ?_
    rintro e w7 ⟨rfl, b7⟩
    have B7 := Lib.hid (B6.out.trans (b7.mono B6.out.size))
    clear b7
    go_wp2_with fail
    go_ret
    exact ⟨rfl, H.out.1.trans (B7.out.mono H.out.1.size)⟩
  | true =>
    have c4 := issue_yes g4 hok H3.out.1.2 H3.out.2.2 H.out.2.2.1 H.out.2.2.2.1 (by omega)
    have HO := Lib.hid hok
    clear c2 g3 p3 f3 hok g4
    go_wp2_with fail
    refine c4.mono ?_
    rintro e w5 ⟨N5, c, rfl, g5, -, f5⟩
    have c5 := rktext_any (w := w5) (v := v) (t := t) (l := l)
    rw [tickT_ok HO.out] at c5
    obtain ⟨y0, y1, y2, -⟩ := cells3 (bk g5.st.bel H.out.2.1)
    have G5 := Lib.hid (And.intro g5 f5)
    clear c4 g5 x0 x1 x2 f5
    have hTl := tickB_len v t l
    have hTy := tickB_byt v t l
    obtain ⟨TB, hTB⟩ : ∃ TB, tickB v t l = TB := ⟨_, rfl⟩
    have hne : TB ≠ [] := by
      intro e
      obtain ⟨i1, i2, i3⟩ := tickOk_num HO.out
      have := tick_back i1 i2 i3
      rw [hTB, e] at this
      simp [tickR, rd] at this
    rw [hTB] at c5 hTl hTy
    have hpos : ((TB.length : Int) == 0) = false := by
      rw [beq_eq_false_iff_ne]
      intro e
      exact hne (List.eq_nil_of_length_eq_zero (by omega))
    have HT := Lib.hid (And.intro hTB (And.intro hTl hTy))
    clear hTB hTl hTy hne
    go_wp2_with fail
    refine c5.mono ?_
    rintro e w6 ⟨v6, rfl, o6, b6⟩
    have r6 := (Rd.of_own o6 HT.out.2.2).1
    obtain ⟨a6, p6, rfl⟩ := r6.shape'
    have g6 := G5.out.1.keep b6
    obtain ⟨x, rr, hx, hrr, hs⟩ : ∃ x r, T.Has N5 x (1, T.bstr TB, []) ∧ T.Has N5 r (3, ByteArray.empty, [x, s]) ∧ T.IsSeal N5 c k (T.bstr tickH) r := by rw [← HT.out.1]; exact G5.out.2
    have hcv := T.conv_const
    have b7 := below_alloc w6 (.cells (T.cs .u8 tickH).toArray 5 ((T.cs .u8 tickH).toArray.size, (T.cs .u8 tickH).toArray.size + 1))
    have c7 := (g6.keep b7).openG hs k (T.Rd.litM w6 tickH 6 rfl (by simp))
    have e2 : T.openB k k (T.bstr tickH) (T.bstr tickH) = true := by simp [T.openB]
    rw [e2] at c7
    simp only [if_true] at c7
    have H6 := Lib.hid (And.intro hx (And.intro hrr (r6.below b7)))
    clear c5 o6 b6 r6 g6 b7 hx hrr hs e2 y0 y1 y2
    go_wp2_with fail
    refine c7.mono ?_
    rintro e w8 ⟨rfl, g8, b8⟩
    have c8 := g8.lookAt H6.out.2.1.pos H6.out.2.1.at'
    have H8 := Lib.hid (And.intro g8 (H6.out.2.2.below b8))
    clear c7 g8 b8 hcv
    go_wp2_with fail
    refine c8.mono ?_
    rintro e w9 ⟨pv, rfl, ho, g9, b9⟩
    have r9 := (T.Rd.of_own ho).1
    obtain ⟨g, cg, cur, rfl, hg, hh, hcg⟩ : ∃ g cg cur, pv = .slice (some ⟨g, 0, none⟩) 2 cg ∧ w8.heap.size ≤ g ∧ w9.heap[g]? = some (.cells cur 29 (0, 0)) ∧ 2 ≤ cg ∧ cg ≤ maxLen := by
      rcases ho.2 with ⟨_, h0⟩ | ⟨g, cg, cur, rfl, hg, hh, h1, h2, _⟩
      · cases h0
      · exact ⟨g, cg, cur, rfl, hg, hh, h1, h2⟩
    obtain ⟨c0, c1⟩ : w9.cell? ⟨g, 0, none⟩ = some (.int .i64 x) ∧ w9.cell? ⟨g, 1, none⟩ = some (.int .i64 s) := by
      obtain ⟨_, _, hv, _, _, _, hc⟩ := r9
      simp only [Value.slice.injEq] at hv
      obtain ⟨rfl, _, _⟩ := hv
      have c0 := hc _ rfl 0 (by simp)
      have c1 := hc _ rfl 1 (by simp)
      rw [Addr.add_lit] at c0 c1
      exact ⟨c0, c1⟩
    have gr := gd_fresh H8.out.1 b9 g9 (fun u hu => .inl hu) hg hh
    have g10 : T.Gd X (w9.alloc (.cells #[.int .i64 3, .string ByteArray.empty, .slice (some ⟨g, 0, none⟩) 2 cg] 40)) tb mb N5 (0 + 1 + 1 + 4) ((w9.heap.size, (.cells #[.int .i64 3, .string ByteArray.empty, .slice (some ⟨g, 0, none⟩) 2 cg] 40)) :: (g, (.cells cur 29 (0, 0))) :: (w3.heap.size, (.cells #[.int .i64 v, .int .i64 t, .int .i64 l, .int .i64 s] 60)) :: []) := ⟨gr.st.guest _ _ rfl, gr.good, gr.len⟩
    have hcg1 : 2 ≤ cg := hcg.1
    have hcg2 : cg ≤ 9223372036854775807 := by have := hcg.2; unfold maxLen at this; omega
    have HS : Hid (∀ w' : World, w'.heap[w9.heap.size]? = some (.cells #[.int .i64 3, .string ByteArray.empty, .slice (some ⟨g, 0, none⟩) 2 cg] 40 (0, 0)) → w'.heap[g]? = some (.cells cur 29 (0, 0)) → w'.cell? ⟨w9.heap.size, 0, none⟩ = some (.int .i64 3) ∧ w'.cell? ⟨w9.heap.size, 2, none⟩ = some (.slice (some ⟨g, 0, none⟩) 2 cg) ∧ w'.cell? ⟨g, 0, none⟩ = some (.int .i64 x) ∧ w'.cell? ⟨g, 1, none⟩ = some (.int .i64 s)) := Lib.hid (fun w' h1 h2 => by
      obtain ⟨n0, n1, n2, _⟩ := cells3 h1
      have e : ∀ i, w'.cell? ⟨g, i, none⟩ = w9.cell? ⟨g, i, none⟩ := fun i => by unfold World.cell?; simp only; rw [h2, hh]
      exact ⟨n0, n2, (e 0).trans c0, (e 1).trans c1⟩)
    have hS := HS.out (w9.alloc (.cells #[.int .i64 3, .string ByteArray.empty, .slice (some ⟨g, 0, none⟩) 2 cg] 40)).drew (g10.st.own _ List.mem_cons_self) (g10.st.own _ (List.mem_cons_of_mem _ List.mem_cons_self))
    have H10 := Lib.hid (And.intro g10 ((H8.out.2.below b9).below (below_alloc w9 (.cells #[.int .i64 3, .string ByteArray.empty, .slice (some ⟨g, 0, none⟩) 2 cg] 40))))
    clear c8 ho g9 b9 r9 hg hh hcg c0 c1 gr g10
    go_wp2_with fail
    go_region_held3 (fun w' => w'.cell? ⟨w9.heap.size, 0, none⟩ = some (.int .i64 3) ∧ w'.cell? ⟨w9.heap.size, 2, none⟩ = some (.slice (some ⟨g, 0, none⟩) 2 cg) ∧ w'.cell? ⟨g, 0, none⟩ = some (.int .i64 x) ∧ w'.cell? ⟨g, 1, none⟩ = some (.int .i64 s))
      (first | (have _t := g11; exact HS.out _ (g11.st.own _ List.mem_cons_self) (g11.st.own _ (List.mem_cons_of_mem _ List.mem_cons_self))) | exact hS)
      ((go_at_call 24; refine ((H10.out.1.keep (Below.refl _ _).drew).textG (H10.out.2.below (Below.refl _ _).drew).toT (by have := HT.out.2.1; omega) (by omega)).mono ?_; rintro e w11 ⟨N11, y, rfl, g11, p11, f11⟩; obtain rfl : x = y := (H6.out.1.ext p11).num f11; have qx : (x != x) = false := by simp))
    all_goals
      have tk := G5.out.2.ext p11
      have bn := tickOk_num HO.out
      have c12 := redeem_any g11 (r := some (v, t, l, s)) (fun w1 g => klook_tick g tk HO.out) (now := now) H.out.2.2.2.2 (fun x hx => by cases hx; exact bn.2.1)
      obtain ⟨n0, n1⟩ := H.out.2.2.2.2
      obtain ⟨t0, t1⟩ := bn.2.1
      clear hS f11 p11 g11 tk bn
      by_cases q1 : now < t
      · rw [show rdm (some (v, t, l, s)) now = (9, none) by simp [rdm, q1]] at c12
        go_wp2_with fail
        refine c12.mono ?_
        rintro e w13 ⟨rfl, g13, -⟩
        have u13 := g13.st.own _ (List.mem_cons_of_mem _ (List.mem_cons_of_mem _ List.mem_cons_self))
        simp only at u13
        have v13 := bk g13.st.bel H.out.2.1
        have b13 := g13.st.bel
        have B13 := Lib.hid (fun o => b13.trans ((below_alloc w13 o).mono b13.size))
        have y0 := fun o => (cells3 (bk (below_alloc w13 o) v13)).1
        have y1 := fun o => (cells3 (bk (below_alloc w13 o) v13)).2.1
        have y2 := fun o => (cells3 (bk (below_alloc w13 o) v13)).2.2.1
        have o0 := fun o => (cells4 (bk (below_alloc w13 o) u13)).1
        have o1 := fun o => (cells4 (bk (below_alloc w13 o) u13)).2.1
        have o2 := fun o => (cells4 (bk (below_alloc w13 o) u13)).2.2.1
        have o3 := fun o => (cells4 (bk (below_alloc w13 o) u13)).2.2.2.1
        clear c12 g13 u13 v13 b13
        go_wp2_with fail
        refine (awake17_any (H.out.2.2.1.below (B13.out _)) (Nat.lt_of_lt_of_le H.out.2.2.2.1 (B13.out _).size)).mono ?_
        rintro e w14 ⟨rfl, b14⟩
        have B14 := Lib.hid ((B13.out _).trans (b14.mono (B13.out _).size))
        clear b14 y0 y1 y2 o0 o1 o2 o3
        go_wp2_with fail
        go_ret
        exact ⟨rfl, H.out.1.trans (B14.out.mono H.out.1.size)⟩
      · by_cases q3 : l < now - t
        · rw [show rdm (some (v, t, l, s)) now = (9, none) by simp [rdm, q3]] at c12
          go_wp2_with fail
          refine c12.mono ?_
          rintro e w13 ⟨rfl, g13, -⟩
          have u13 := g13.st.own _ (List.mem_cons_of_mem _ (List.mem_cons_of_mem _ List.mem_cons_self))
          simp only at u13
          have v13 := bk g13.st.bel H.out.2.1
          have b13 := g13.st.bel
          have B13 := Lib.hid (fun o => b13.trans ((below_alloc w13 o).mono b13.size))
          have y0 := fun o => (cells3 (bk (below_alloc w13 o) v13)).1
          have y1 := fun o => (cells3 (bk (below_alloc w13 o) v13)).2.1
          have y2 := fun o => (cells3 (bk (below_alloc w13 o) v13)).2.2.1
          have o0 := fun o => (cells4 (bk (below_alloc w13 o) u13)).1
          have o1 := fun o => (cells4 (bk (below_alloc w13 o) u13)).2.1
          have o2 := fun o => (cells4 (bk (below_alloc w13 o) u13)).2.2.1
          have o3 := fun o => (cells4 (bk (below_alloc w13 o) u13)).2.2.2.1
          clear c12 g13 u13 v13 b13
          go_wp2_with fail
          refine (awake17_any (H.out.2.2.1.below (B13.out _)) (Nat.lt_of_lt_of_le H.out.2.2.2.1 (B13.out _).size)).mono ?_
          rintro e w14 ⟨rfl, b14⟩
          have B14 := Lib.hid ((B13.out _).trans (b14.mono (B13.out _).size))
          clear b14 y0 y1 y2 o0 o1 o2 o3
          go_wp2_with fail
          go_ret
          exact ⟨rfl, H.out.1.trans (B14.out.mono H.out.1.size)⟩
        · rw [show rdm (some (v, t, l, s)) now = (0, some (v, t, l, s)) by unfold rdm; simp only; rw [if_neg (by omega)]] at c12
          go_wp2_with fail
          refine c12.mono ?_
          rintro e w13 ⟨rfl, g13, -⟩
          have u13 := g13.st.own _ (List.mem_cons_of_mem _ (List.mem_cons_of_mem _ List.mem_cons_self))
          simp only at u13
          have v13 := bk g13.st.bel H.out.2.1
          have b13 := g13.st.bel
          have B13 := Lib.hid (fun o => b13.trans ((below_alloc w13 o).mono b13.size))
          have y0 := fun o => (cells3 (bk (below_alloc w13 o) v13)).1
          have y1 := fun o => (cells3 (bk (below_alloc w13 o) v13)).2.1
          have y2 := fun o => (cells3 (bk (below_alloc w13 o) v13)).2.2.1
          have o0 := fun o => (cells4 (bk (below_alloc w13 o) u13)).1
          have o1 := fun o => (cells4 (bk (below_alloc w13 o) u13)).2.1
          have o2 := fun o => (cells4 (bk (below_alloc w13 o) u13)).2.2.1
          have o3 := fun o => (cells4 (bk (below_alloc w13 o) u13)).2.2.2.1
          clear c12 g13 u13 v13 b13
          go_wp2_with fail
          refine (awake17_any (H.out.2.2.1.below (B13.out _)) (Nat.lt_of_lt_of_le H.out.2.2.2.1 (B13.out _).size)).mono ?_
          rintro e w14 ⟨rfl, b14⟩
          have B14 := Lib.hid ((B13.out _).trans (b14.mono (B13.out _).size))
          clear b14 y0 y1 y2 o0 o1 o2 o3
          go_wp2_with fail
          go_ret
          exact ⟨rfl, H.out.1.trans (B14.out.mono H.out.1.size)⟩
#print axioms walk
end Go.Proofs.YtofklfahbhhoiaaDoor.TicketIssues
