/- ParamsSame: its third region, a step and its end. -/
import Derived.Test.YtofljggagapjlaaDoorPS2
namespace Go.Proofs.YtofljggagapjlaaDoor
open Go Go.RowKit

/-- A frame with four of its slots open. -/
abbrev Fr4 := Value → Value → Value → Value → Act
structure FrOk (F : Fr4) (x y : Pv) (vx vy : V4) : Prop where
  p5 : ∀ a b c d v, (F a b c d).put (some 5) v = F v b c d
  p6 : ∀ a b c d v, (F a b c d).put (some 6) v = F a v c d
  p16 : ∀ a b c d v, (F a b c d).put (some 16) v = F a b v d
  p18 : ∀ a b c d v, (F a b c d).put (some 18) v = F a b c v
  q5 : ∀ a b c d, (F a b c d).eval (.tmp 5) = a
  q6 : ∀ a b c d, (F a b c d).eval (.tmp 6) = b
  q16 : ∀ a b c d, (F a b c d).eval (.tmp 16) = c
  q18 : ∀ a b c d, (F a b c d).eval (.tmp 18) = d
  q15 : ∀ a b c d, (F a b c d).eval (.tmp 15) = pAgg x vx.a vx.b vx.c vx.d
  q17 : ∀ a b c d, (F a b c d).eval (.tmp 17) = pAgg y vy.a vy.b vy.c vy.d
def SmE (F : Fr4) (w0 : World) (A : Nat) (x y : Pv) (vx vy : V4) (listed : Array Bool) (a : Act) (w : World) : Prop :=
  ∃ e5 e6 e1 e3 s5 s6 s16 s18, a = F s5 s6 s16 s18 ∧ SmI w0 A x y vx vy e5 e6 e1 e3 s5 s6 s16 s18 listed w
theorem pr_shape {w : World} {p : Pv} {a b c d : Value} (h : Pr w p a b c d) : (∃ x n k, a = .slice x n k) ∧ (∃ x n k, b = .slice x n k) ∧ (∃ x n k, c = .slice x n k) ∧ (∃ x n k, d = .slice x n k) := by
  obtain ⟨x1, k1, h1⟩ := h.g.shape
  obtain ⟨x2, k2, h2⟩ := h.o.shape
  obtain ⟨x3, k3, h3⟩ := h.r.shape
  obtain ⟨x4, k4, h4⟩ := h.l.shape
  exact ⟨⟨_, _, _, h1⟩, ⟨_, _, _, h2⟩, ⟨_, _, _, h3⟩, ⟨_, _, _, h4⟩⟩
theorem some_yes {α : Type} {e : Option α} (h : true = e.isSome) : ∃ g, e = some g := by cases e; cases h; exact ⟨_, rfl⟩
structure Small (p : Pv) : Prop where
  g : p.g.length ≤ 1000
  o : p.o.length ≤ 1000
  r : p.r.length ≤ 1000
  l : p.l.length ≤ 1000
set_option maxRecDepth 20000 in
set_option maxHeartbeats 8000000 in
theorem sm_step {w0 : World} {A : Nat} {x y : Pv} {vx vy : V4} {F : Fr4} {S : World → Prop} (hS : ∀ w' : World, Below w0.heap.size w0 w' → w'.heap[A]? = some (.cells (pCells x vx.a vx.b vx.c vx.d) 25 (0, 0)) → w'.heap[A + 1]? = some (.cells (pCells y vy.a vy.b vy.c vy.d) 25 (0, 0)) → S w') (hF : FrOk F x y vx vy) (HX : Pr w0 x vx.a vx.b vx.c vx.d) (HY : Pr w0 y vy.a vy.b vy.c vy.d) (sx : Small x) (sy : Small y)
    {Q : Exit → Act → World → Prop} (listed : Array Bool) (a : Act) (w : World) (hI : SmE F w0 A x y vx vy listed a w) (i : Nat) (hi : i ∈ Region.ready Region.Mode.any #[{ dst := some 15, op := Op.load 25 (Operand.tmp 2), type := 25, pos := "outright.go:39", after := #[], guard := none }, { dst := some 16, op := Op.call { callee := Callee.value (Operand.func 9), args := #[Operand.tmp 15], argTypes := #[25] }, type := 27, pos := "outright.go:39", after := #[{ on := 0, ground := Ground.data }], guard := none }, { dst := some 17, op := Op.load 25 (Operand.tmp 3), type := 25, pos := "outright.go:39", after := #[], guard := none }, { dst := some 18, op := Op.call { callee := Callee.value (Operand.func 9), args := #[Operand.tmp 17], argTypes := #[25] }, type := 27, pos := "outright.go:39", after := #[{ on := 2, ground := Ground.data }, { on := 1, ground := Ground.chain }], guard := none }, { dst := some 5, op := Op.alloc 27, type := 0, pos := "outright.go:39", after := #[], guard := none }, { dst := some 6, op := Op.alloc 27, type := 0, pos := "outright.go:39", after := #[], guard := none }, { dst := none, op := Op.store 27 (Operand.tmp 5) (Operand.tmp 16), type := 0, pos := "outright.go:39", after := #[{ on := 4, ground := Ground.data }, { on := 1, ground := Ground.data }, { on := 3, ground := Ground.chain }, { on := 0, ground := Ground.phase }, { on := 1, ground := Ground.phase }, { on := 2, ground := Ground.textOnly Departure.lateStores }, { on := 3, ground := Ground.textOnly Departure.lateStoresUnsure }, { on := 4, ground := Ground.phase }, { on := 5, ground := Ground.phase }], guard := none }, { dst := none, op := Op.store 27 (Operand.tmp 6) (Operand.tmp 18), type := 0, pos := "outright.go:39", after := #[{ on := 5, ground := Ground.data }, { on := 3, ground := Ground.data }, { on := 6, ground := Ground.chain }, { on := 0, ground := Ground.phase }, { on := 1, ground := Ground.phase }, { on := 2, ground := Ground.phase }, { on := 3, ground := Ground.phase }, { on := 4, ground := Ground.phase }, { on := 5, ground := Ground.phase }, { on := 6, ground := Ground.phase }], guard := none }] listed) :
    wpOp Tryd.prog #[{ dst := some 15, op := Op.load 25 (Operand.tmp 2), type := 25, pos := "outright.go:39", after := #[], guard := none }, { dst := some 16, op := Op.call { callee := Callee.value (Operand.func 9), args := #[Operand.tmp 15], argTypes := #[25] }, type := 27, pos := "outright.go:39", after := #[{ on := 0, ground := Ground.data }], guard := none }, { dst := some 17, op := Op.load 25 (Operand.tmp 3), type := 25, pos := "outright.go:39", after := #[], guard := none }, { dst := some 18, op := Op.call { callee := Callee.value (Operand.func 9), args := #[Operand.tmp 17], argTypes := #[25] }, type := 27, pos := "outright.go:39", after := #[{ on := 2, ground := Ground.data }, { on := 1, ground := Ground.chain }], guard := none }, { dst := some 5, op := Op.alloc 27, type := 0, pos := "outright.go:39", after := #[], guard := none }, { dst := some 6, op := Op.alloc 27, type := 0, pos := "outright.go:39", after := #[], guard := none }, { dst := none, op := Op.store 27 (Operand.tmp 5) (Operand.tmp 16), type := 0, pos := "outright.go:39", after := #[{ on := 4, ground := Ground.data }, { on := 1, ground := Ground.data }, { on := 3, ground := Ground.chain }, { on := 0, ground := Ground.phase }, { on := 1, ground := Ground.phase }, { on := 2, ground := Ground.textOnly Departure.lateStores }, { on := 3, ground := Ground.textOnly Departure.lateStoresUnsure }, { on := 4, ground := Ground.phase }, { on := 5, ground := Ground.phase }], guard := none }, { dst := none, op := Op.store 27 (Operand.tmp 6) (Operand.tmp 18), type := 0, pos := "outright.go:39", after := #[{ on := 5, ground := Ground.data }, { on := 3, ground := Ground.data }, { on := 6, ground := Ground.chain }, { on := 0, ground := Ground.phase }, { on := 1, ground := Ground.phase }, { on := 2, ground := Ground.phase }, { on := 3, ground := Ground.phase }, { on := 4, ground := Ground.phase }, { on := 5, ground := Ground.phase }, { on := 6, ground := Ground.phase }], guard := none }] Q i (fun a' w' => S w' ∧ SmE F w0 A x y vx vy (listed.setIfInBounds i true) a' w') a w := by
  obtain ⟨h1, o, ho, hdep⟩ := mem_ready.1 hi
  have hlt : i < 8 := (Array.getElem?_eq_some_iff.1 ho).1
  obtain ⟨e5, e6, e1, e3, s5, s6, s16, s18, rfl, hI⟩ := hI
  have hcs : i = 1 ∨ i = 3 ∨ i = 4 ∨ i = 5 ∨ i = 6 ∨ i = 7 := by
    have n0 : i ≠ 0 := by rintro rfl; rw [hI.i0] at h1; cases h1
    have n2 : i ≠ 2 := by rintro rfl; rw [hI.i2] at h1; cases h1
    omega
  clear hlt hi
  unfold wpOp
  rw [ho]
  dsimp only
  rcases hcs with rfl | rfl | rfl | rfl | rfl | rfl
  · obtain rfl := Option.some.inj ((by rfl : _ = some { dst := some 16, op := Op.call { callee := Callee.value (Operand.func 9), args := #[Operand.tmp 15], argTypes := #[25] }, type := 27, pos := "outright.go:39", after := #[{ on := 0, ground := Ground.data }], guard := none }).symm.trans ho)
    rw [if_pos (by simp [Region.wanted])]
    left
    have hn := isSome_no (by rw [← hI.k1, ← ls_d (by rw [hI.ls]; decide)]; exact h1.symm)
    subst hn
    unfold Oper.wp
    rw [run_c1 _ _ x vx rfl (hF.q15 _ _ _ _), Oper.upon_enter]
    refine (of_four (HX.below hI.P.bel) sx.g sx.o sx.r sx.l).mono ?_
    rintro e w' ⟨u5, u6, u7, u9, rfl, hf, hb⟩
    have hm := sm_1 hb (u := ⟨u5, u6, u7, u9⟩) hf hI
    dsimp only
    rw [hF.p16]
    exact ⟨hS _ hm.P.bel hm.P.ba hm.P.bb, _, _, _, _, _, _, _, _, rfl, hm⟩
  · obtain rfl := Option.some.inj ((by rfl : _ = some { dst := some 18, op := Op.call { callee := Callee.value (Operand.func 9), args := #[Operand.tmp 17], argTypes := #[25] }, type := 27, pos := "outright.go:39", after := #[{ on := 2, ground := Ground.data }, { on := 1, ground := Ground.chain }], guard := none }).symm.trans ho)
    rw [if_pos (by simp [Region.wanted])]
    left
    have hn := isSome_no (by rw [← hI.k3, ← ls_d (by rw [hI.ls]; decide)]; exact h1.symm)
    subst hn
    unfold Oper.wp
    rw [run_c3 _ _ y vy rfl (hF.q17 _ _ _ _), Oper.upon_enter]
    refine (of_four (HY.below hI.P.bel) sy.g sy.o sy.r sy.l).mono ?_
    rintro e w' ⟨u5, u6, u7, u9, rfl, hf, hb⟩
    have hm := sm_3 hb (u := ⟨u5, u6, u7, u9⟩) hf hI
    dsimp only
    rw [hF.p18]
    exact ⟨hS _ hm.P.bel hm.P.ba hm.P.bb, _, _, _, _, _, _, _, _, rfl, hm⟩
  · obtain rfl := Option.some.inj ((by rfl : _ = some { dst := some 5, op := Op.alloc 27, type := 0, pos := "outright.go:39", after := #[], guard := none }).symm.trans ho)
    rw [if_pos (by simp [Region.wanted])]
    left
    have hn := isSome_no (by rw [← hI.k5, ← ls_d (by rw [hI.ls]; decide)]; exact h1.symm)
    subst hn
    unfold Oper.wp
    rw [run_al5, Oper.upon_value]
    have hm := sm_4 hI
    dsimp only
    rw [hF.p5]
    exact ⟨hS _ hm.P.bel hm.P.ba hm.P.bb, _, _, _, _, _, _, _, _, rfl, hm⟩
  · obtain rfl := Option.some.inj ((by rfl : _ = some { dst := some 6, op := Op.alloc 27, type := 0, pos := "outright.go:39", after := #[], guard := none }).symm.trans ho)
    rw [if_pos (by simp [Region.wanted])]
    left
    have hn := isSome_no (by rw [← hI.k6, ← ls_d (by rw [hI.ls]; decide)]; exact h1.symm)
    subst hn
    unfold Oper.wp
    rw [run_al6, Oper.upon_value]
    have hm := sm_5 hI
    dsimp only
    rw [hF.p6]
    exact ⟨hS _ hm.P.bel hm.P.ba hm.P.bb, _, _, _, _, _, _, _, _, rfl, hm⟩
  · obtain rfl := Option.some.inj ((by rfl : _ = some { dst := none, op := Op.store 27 (Operand.tmp 5) (Operand.tmp 16), type := 0, pos := "outright.go:39", after := #[{ on := 4, ground := Ground.data }, { on := 1, ground := Ground.data }, { on := 3, ground := Ground.chain }, { on := 0, ground := Ground.phase }, { on := 1, ground := Ground.phase }, { on := 2, ground := Ground.textOnly Departure.lateStores }, { on := 3, ground := Ground.textOnly Departure.lateStoresUnsure }, { on := 4, ground := Ground.phase }, { on := 5, ground := Ground.phase }], guard := none }).symm.trans ho)
    rw [if_pos (by simp [Region.wanted])]
    left
    obtain ⟨g, hg⟩ := some_yes ((hdep { on := 4, ground := Ground.data } (by simp) rfl).symm.trans hI.k5)
    obtain ⟨u, hu⟩ := some_yes ((hdep { on := 1, ground := Ground.data } (by simp) rfl).symm.trans hI.k1)
    subst hg
    subst hu
    obtain ⟨z5, z6, z7, z9⟩ := pr_shape (hI.P.c1 u rfl)
    unfold Oper.wp
    rw [run_st5 _ x u (hI.P.b5 g rfl).1 ((hF.q5 _ _ _ _).trans (hI.v5 g rfl)) ((hF.q16 _ _ _ _).trans (hI.v1 u rfl)) z5 z6 z7 z9, Oper.upon_skip]
    have hm := sm_6 hI
    exact ⟨hS _ hm.P.bel hm.P.ba hm.P.bb, _, _, _, _, _, _, _, _, rfl, hm⟩
  · obtain rfl := Option.some.inj ((by rfl : _ = some { dst := none, op := Op.store 27 (Operand.tmp 6) (Operand.tmp 18), type := 0, pos := "outright.go:39", after := #[{ on := 5, ground := Ground.data }, { on := 3, ground := Ground.data }, { on := 6, ground := Ground.chain }, { on := 0, ground := Ground.phase }, { on := 1, ground := Ground.phase }, { on := 2, ground := Ground.phase }, { on := 3, ground := Ground.phase }, { on := 4, ground := Ground.phase }, { on := 5, ground := Ground.phase }, { on := 6, ground := Ground.phase }], guard := none }).symm.trans ho)
    rw [if_pos (by simp [Region.wanted])]
    left
    obtain ⟨g, hg⟩ := some_yes ((hdep { on := 5, ground := Ground.data } (by simp) rfl).symm.trans hI.k6)
    obtain ⟨u, hu⟩ := some_yes ((hdep { on := 3, ground := Ground.data } (by simp) rfl).symm.trans hI.k3)
    subst hg
    subst hu
    obtain ⟨z5, z6, z7, z9⟩ := pr_shape (hI.P.c3 u rfl)
    unfold Oper.wp
    rw [run_st6 _ y u (hI.P.b6 g rfl).1 ((hF.q6 _ _ _ _).trans (hI.v6 g rfl)) ((hF.q18 _ _ _ _).trans (hI.v3 u rfl)) z5 z6 z7 z9, Oper.upon_skip]
    have hm := sm_7 hI
    exact ⟨hS _ hm.P.bel hm.P.ba hm.P.bb, _, _, _, _, _, _, _, _, rfl, hm⟩
/-- What is there when all are through. -/
structure Done (w0 : World) (A : Nat) (x y : Pv) (vx vy : V4) (g g' : Nat) (u u' : V4) (w : World) : Prop where
  bel : Below w0.heap.size w0 w
  low : A + 1 < g ∧ A + 1 < g' ∧ g ≠ g'
  bb : w.heap[A + 1]? = some (.cells (pCells y vy.a vy.b vy.c vy.d) 25 (0, 0))
  bg : w.heap[g]? = some (.cells (pCells x u.a u.b u.c u.d) 27 (0, 0))
  bh : w.heap[g']? = some (.cells (pCells y u'.a u'.b u'.c u'.d) 27 (0, 0))
  rx : Pr w x u.a u.b u.c u.d
  ry : Pr w y u'.a u'.b u'.c u'.d
set_option maxRecDepth 20000 in
theorem sm_done {w0 : World} {A : Nat} {x y : Pv} {vx vy : V4} {F : Fr4} (listed : Array Bool) (a : Act) (w : World) (hI : SmE F w0 A x y vx vy listed a w) (hr0 : Region.ready Region.Mode.any #[{ dst := some 15, op := Op.load 25 (Operand.tmp 2), type := 25, pos := "outright.go:39", after := #[], guard := none }, { dst := some 16, op := Op.call { callee := Callee.value (Operand.func 9), args := #[Operand.tmp 15], argTypes := #[25] }, type := 27, pos := "outright.go:39", after := #[{ on := 0, ground := Ground.data }], guard := none }, { dst := some 17, op := Op.load 25 (Operand.tmp 3), type := 25, pos := "outright.go:39", after := #[], guard := none }, { dst := some 18, op := Op.call { callee := Callee.value (Operand.func 9), args := #[Operand.tmp 17], argTypes := #[25] }, type := 27, pos := "outright.go:39", after := #[{ on := 2, ground := Ground.data }, { on := 1, ground := Ground.chain }], guard := none }, { dst := some 5, op := Op.alloc 27, type := 0, pos := "outright.go:39", after := #[], guard := none }, { dst := some 6, op := Op.alloc 27, type := 0, pos := "outright.go:39", after := #[], guard := none }, { dst := none, op := Op.store 27 (Operand.tmp 5) (Operand.tmp 16), type := 0, pos := "outright.go:39", after := #[{ on := 4, ground := Ground.data }, { on := 1, ground := Ground.data }, { on := 3, ground := Ground.chain }, { on := 0, ground := Ground.phase }, { on := 1, ground := Ground.phase }, { on := 2, ground := Ground.textOnly Departure.lateStores }, { on := 3, ground := Ground.textOnly Departure.lateStoresUnsure }, { on := 4, ground := Ground.phase }, { on := 5, ground := Ground.phase }], guard := none }, { dst := none, op := Op.store 27 (Operand.tmp 6) (Operand.tmp 18), type := 0, pos := "outright.go:39", after := #[{ on := 5, ground := Ground.data }, { on := 3, ground := Ground.data }, { on := 6, ground := Ground.chain }, { on := 0, ground := Ground.phase }, { on := 1, ground := Ground.phase }, { on := 2, ground := Ground.phase }, { on := 3, ground := Ground.phase }, { on := 4, ground := Ground.phase }, { on := 5, ground := Ground.phase }, { on := 6, ground := Ground.phase }], guard := none }] listed = []) :
    ∃ g g' u u', a = F (.pointer (some ⟨g, 0, none⟩)) (.pointer (some ⟨g', 0, none⟩)) (pAgg x u.a u.b u.c u.d) (pAgg y u'.a u'.b u'.c u'.d) ∧ Done w0 A x y vx vy g g' u u' w := by
  obtain ⟨e5, e6, e1, e3, s5, s6, s16, s18, rfl, hI⟩ := hI
  have nin : ∀ j, ¬ j ∈ Region.ready Region.Mode.any _ listed := fun j hj => by rw [hr0] at hj; cases hj
  have d0 : listed.getD 0 false = true := by rw [← ls_d (by rw [hI.ls]; decide)]; exact hI.i0
  have d2 : listed.getD 2 false = true := by rw [← ls_d (by rw [hI.ls]; decide)]; exact hI.i2
  have d1 : listed.getD 1 false = true := by
    by_cases hh : listed.getD 1 false = true
    · exact hh
    · exfalso
      refine nin 1 (mem_ready.2 ⟨by rw [ls_d (by rw [hI.ls]; decide)]; simpa using hh, { dst := some 16, op := Op.call { callee := Callee.value (Operand.func 9), args := #[Operand.tmp 15], argTypes := #[25] }, type := 27, pos := "outright.go:39", after := #[{ on := 0, ground := Ground.data }], guard := none }, rfl, fun e he _ => ?_⟩)
      simp only [List.mem_toArray, List.mem_cons, List.not_mem_nil, or_false] at he
      subst he
      exact d0
  have d3 : listed.getD 3 false = true := by
    by_cases hh : listed.getD 3 false = true
    · exact hh
    · exfalso
      refine nin 3 (mem_ready.2 ⟨by rw [ls_d (by rw [hI.ls]; decide)]; simpa using hh, { dst := some 18, op := Op.call { callee := Callee.value (Operand.func 9), args := #[Operand.tmp 17], argTypes := #[25] }, type := 27, pos := "outright.go:39", after := #[{ on := 2, ground := Ground.data }, { on := 1, ground := Ground.chain }], guard := none }, rfl, fun e he _ => ?_⟩)
      dsimp only at he
      simp only [List.mem_toArray, List.mem_cons, List.not_mem_nil, or_false] at he
      rcases he with rfl | rfl
      · exact d2
      · exact d1
  have d4 : listed.getD 4 false = true := by
    by_cases hh : listed.getD 4 false = true
    · exact hh
    · exfalso
      refine nin 4 (mem_ready.2 ⟨by rw [ls_d (by rw [hI.ls]; decide)]; simpa using hh, { dst := some 5, op := Op.alloc 27, type := 0, pos := "outright.go:39", after := #[], guard := none }, rfl, fun e he _ => ?_⟩)
      simp at he
  have d5 : listed.getD 5 false = true := by
    by_cases hh : listed.getD 5 false = true
    · exact hh
    · exfalso
      refine nin 5 (mem_ready.2 ⟨by rw [ls_d (by rw [hI.ls]; decide)]; simpa using hh, { dst := some 6, op := Op.alloc 27, type := 0, pos := "outright.go:39", after := #[], guard := none }, rfl, fun e he _ => ?_⟩)
      simp at he
  have d6 : listed.getD 6 false = true := by
    by_cases hh : listed.getD 6 false = true
    · exact hh
    · exfalso
      refine nin 6 (mem_ready.2 ⟨by rw [ls_d (by rw [hI.ls]; decide)]; simpa using hh, { dst := none, op := Op.store 27 (Operand.tmp 5) (Operand.tmp 16), type := 0, pos := "outright.go:39", after := #[{ on := 4, ground := Ground.data }, { on := 1, ground := Ground.data }, { on := 3, ground := Ground.chain }, { on := 0, ground := Ground.phase }, { on := 1, ground := Ground.phase }, { on := 2, ground := Ground.textOnly Departure.lateStores }, { on := 3, ground := Ground.textOnly Departure.lateStoresUnsure }, { on := 4, ground := Ground.phase }, { on := 5, ground := Ground.phase }], guard := none }, rfl, fun e he _ => ?_⟩)
      dsimp only at he
      simp only [List.mem_toArray, List.mem_cons, List.not_mem_nil, or_false] at he
      rcases he with rfl | rfl | rfl | rfl | rfl | rfl | rfl | rfl | rfl
      · exact d4
      · exact d1
      · exact d3
      · exact d0
      · exact d1
      · exact d2
      · exact d3
      · exact d4
      · exact d5
  have d7 : listed.getD 7 false = true := by
    by_cases hh : listed.getD 7 false = true
    · exact hh
    · exfalso
      refine nin 7 (mem_ready.2 ⟨by rw [ls_d (by rw [hI.ls]; decide)]; simpa using hh, { dst := none, op := Op.store 27 (Operand.tmp 6) (Operand.tmp 18), type := 0, pos := "outright.go:39", after := #[{ on := 5, ground := Ground.data }, { on := 3, ground := Ground.data }, { on := 6, ground := Ground.chain }, { on := 0, ground := Ground.phase }, { on := 1, ground := Ground.phase }, { on := 2, ground := Ground.phase }, { on := 3, ground := Ground.phase }, { on := 4, ground := Ground.phase }, { on := 5, ground := Ground.phase }, { on := 6, ground := Ground.phase }], guard := none }, rfl, fun e he _ => ?_⟩)
      dsimp only at he
      simp only [List.mem_toArray, List.mem_cons, List.not_mem_nil, or_false] at he
      rcases he with rfl | rfl | rfl | rfl | rfl | rfl | rfl | rfl | rfl | rfl
      · exact d5
      · exact d3
      · exact d6
      · exact d0
      · exact d1
      · exact d2
      · exact d3
      · exact d4
      · exact d5
      · exact d6
  obtain ⟨g, u, rfl, rfl, hg⟩ := hI.l6 d6
  obtain ⟨g', u', rfl, rfl, hg'⟩ := hI.l7 d7
  have z5 := hI.v5 g rfl
  have z6 := hI.v6 g' rfl
  have z1 := hI.v1 u rfl
  have z3 := hI.v3 u' rfl
  subst z5 z6 z1 z3
  exact ⟨g, g', u, u', rfl, hI.P.bel, ⟨(hI.P.b5 g rfl).2, (hI.P.b6 g' rfl).2, hI.P.ne g g' rfl rfl⟩, hI.P.bb, hg, hg', hI.P.c1 u rfl, hI.P.c3 u' rfl⟩
end Go.Proofs.YtofljggagapjlaaDoor
