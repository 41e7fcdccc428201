/- ParamsSame: its third region's operations. -/
import Derived.Test.YtofljggagapjlaaDoorPS1
namespace Go.Proofs.YtofljggagapjlaaDoor
open Go Go.RowKit

/-- What holds as the operations come up. -/
structure SmI (w0 : World) (A : Nat) (x y : Pv) (vx vy : V4) (e5 e6 : Option Nat) (e1 e3 : Option V4) (s5 s6 s16 s18 : Value) (listed : Array Bool) (w : World) : Prop where
  P : Part w0 A x y vx vy e5 e6 e1 e3 w
  ls : listed.size = 8
  i0 : listed.getD 0 true = true
  i2 : listed.getD 2 true = true
  k5 : listed.getD 4 false = e5.isSome
  k6 : listed.getD 5 false = e6.isSome
  k1 : listed.getD 1 false = e1.isSome
  k3 : listed.getD 3 false = e3.isSome
  v5 : ∀ g, e5 = some g → s5 = .pointer (some ⟨g, 0, none⟩)
  v6 : ∀ g, e6 = some g → s6 = .pointer (some ⟨g, 0, none⟩)
  v1 : ∀ u, e1 = some u → s16 = pAgg x u.a u.b u.c u.d
  v3 : ∀ u, e3 = some u → s18 = pAgg y u.a u.b u.c u.d
  l6 : listed.getD 6 false = true → ∃ g u, e5 = some g ∧ e1 = some u ∧ w.heap[g]? = some (.cells (pCells x u.a u.b u.c u.d) 27 (0, 0))
  l7 : listed.getD 7 false = true → ∃ g u, e6 = some g ∧ e3 = some u ∧ w.heap[g]? = some (.cells (pCells y u.a u.b u.c u.d) 27 (0, 0))
theorem isSome_no {α : Type} {e : Option α} (h : false = e.isSome) : e = none := by cases e; rfl; cases h
theorem sm_4 {w0 : World} {A : Nat} {x y : Pv} {vx vy : V4} {e6 : Option Nat} {e1 e3 : Option V4} {s5 s6 s16 s18 : Value} {listed : Array Bool} {w : World}  (h : SmI w0 A x y vx vy none e6 e1 e3 s5 s6 s16 s18 listed w) : SmI w0 A x y vx vy (some w.heap.size) e6 e1 e3 (.pointer (some ⟨w.heap.size, 0, none⟩)) s6 s16 s18 (listed.setIfInBounds 4 true) (w.alloc zBox) where
  P := h.P.mk5
  ls := by simp [h.ls]
  i0 := by rw [ls_ne (by decide)]; exact h.i0
  i2 := by rw [ls_ne (by decide)]; exact h.i2
  k5 := by rw [ls_same (by rw [h.ls]; decide)]; rfl
  k6 := by rw [ls_ne (by decide)]; exact h.k6
  k1 := by rw [ls_ne (by decide)]; exact h.k1
  k3 := by rw [ls_ne (by decide)]; exact h.k3
  v5 := fun _ hg => by cases hg; rfl
  v6 := h.v6
  v1 := h.v1
  v3 := h.v3
  l6 := fun hl => by rw [ls_ne (by decide)] at hl; obtain ⟨g, u, e, _⟩ := h.l6 hl; cases e
  l7 := fun hl => by rw [ls_ne (by decide)] at hl; obtain ⟨g, u, e, e', hh⟩ := h.l7 hl; exact ⟨g, u, e, e', by rw [(below_alloc w _).block g (Array.getElem?_eq_some_iff.1 hh).1]; exact hh⟩
theorem sm_5 {w0 : World} {A : Nat} {x y : Pv} {vx vy : V4} {e5 : Option Nat} {e1 e3 : Option V4} {s5 s6 s16 s18 : Value} {listed : Array Bool} {w : World}  (h : SmI w0 A x y vx vy e5 none e1 e3 s5 s6 s16 s18 listed w) : SmI w0 A x y vx vy e5 (some w.heap.size) e1 e3 s5 (.pointer (some ⟨w.heap.size, 0, none⟩)) s16 s18 (listed.setIfInBounds 5 true) (w.alloc zBox) where
  P := h.P.mk6
  ls := by simp [h.ls]
  i0 := by rw [ls_ne (by decide)]; exact h.i0
  i2 := by rw [ls_ne (by decide)]; exact h.i2
  k5 := by rw [ls_ne (by decide)]; exact h.k5
  k6 := by rw [ls_same (by rw [h.ls]; decide)]; rfl
  k1 := by rw [ls_ne (by decide)]; exact h.k1
  k3 := by rw [ls_ne (by decide)]; exact h.k3
  v5 := h.v5
  v6 := fun _ hg => by cases hg; rfl
  v1 := h.v1
  v3 := h.v3
  l6 := fun hl => by rw [ls_ne (by decide)] at hl; obtain ⟨g, u, e, e', hh⟩ := h.l6 hl; exact ⟨g, u, e, e', by rw [(below_alloc w _).block g (Array.getElem?_eq_some_iff.1 hh).1]; exact hh⟩
  l7 := fun hl => by rw [ls_ne (by decide)] at hl; obtain ⟨g, u, e, _⟩ := h.l7 hl; cases e
theorem sm_1 {w0 : World} {A : Nat} {x y : Pv} {vx vy : V4} {e5 e6 : Option Nat} {e3 : Option V4} {s5 s6 s16 s18 : Value} {listed : Array Bool} {w : World} {w' : World} (hb : Below w.heap.size w w') {u : V4} (hf : Four w.heap.size w' x u.a u.b u.c u.d) (h : SmI w0 A x y vx vy e5 e6 none e3 s5 s6 s16 s18 listed w) : SmI w0 A x y vx vy e5 e6 (some u) e3 s5 s6 (pAgg x u.a u.b u.c u.d) s18 (listed.setIfInBounds 1 true) w' where
  P := h.P.mk1 hb hf
  ls := by simp [h.ls]
  i0 := by rw [ls_ne (by decide)]; exact h.i0
  i2 := by rw [ls_ne (by decide)]; exact h.i2
  k5 := by rw [ls_ne (by decide)]; exact h.k5
  k6 := by rw [ls_ne (by decide)]; exact h.k6
  k1 := by rw [ls_same (by rw [h.ls]; decide)]; rfl
  k3 := by rw [ls_ne (by decide)]; exact h.k3
  v5 := h.v5
  v6 := h.v6
  v1 := fun _ hg => by cases hg; rfl
  v3 := h.v3
  l6 := fun hl => by rw [ls_ne (by decide)] at hl; obtain ⟨g, u, _, e, _⟩ := h.l6 hl; cases e
  l7 := fun hl => by rw [ls_ne (by decide)] at hl; obtain ⟨g, u, e, e', hh⟩ := h.l7 hl; exact ⟨g, u, e, e', by rw [hb.block g (Array.getElem?_eq_some_iff.1 hh).1]; exact hh⟩
theorem sm_3 {w0 : World} {A : Nat} {x y : Pv} {vx vy : V4} {e5 e6 : Option Nat} {e1 : Option V4} {s5 s6 s16 s18 : Value} {listed : Array Bool} {w : World} {w' : World} (hb : Below w.heap.size w w') {u : V4} (hf : Four w.heap.size w' y u.a u.b u.c u.d) (h : SmI w0 A x y vx vy e5 e6 e1 none s5 s6 s16 s18 listed w) : SmI w0 A x y vx vy e5 e6 e1 (some u) s5 s6 s16 (pAgg y u.a u.b u.c u.d) (listed.setIfInBounds 3 true) w' where
  P := h.P.mk3 hb hf
  ls := by simp [h.ls]
  i0 := by rw [ls_ne (by decide)]; exact h.i0
  i2 := by rw [ls_ne (by decide)]; exact h.i2
  k5 := by rw [ls_ne (by decide)]; exact h.k5
  k6 := by rw [ls_ne (by decide)]; exact h.k6
  k1 := by rw [ls_ne (by decide)]; exact h.k1
  k3 := by rw [ls_same (by rw [h.ls]; decide)]; rfl
  v5 := h.v5
  v6 := h.v6
  v1 := h.v1
  v3 := fun _ hg => by cases hg; rfl
  l6 := fun hl => by rw [ls_ne (by decide)] at hl; obtain ⟨g, u, e, e', hh⟩ := h.l6 hl; exact ⟨g, u, e, e', by rw [hb.block g (Array.getElem?_eq_some_iff.1 hh).1]; exact hh⟩
  l7 := fun hl => by rw [ls_ne (by decide)] at hl; obtain ⟨g, u, _, e, _⟩ := h.l7 hl; cases e
theorem sm_6 {w0 : World} {A : Nat} {x y : Pv} {vx vy : V4} {e6 : Option Nat} {e3 : Option V4} {s5 s6 s16 s18 : Value} {listed : Array Bool} {w : World} {g : Nat} {u : V4} (h : SmI w0 A x y vx vy (some g) e6 (some u) e3 s5 s6 s16 s18 listed w) : SmI w0 A x y vx vy (some g) e6 (some u) e3 s5 s6 s16 s18 (listed.setIfInBounds 6 true) (w.setRow g (pCells x u.a u.b u.c u.d)) where
  P := h.P.row (.inl rfl) rfl
  ls := by simp [h.ls]
  i0 := by rw [ls_ne (by decide)]; exact h.i0
  i2 := by rw [ls_ne (by decide)]; exact h.i2
  k5 := by rw [ls_ne (by decide)]; exact h.k5
  k6 := by rw [ls_ne (by decide)]; exact h.k6
  k1 := by rw [ls_ne (by decide)]; exact h.k1
  k3 := by rw [ls_ne (by decide)]; exact h.k3
  v5 := h.v5
  v6 := h.v6
  v1 := h.v1
  v3 := h.v3
  l6 := fun _ => by obtain ⟨b1, c, b2, b3⟩ := (h.P.b5 g rfl).1; exact ⟨g, u, rfl, rfl, setRow_heap _ _ _ _ _ _ b3⟩
  l7 := fun hl => by rw [ls_ne (by decide)] at hl; obtain ⟨g', u', e, e', hh⟩ := h.l7 hl; have hne := h.P.ne g g' rfl e; exact ⟨g', u', e, e', by rw [setRow_other _ _ _ _ (by omega)]; exact hh⟩
theorem sm_7 {w0 : World} {A : Nat} {x y : Pv} {vx vy : V4} {e5 : Option Nat} {e1 : Option V4} {s5 s6 s16 s18 : Value} {listed : Array Bool} {w : World} {g : Nat} {u : V4} (h : SmI w0 A x y vx vy e5 (some g) e1 (some u) s5 s6 s16 s18 listed w) : SmI w0 A x y vx vy e5 (some g) e1 (some u) s5 s6 s16 s18 (listed.setIfInBounds 7 true) (w.setRow g (pCells y u.a u.b u.c u.d)) where
  P := h.P.row (.inr rfl) rfl
  ls := by simp [h.ls]
  i0 := by rw [ls_ne (by decide)]; exact h.i0
  i2 := by rw [ls_ne (by decide)]; exact h.i2
  k5 := by rw [ls_ne (by decide)]; exact h.k5
  k6 := by rw [ls_ne (by decide)]; exact h.k6
  k1 := by rw [ls_ne (by decide)]; exact h.k1
  k3 := by rw [ls_ne (by decide)]; exact h.k3
  v5 := h.v5
  v6 := h.v6
  v1 := h.v1
  v3 := h.v3
  l6 := fun hl => by rw [ls_ne (by decide)] at hl; obtain ⟨g', u', e, e', hh⟩ := h.l6 hl; have hne := h.P.ne g' g e rfl; exact ⟨g', u', e, e', by rw [setRow_other _ _ _ _ (by omega)]; exact hh⟩
  l7 := fun _ => by obtain ⟨b1, c, b2, b3⟩ := (h.P.b6 g rfl).1; exact ⟨g, u, rfl, rfl, setRow_heap _ _ _ _ _ _ b3⟩
theorem run_al5 (ev : Operand → Value) (w : World) : (execOp ev { dst := some 5, op := Op.alloc 27, type := 0, pos := "outright.go:39", after := #[], guard := none }).run Tryd.prog w = .ok (.value (.pointer (some ⟨w.heap.size, 0, none⟩))) (w.alloc zBox) := by
  go_simp
theorem run_al6 (ev : Operand → Value) (w : World) : (execOp ev { dst := some 6, op := Op.alloc 27, type := 0, pos := "outright.go:39", after := #[], guard := none }).run Tryd.prog w = .ok (.value (.pointer (some ⟨w.heap.size, 0, none⟩))) (w.alloc zBox) := by
  go_simp
theorem run_c1 (ev : Operand → Value) (w : World) (p : Pv) (v : V4) (hfn : ev (.func 9) = .func (.func 9) #[] #[]) (h : ev (.tmp 15) = pAgg p v.a v.b v.c v.d) : (execOp ev { dst := some 16, op := Op.call { callee := Callee.value (Operand.func 9), args := #[Operand.tmp 15], argTypes := #[25] }, type := 27, pos := "outright.go:39", after := #[{ on := 0, ground := Ground.data }], guard := none }).run Tryd.prog w = .ok (.enter 9 #[pAgg p v.a v.b v.c v.d]) w := by
  unfold execOp
  go_simp
theorem run_c3 (ev : Operand → Value) (w : World) (p : Pv) (v : V4) (hfn : ev (.func 9) = .func (.func 9) #[] #[]) (h : ev (.tmp 17) = pAgg p v.a v.b v.c v.d) : (execOp ev { dst := some 18, op := Op.call { callee := Callee.value (Operand.func 9), args := #[Operand.tmp 17], argTypes := #[25] }, type := 27, pos := "outright.go:39", after := #[{ on := 2, ground := Ground.data }, { on := 1, ground := Ground.chain }], guard := none }).run Tryd.prog w = .ok (.enter 9 #[pAgg p v.a v.b v.c v.d]) w := by
  unfold execOp
  go_simp
theorem run_st5 (ev : Operand → Value) {w : World} {G : Nat} (p : Pv) (u : V4) (hY : Yn 27 10 G w) (h2 : ev (.tmp 5) = .pointer (some ⟨G, 0, none⟩)) (h31 : ev (.tmp 16) = pAgg p u.a u.b u.c u.d) (s5 : ∃ a n c, u.a = .slice a n c) (s6 : ∃ a n c, u.b = .slice a n c) (s7 : ∃ a n c, u.c = .slice a n c) (s9 : ∃ a n c, u.d = .slice a n c) :
    (execOp ev { dst := none, op := Op.store 27 (Operand.tmp 5) (Operand.tmp 16), type := 0, pos := "outright.go:39", after := #[{ on := 4, ground := Ground.data }, { on := 1, ground := Ground.data }, { on := 3, ground := Ground.chain }, { on := 0, ground := Ground.phase }, { on := 1, ground := Ground.phase }, { on := 2, ground := Ground.textOnly Departure.lateStores }, { on := 3, ground := Ground.textOnly Departure.lateStoresUnsure }, { on := 4, ground := Ground.phase }, { on := 5, ground := Ground.phase }], guard := none }).run Tryd.prog w = .ok .skip (w.setRow G (pCells p u.a u.b u.c u.d)) := by
  obtain ⟨a5, n5, c5, e5⟩ := s5
  obtain ⟨a6, n6, c6, e6⟩ := s6
  obtain ⟨a7, n7, c7, e7⟩ := s7
  obtain ⟨a9, n9, c9, e9⟩ := s9
  rw [e5, e6, e7, e9] at h31 ⊢
  obtain ⟨_, c, hc, hh⟩ := hY
  have := run_storeVar_row (P := Tryd.prog) w G 27 27 c (pCells p (.slice a5 n5 c5) (.slice a6 n6 c6) (.slice a7 n7 c7) (.slice a9 n9 c9)) hh info27 (by rw [hc]; rfl) (by simp [Value.oneCell'])
  unfold execOp
  simp only [h2, h31, Instr.storeAt, Instr.sureAddr, Sem.run_bind, Sem.run_pure, Result.andThen_ok, this]
theorem run_st6 (ev : Operand → Value) {w : World} {G : Nat} (p : Pv) (u : V4) (hY : Yn 27 10 G w) (h2 : ev (.tmp 6) = .pointer (some ⟨G, 0, none⟩)) (h31 : ev (.tmp 18) = pAgg p u.a u.b u.c u.d) (s5 : ∃ a n c, u.a = .slice a n c) (s6 : ∃ a n c, u.b = .slice a n c) (s7 : ∃ a n c, u.c = .slice a n c) (s9 : ∃ a n c, u.d = .slice a n c) :
    (execOp ev { dst := none, op := Op.store 27 (Operand.tmp 6) (Operand.tmp 18), type := 0, pos := "outright.go:39", after := #[{ on := 5, ground := Ground.data }, { on := 3, ground := Ground.data }, { on := 6, ground := Ground.chain }, { on := 0, ground := Ground.phase }, { on := 1, ground := Ground.phase }, { on := 2, ground := Ground.phase }, { on := 3, ground := Ground.phase }, { on := 4, ground := Ground.phase }, { on := 5, ground := Ground.phase }, { on := 6, ground := Ground.phase }], guard := none }).run Tryd.prog w = .ok .skip (w.setRow G (pCells p u.a u.b u.c u.d)) := by
  obtain ⟨a5, n5, c5, e5⟩ := s5
  obtain ⟨a6, n6, c6, e6⟩ := s6
  obtain ⟨a7, n7, c7, e7⟩ := s7
  obtain ⟨a9, n9, c9, e9⟩ := s9
  rw [e5, e6, e7, e9] at h31 ⊢
  obtain ⟨_, c, hc, hh⟩ := hY
  have := run_storeVar_row (P := Tryd.prog) w G 27 27 c (pCells p (.slice a5 n5 c5) (.slice a6 n6 c6) (.slice a7 n7 c7) (.slice a9 n9 c9)) hh info27 (by rw [hc]; rfl) (by simp [Value.oneCell'])
  unfold execOp
  simp only [h2, h31, Instr.storeAt, Instr.sureAddr, Sem.run_bind, Sem.run_pure, Result.andThen_ok, this]
end Go.Proofs.YtofljggagapjlaaDoor
