/- ParamsSame: what holds as the operations of its third region come up. -/
import Derived.Test.YtofljggagapjlaaDoorPOf
namespace Go.Proofs.YtofljggagapjlaaDoor
open Go Go.RowKit

/-- Four values. -/
structure V4 where
  a : Value
  b : Value
  c : Value
  d : Value
/-- A row lies in no block g. -/
def Fr1 (g : Nat) (u : Value) (zs : List Int) : Prop := ∀ (a : Addr) (n cap : Nat), u = .slice (some a) n cap → zs ≠ [] → a.block ≠ g
structure FarP (g : Nat) (p : Pv) (u : V4) : Prop where
  fg : Fr1 g u.a p.g
  fo : Fr1 g u.b p.o
  fr : Fr1 g u.c p.r
  fl : Fr1 g u.d p.l
theorem rd_far {w : World} {u : Value} {zs : List Int} (h : Rd w u zs) : Fr1 w.heap.size u zs := by
  intro a n cap e hz
  obtain ⟨ao, c, hv, _, _, _, _, hc⟩ := h
  rw [hv] at e
  simp only [Value.slice.injEq] at e
  have := cell_lt (hc a e.1 0 (List.length_pos_iff.2 hz))
  simp [Addr.add] at this
  omega
theorem ri_far {w : World} {u : Value} {zs : List Int} (h : Ri w u zs) : Fr1 w.heap.size u zs := by
  intro a n cap e hz
  obtain ⟨ao, c, hv, _, _, _, hc⟩ := h
  rw [hv] at e
  simp only [Value.slice.injEq] at e
  have := cell_lt (hc a e.1 0 (List.length_pos_iff.2 hz))
  simp [Addr.add] at this
  omega
theorem pr_far {w : World} {p : Pv} {u : V4} (h : Pr w p u.a u.b u.c u.d) : FarP w.heap.size p u := ⟨rd_far h.g, rd_far h.o, rd_far h.r, ri_far h.l⟩
theorem four_far {G g : Nat} {w : World} {p : Pv} {u : V4} (h : Four G w p u.a u.b u.c u.d) (hg : g ≤ G) : FarP g p u :=
  ⟨fun a n cap e hz => by have := h.g.far a n cap e hz; omega, fun a n cap e hz => by have := h.o.far a n cap e hz; omega, fun a n cap e hz => by have := h.r.far a n cap e hz; omega, fun a n cap e hz => by have := h.l.far a n cap e hz; omega⟩
theorem rd_row {w : World} {v : Value} {zs : List Int} (h : Rd w v zs) {g : Nat} (hf : Fr1 g v zs) (cs : Array Value) : Rd (w.setRow g cs) v zs := by
  obtain ⟨ao, cap, hv, h1, h2, h3, h4, hc⟩ := h
  refine ⟨ao, cap, hv, h1, h2, h3, h4, fun a ha j hj => ?_⟩
  have hz : zs ≠ [] := fun e => by rw [e] at hj; simp at hj
  have hne : a.block ≠ g := hf a zs.length cap (by rw [hv, ha]) hz
  obtain ⟨b, off, spot⟩ := a
  have hs : spot = none := by simpa [Addr.add] using World.cell?_spot (hc _ ha 0 (by omega))
  subst hs
  have hcell := hc _ ha j hj
  rw [Addr.add_lit] at hcell ⊢
  rw [cell_setRow_other w g cs ⟨b, off + j, none⟩ hne]; exact hcell
theorem ri_row {w : World} {v : Value} {zs : List Int} (h : Ri w v zs) {g : Nat} (hf : Fr1 g v zs) (cs : Array Value) : Ri (w.setRow g cs) v zs := by
  obtain ⟨ao, cap, hv, h1, h2, h3, hc⟩ := h
  refine ⟨ao, cap, hv, h1, h2, h3, fun a ha j hj => ?_⟩
  have hz : zs ≠ [] := fun e => by rw [e] at hj; simp at hj
  have hne : a.block ≠ g := hf a zs.length cap (by rw [hv, ha]) hz
  obtain ⟨b, off, spot⟩ := a
  have hs : spot = none := by simpa [Addr.add] using World.cell?_spot (hc _ ha 0 (by omega))
  subst hs
  have hcell := hc _ ha j hj
  rw [Addr.add_lit] at hcell ⊢
  rw [cell_setRow_other w g cs ⟨b, off + j, none⟩ hne]; exact hcell
theorem pr_row {w : World} {p : Pv} {u : V4} (h : Pr w p u.a u.b u.c u.d) {g : Nat} (hf : FarP g p u) (cs : Array Value) : Pr (w.setRow g cs) p u.a u.b u.c u.d :=
  ⟨rd_row h.g hf.fg cs, rd_row h.o hf.fo cs, rd_row h.r hf.fr cs, ri_row h.l hf.fl cs⟩
/-- What is there: the two boxes, the two copies. -/
structure Part (w0 : World) (A : Nat) (x y : Pv) (vx vy : V4) (e5 e6 : Option Nat) (e1 e3 : Option V4) (w : World) : Prop where
  bel : Below w0.heap.size w0 w
  low : w0.heap.size ≤ A
  ba : w.heap[A]? = some (.cells (pCells x vx.a vx.b vx.c vx.d) 25 (0, 0))
  bb : w.heap[A + 1]? = some (.cells (pCells y vy.a vy.b vy.c vy.d) 25 (0, 0))
  b5 : ∀ g, e5 = some g → Yn 27 10 g w ∧ A + 1 < g
  b6 : ∀ g, e6 = some g → Yn 27 10 g w ∧ A + 1 < g
  c1 : ∀ u, e1 = some u → Pr w x u.a u.b u.c u.d
  c3 : ∀ u, e3 = some u → Pr w y u.a u.b u.c u.d
  f51 : ∀ g u, e5 = some g → e1 = some u → FarP g x u
  f61 : ∀ g u, e6 = some g → e1 = some u → FarP g x u
  f53 : ∀ g u, e5 = some g → e3 = some u → FarP g y u
  f63 : ∀ g u, e6 = some g → e3 = some u → FarP g y u
  ne : ∀ g g', e5 = some g → e6 = some g' → g ≠ g'
theorem Part.lt {w0 : World} {A : Nat} {x y : Pv} {vx vy : V4} {e5 e6 : Option Nat} {e1 e3 : Option V4} {w : World} (h : Part w0 A x y vx vy e5 e6 e1 e3 w) : A < w.heap.size ∧ A + 1 < w.heap.size :=
  ⟨(Array.getElem?_eq_some_iff.1 h.ba).1, (Array.getElem?_eq_some_iff.1 h.bb).1⟩
theorem Part.below {w0 : World} {A : Nat} {x y : Pv} {vx vy : V4} {e5 e6 : Option Nat} {e1 e3 : Option V4} {w w' : World} (h : Part w0 A x y vx vy e5 e6 e1 e3 w) (hb : Below w.heap.size w w') : Part w0 A x y vx vy e5 e6 e1 e3 w' :=
  ⟨h.bel.trans (hb.mono h.bel.size), h.low, by rw [hb.block _ h.lt.1]; exact h.ba, by rw [hb.block _ h.lt.2]; exact h.bb, fun g hg => ⟨(h.b5 g hg).1.below hb, (h.b5 g hg).2⟩, fun g hg => ⟨(h.b6 g hg).1.below hb, (h.b6 g hg).2⟩, fun u hu => (h.c1 u hu).below hb, fun u hu => (h.c3 u hu).below hb, h.f51, h.f61, h.f53, h.f63, h.ne⟩
abbrev zBox : Obj := .cells #[.int .i64 0, .int .i64 0, .bool false, .bool false, .bool false, .slice none 0 0, .slice none 0 0, .slice none 0 0, .int .i64 0, .slice none 0 0] 27
theorem yn_new (w : World) : Yn 27 10 w.heap.size (w.alloc zBox) := ⟨by simp, _, rfl, heap_alloc_new w _⟩
theorem Part.mk5 {w0 : World} {A : Nat} {x y : Pv} {vx vy : V4} {e6 : Option Nat} {e1 e3 : Option V4} {w : World} (h0 : Part w0 A x y vx vy none e6 e1 e3 w) : Part w0 A x y vx vy (some w.heap.size) e6 e1 e3 (w.alloc zBox) := by
  have h := h0.below (below_alloc w zBox)
  refine ⟨h.bel, h.low, h.ba, h.bb, fun g hg => ?_, h.b6, h.c1, h.c3, fun g u hg hu => ?_, h.f61, fun g u hg hu => ?_, h.f63, fun g g' hg hg' => ?_⟩
  · cases hg; exact ⟨yn_new w, h0.lt.2⟩
  · cases hg; exact pr_far (h0.c1 u hu)
  · cases hg; exact pr_far (h0.c3 u hu)
  · cases hg; have := (h0.b6 g' hg').1.1; omega
theorem Part.mk6 {w0 : World} {A : Nat} {x y : Pv} {vx vy : V4} {e5 : Option Nat} {e1 e3 : Option V4} {w : World} (h0 : Part w0 A x y vx vy e5 none e1 e3 w) : Part w0 A x y vx vy e5 (some w.heap.size) e1 e3 (w.alloc zBox) := by
  have h := h0.below (below_alloc w zBox)
  refine ⟨h.bel, h.low, h.ba, h.bb, h.b5, fun g hg => ?_, h.c1, h.c3, h.f51, fun g u hg hu => ?_, h.f53, fun g u hg hu => ?_, fun g g' hg hg' => ?_⟩
  · cases hg; exact ⟨yn_new w, h0.lt.2⟩
  · cases hg; exact pr_far (h0.c1 u hu)
  · cases hg; exact pr_far (h0.c3 u hu)
  · cases hg'; have := (h0.b5 g hg).1.1; omega
theorem Part.mk1 {w0 : World} {A : Nat} {x y : Pv} {vx vy : V4} {e5 e6 : Option Nat} {e3 : Option V4} {w w' : World} (h0 : Part w0 A x y vx vy e5 e6 none e3 w) (hb : Below w.heap.size w w') {u : V4} (hf : Four w.heap.size w' x u.a u.b u.c u.d) : Part w0 A x y vx vy e5 e6 (some u) e3 w' := by
  have h := h0.below hb
  refine ⟨h.bel, h.low, h.ba, h.bb, h.b5, h.b6, fun q hq => ?_, h.c3, fun g q hg hq => ?_, fun g q hg hq => ?_, h.f53, h.f63, h.ne⟩
  · cases hq; exact ⟨hf.g.rd, hf.o.rd, hf.r.rd, hf.l.rd⟩
  · cases hq; exact four_far hf (by have := (h0.b5 g hg).1.1; omega)
  · cases hq; exact four_far hf (by have := (h0.b6 g hg).1.1; omega)
theorem Part.mk3 {w0 : World} {A : Nat} {x y : Pv} {vx vy : V4} {e5 e6 : Option Nat} {e1 : Option V4} {w w' : World} (h0 : Part w0 A x y vx vy e5 e6 e1 none w) (hb : Below w.heap.size w w') {u : V4} (hf : Four w.heap.size w' y u.a u.b u.c u.d) : Part w0 A x y vx vy e5 e6 e1 (some u) w' := by
  have h := h0.below hb
  refine ⟨h.bel, h.low, h.ba, h.bb, h.b5, h.b6, h.c1, fun q hq => ?_, h.f51, h.f61, fun g q hg hq => ?_, fun g q hg hq => ?_, h.ne⟩
  · cases hq; exact ⟨hf.g.rd, hf.o.rd, hf.r.rd, hf.l.rd⟩
  · cases hq; exact four_far hf (by have := (h0.b5 g hg).1.1; omega)
  · cases hq; exact four_far hf (by have := (h0.b6 g hg).1.1; omega)
/-- A store into one of the two. -/
theorem Part.row {w0 : World} {A : Nat} {x y : Pv} {vx vy : V4} {e5 e6 : Option Nat} {e1 e3 : Option V4} {w : World} (h : Part w0 A x y vx vy e5 e6 e1 e3 w) {g : Nat} (hg : e5 = some g ∨ e6 = some g) {cs : Array Value} (hcs : cs.size = 10) : Part w0 A x y vx vy e5 e6 e1 e3 (w.setRow g cs) := by
  have hA : A + 1 < g := by rcases hg with hg | hg; exact (h.b5 g hg).2; exact (h.b6 g hg).2
  have yk : ∀ g', Yn 27 10 g' w → Yn 27 10 g' (w.setRow g cs) := fun g' ⟨b1, c, b2, b3⟩ => by
    by_cases e : g' = g
    · subst e; exact ⟨by simpa using b1, cs, hcs, setRow_heap _ _ _ _ _ _ b3⟩
    · exact ⟨by simpa using b1, c, b2, by rw [setRow_other _ _ _ _ e]; exact b3⟩
  refine ⟨below_setRow h.bel (by have := h.low; omega) _, h.low, by rw [setRow_other _ _ _ _ (by omega)]; exact h.ba, by rw [setRow_other _ _ _ _ (by omega)]; exact h.bb, fun q hq => ⟨yk q (h.b5 q hq).1, (h.b5 q hq).2⟩, fun q hq => ⟨yk q (h.b6 q hq).1, (h.b6 q hq).2⟩, fun u hu => ?_, fun u hu => ?_, h.f51, h.f61, h.f53, h.f63, h.ne⟩
  · rcases hg with hg | hg
    · exact pr_row (h.c1 u hu) (h.f51 g u hg hu) cs
    · exact pr_row (h.c1 u hu) (h.f61 g u hg hu) cs
  · rcases hg with hg | hg
    · exact pr_row (h.c3 u hu) (h.f53 g u hg hu) cs
    · exact pr_row (h.c3 u hu) (h.f63 g u hg hu) cs
end Go.Proofs.YtofljggagapjlaaDoor
