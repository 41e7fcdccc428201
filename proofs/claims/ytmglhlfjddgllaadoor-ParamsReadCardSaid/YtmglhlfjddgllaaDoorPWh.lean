/- Write: the bytes of params. -/
import Derived.Test.YtmglhlfjddgllaaDoorPGive
namespace Go.Proofs.YtmglhlfjddgllaaDoor
open Go Go.RowKit

/-- Where Write stands: its params in box A, what is written so far by the closure's box B. -/
structure Ws (w0 : World) (p : Pv) (v5 v6 v7 v9 : Value) (A B : Nat) (zb : List Int) (w : World) : Prop where
  gv : Gv w B zb
  bel : Below w0.heap.size w0 w
  box : w.heap[A]? = some (.cells (pCells p v5 v6 v7 v9) 27 (0, 0))
  ne : A < B
  low : w0.heap.size ≤ A
theorem Ws.below {w0 w w' : World} {p : Pv} {v5 v6 v7 v9 : Value} {A B : Nat} {zb : List Int} (h : Ws w0 p v5 v6 v7 v9 A B zb w) (hb : Below w.heap.size w w') : Ws w0 p v5 v6 v7 v9 A B zb w' :=
  ⟨h.gv.below hb, h.bel.trans (hb.mono h.bel.size), by rw [hb.block A (by have := h.gv.lt; have := h.ne; omega)]; exact h.box, h.ne, h.low⟩
theorem Ws.give {w0 w w' : World} {p : Pv} {v5 v6 v7 v9 : Value} {A B : Nat} {zb zc : List Int} (h : Ws w0 p v5 v6 v7 v9 A B zb w) (hg : Gv w' B zc) (hb : Bup B w w') : Ws w0 p v5 v6 v7 v9 A B zc w' :=
  ⟨hg, hb.below h.bel (by have := h.ne; have := h.low; omega) h.bel.size, by rw [hb.block A (by have := h.gv.lt; have := h.ne; omega) (by have := h.ne; omega)]; exact h.box, h.ne, h.low⟩
theorem Ws.cells {w0 w : World} {p : Pv} {v5 v6 v7 v9 : Value} {A B : Nat} {zb : List Int} (h : Ws w0 p v5 v6 v7 v9 A B zb w) :
    w.cell? ⟨A, 0, none⟩ = some (.int .i64 p.i) ∧ w.cell? ⟨A, 1, none⟩ = some (.int .i64 p.d) ∧ w.cell? ⟨A, 2, none⟩ = some (.bool p.hg) ∧ w.cell? ⟨A, 3, none⟩ = some (.bool p.ho) ∧ w.cell? ⟨A, 4, none⟩ = some (.bool p.hr) ∧
    w.cell? ⟨A, 5, none⟩ = some v5 ∧ w.cell? ⟨A, 6, none⟩ = some v6 ∧ w.cell? ⟨A, 7, none⟩ = some v7 ∧ w.cell? ⟨A, 8, none⟩ = some (.int .i64 p.c) ∧ w.cell? ⟨A, 9, none⟩ = some v9 := pcells h.box
theorem Ws.start {w0 w1 : World} {p : Pv} {v5 v6 v7 v9 : Value} (hb : Below w0.heap.size (w0.alloc (.cells (pCells p v5 v6 v7 v9) 27)) w1) (hz : w0.heap.size + 1 ≤ w1.heap.size) (hx : w1.heap[w0.heap.size]? = some (.cells (pCells p v5 v6 v7 v9) 27 (0, 0))) (ht : Tab w1) (h1 : 1 < w0.heap.size) :
    Ws w0 p v5 v6 v7 v9 w0.heap.size w1.heap.size [] (w1.alloc (.cells #[.slice none 0 0] 22)) :=
  ⟨⟨tab_alloc ht _, by omega, Byt.nil, _, heap_alloc_new _ _, own_nil0 _ _⟩, ((below_alloc w0 _).trans hb).trans ((below_alloc w1 _).mono (by omega)), by rw [(below_alloc w1 _).block _ (by omega)]; exact hx, by omega, Nat.le_refl _⟩
/-- The bytes of params that are right. -/
def bytesP (p : Pv) : List Int := (if p.hg then fieldB 0 p.g else []) ++ fieldB 1 (enc p.i) ++ fieldB 4 (enc p.d) ++ (if p.ho then fieldB 15 p.o else []) ++ (if p.hr then fieldB 16 p.r else []) ++ fieldB 17 (versP p.c p.l)
def wrP (p : Pv) : List Int := if rightP p then bytesP p else []
theorem name_len {has : Bool} {n : Nat} (h : nameB has n = true) : n ≤ 20 := by
  unfold nameB at h
  cases has
  · simp at h; omega
  · simp at h; omega
/-- A slice that a call made, or none. -/
def Plainv (v : Value) : Prop := v = .slice none 0 0 ∨ ∃ b off n cap, v = .slice (some ⟨b, off, none⟩) n cap
theorem own_plain {w : World} {base : Nat} {e : TypeId} {size : Nat} {v : Value} {n : Nat} {xs : List Value} (h : w.ownsRow base e size v n xs) : Plainv v := by
  rcases h.2 with ⟨rfl, _⟩ | ⟨g, cap, cur, rfl, _⟩
  · exact Or.inl rfl
  · exact Or.inr ⟨_, _, _, _, rfl⟩
end Go.Proofs.YtmglhlfjddgllaaDoor
