/- A stream as it lies in memory: how much is taken, its pieces by where they begin. -/
import Derived.Test.YthfmpnikchlhlaaSMap
import Derived.Test.YthfmpnikchlhlaaSEqual
namespace Go.Proofs.Ythfmpnikchlhlaa
open Go Go.RowKit

/-- Pieces may lie so: behind what is taken, none empty, at least one byte between two. -/
structure Pcs (t : Nat) (E : Int → Option (List Int)) : Prop where
  lo : ∀ s l, E s = some l → (t : Int) ≤ s ∧ l ≠ [] ∧ s + l.length ≤ t + 4096
  gap : ∀ s l s' l', E s = some l → E s' = some l' → s < s' → s + l.length < s'
/-- The map's values and the pieces that they read as. -/
structure Vals (w : World) (f : Int → Option Value) (E : Int → Option (List Int)) : Prop where
  none : ∀ k, E k = none ↔ f k = none
  rd : ∀ k v l, f k = some v → E k = some l → Rd w v l ∧ Plain v
theorem Vals.below {w w' : World} {f : Int → Option Value} {E : Int → Option (List Int)} (h : Vals w f E) (hb : Below w.heap.size w w') : Vals w' f E := ⟨h.none, fun k v l h1 h2 => ⟨(h.rd k v l h1 h2).1.below hb, (h.rd k v l h1 h2).2⟩⟩
theorem Vals.get {w : World} {f : Int → Option Value} {E : Int → Option (List Int)} (h : Vals w f E) {k : Int} {v : Value} (hf : f k = some v) : ∃ l, E k = some l ∧ Rd w v l ∧ Plain v := by
  cases hE : E k with
  | none => rw [(h.none k).1 hE] at hf; cases hf
  | some l => exact ⟨l, rfl, h.rd k v l hf hE⟩
theorem Vals.back {w : World} {f : Int → Option Value} {E : Int → Option (List Int)} (h : Vals w f E) {k : Int} {l : List Int} (hE : E k = some l) : ∃ v, f k = some v ∧ Rd w v l ∧ Plain v := by
  cases hf : f k with
  | none => rw [(h.none k).2 hf] at hE; cases hE
  | some v => exact ⟨v, rfl, h.rd k v l hf hE⟩
/-- A stream in the box B, its map in the block mb (none at first). -/
structure St (w : World) (B : Nat) (mo : Option Nat) (t N : Nat) (E : Int → Option (List Int)) : Prop where
  box : w.heap[B]? = some (.cells #[.int .i64 (t : Int), .map mo] 26 (0, 0))
  mp : (mo = none ∧ ∀ k, E k = none) ∨ ∃ mb f, mo = some mb ∧ MapS w mb N f ∧ Vals w f E
  pcs : Pcs t E
  tb : t ≤ 2000000000
theorem St.below {w w' : World} {B : Nat} {mo : Option Nat} {t N : Nat} {E : Int → Option (List Int)} (h : St w B mo t N E) (hb : Below w.heap.size w w') : St w' B mo t N E := by
  refine ⟨row_keep hb h.box, ?_, h.pcs, h.tb⟩
  rcases h.mp with h1 | ⟨mb, f, h1, h2, h3⟩
  · exact .inl h1
  · exact .inr ⟨mb, f, h1, h2.below hb, h3.below hb⟩
theorem St.cells {w : World} {B : Nat} {mo : Option Nat} {t N : Nat} {E : Int → Option (List Int)} (h : St w B mo t N E) : w.cell? ⟨B, 0, none⟩ = some (.int .i64 (t : Int)) ∧ w.cell? ⟨B, 1, none⟩ = some (.map mo) ∧ ∀ j, w.frozen? ⟨B, j, none⟩ = false :=
  ⟨(cell_of_row w B 0 _ 26 (0, 0) h.box).trans rfl, (cell_of_row w B 1 _ 26 (0, 0) h.box).trans rfl, unfrozen h.box⟩
theorem St.lt {w : World} {B : Nat} {mo : Option Nat} {t N : Nat} {E : Int → Option (List Int)} (h : St w B mo t N E) : B < w.heap.size := (Array.getElem?_eq_some_iff.1 h.box).1
/-- Does a piece touch the bytes from at on, n of them? -/
def Touch (at' : Int) (n : Nat) (s : Int) (m : Nat) : Prop := s ≤ at' + n ∧ at' ≤ s + m
/-- The bytes that both have. -/
def over (at' : Int) (zs : List Int) (s : Int) (l : List Int) : List Int := (zs.take (min (at' + zs.length) (s + l.length) - at').toNat).drop (max at' s - at').toNat
/-- Have they the same ones? -/
def Alike (at' : Int) (zs : List Int) (s : Int) (l : List Int) : Prop := over at' zs s l = over s l at' zs
/-- What near tells. -/
def NearPost (w : World) (at' : Int) (zs : List Int) (E : Int → Option (List Int)) (e : Ending) (w' : World) : Prop := ∃ (lv : Value) (L : List Int) (ok : Bool), e = .returned (.tuple #[lv, .bool ok]) ∧ Below w.heap.size w w' ∧
  (ok = true ∧ w'.ownsRow w.heap.size 3 1 lv L.length (L.map (Value.int .i64)) ∧ L.Nodup ∧ L.length ≤ 1000000 ∧ (∀ s, s ∈ L ↔ ∃ l, E s = some l ∧ Touch at' zs.length s l.length) ∧ (∀ s l, E s = some l → Touch at' zs.length s l.length → Alike at' zs s l) ∨
   ok = false ∧ ∃ s l, E s = some l ∧ Touch at' zs.length s l.length ∧ ¬ Alike at' zs s l)
end Go.Proofs.Ythfmpnikchlhlaa
