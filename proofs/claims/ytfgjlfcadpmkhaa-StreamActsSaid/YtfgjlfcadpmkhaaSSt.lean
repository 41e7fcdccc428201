/- A stream as it lies in memory: how much is taken, its pieces by where they begin. -/
import Derived.Test.YtfgjlfcadpmkhaaSMap
import Derived.Test.YtfgjlfcadpmkhaaSEqual
namespace Go.Proofs.Ytfgjlfcadpmkhaa
open Go Go.RowKit
variable {gs : List Nat}

/-- Pieces may lie so: behind what is taken, none empty, at least one byte between two. -/
structure Pcs (t : Nat) (E : Int → Option (List Int)) : Prop where
  lo : ∀ s l, E s = some l → (t : Int) ≤ s ∧ l ≠ [] ∧ s + l.length ≤ t + 4096
  gap : ∀ s l s' l', E s = some l → E s' = some l' → s < s' → s + l.length < s'
/-- The map's values and the pieces that they read as. -/
structure Vals (gs : List Nat) (w : World) (f : Int → Option Value) (E : Int → Option (List Int)) : Prop where
  none : ∀ k, E k = none ↔ f k = none
  rd : ∀ k v l, f k = some v → E k = some l → Rd w v l ∧ Plain v
  off : ∀ k v l, f k = some v → E k = some l → ∀ g ∈ gs, Fa g v l
theorem Vals.below {w w' : World} {f : Int → Option Value} {E : Int → Option (List Int)} (h : Vals gs w f E) (hb : Below w.heap.size w w') : Vals gs w' f E := ⟨h.none, fun k v l h1 h2 => ⟨(h.rd k v l h1 h2).1.below hb, (h.rd k v l h1 h2).2⟩, h.off⟩
theorem Vals.get {w : World} {f : Int → Option Value} {E : Int → Option (List Int)} (h : Vals gs w f E) {k : Int} {v : Value} (hf : f k = some v) : ∃ l, E k = some l ∧ Rd w v l ∧ Plain v := by
  cases hE : E k with
  | none => rw [(h.none k).1 hE] at hf; cases hf
  | some l => exact ⟨l, rfl, h.rd k v l hf hE⟩
theorem Vals.back {w : World} {f : Int → Option Value} {E : Int → Option (List Int)} (h : Vals gs w f E) {k : Int} {l : List Int} (hE : E k = some l) : ∃ v, f k = some v ∧ Rd w v l ∧ Plain v := by
  cases hf : f k with
  | none => rw [(h.none k).2 hf] at hE; cases hE
  | some v => exact ⟨v, rfl, h.rd k v l hf hE⟩
/-- A stream in the box B, its map in the block mb (none at first). -/
structure St (gs : List Nat) (w : World) (B : Nat) (mo : Option Nat) (t N : Nat) (E : Int → Option (List Int)) : Prop where
  box : w.heap[B]? = some (.cells #[.int .i64 (t : Int), .map mo] 26 (0, 0))
  mp : (mo = none ∧ ∀ k, E k = none) ∨ ∃ mb f, mo = some mb ∧ MapS w mb N f ∧ Vals gs w f E
  pcs : Pcs t E
  tb : t ≤ 2000000000
  gl : ∀ g ∈ gs, g < w.heap.size
theorem St.below {w w' : World} {B : Nat} {mo : Option Nat} {t N : Nat} {E : Int → Option (List Int)} (h : St gs w B mo t N E) (hb : Below w.heap.size w w') : St gs w' B mo t N E := by
  refine ⟨row_keep hb h.box, ?_, h.pcs, h.tb, fun g hg => Nat.lt_of_lt_of_le (h.gl g hg) hb.size⟩
  rcases h.mp with h1 | ⟨mb, f, h1, h2, h3⟩
  · exact .inl h1
  · exact .inr ⟨mb, f, h1, h2.below hb, h3.below hb⟩
theorem St.cells {w : World} {B : Nat} {mo : Option Nat} {t N : Nat} {E : Int → Option (List Int)} (h : St gs w B mo t N E) : w.cell? ⟨B, 0, none⟩ = some (.int .i64 (t : Int)) ∧ w.cell? ⟨B, 1, none⟩ = some (.map mo) ∧ ∀ j, w.frozen? ⟨B, j, none⟩ = false :=
  ⟨(cell_of_row w B 0 _ 26 (0, 0) h.box).trans rfl, (cell_of_row w B 1 _ 26 (0, 0) h.box).trans rfl, unfrozen h.box⟩
theorem St.lt {w : World} {B : Nat} {mo : Option Nat} {t N : Nat} {E : Int → Option (List Int)} (h : St gs w B mo t N E) : B < w.heap.size := (Array.getElem?_eq_some_iff.1 h.box).1
/-- Does a piece touch the bytes from at on, n of them? -/
def Touch (at' : Int) (n : Nat) (s : Int) (m : Nat) : Prop := s ≤ at' + n ∧ at' ≤ s + m
/-- The bytes that both have. -/
def over (at' : Int) (zs : List Int) (s : Int) (l : List Int) : List Int := (zs.take (min (at' + zs.length) (s + l.length) - at').toNat).drop (max at' s - at').toNat
/-- Have they the same ones? -/
def Alike (at' : Int) (zs : List Int) (s : Int) (l : List Int) : Prop := over at' zs s l = over s l at' zs
/-- What near tells. -/
def NearPost (w : World) (at' : Int) (zs : List Int) (E : Int → Option (List Int)) (e : Ending) (w' : World) : Prop := ∃ (lv : Value) (L : List Int) (ok : Bool), e = .returned (.tuple #[lv, .bool ok]) ∧ Below w.heap.size w w' ∧
  (ok = true ∧ w'.ownsRow w.heap.size 3 1 lv L.length (L.map (Value.int .i64)) ∧ L.Nodup ∧ L.length ≤ 1000000 ∧ (∀ s, s ∈ L ↔ ∃ l, E s = some l ∧ Touch at' zs.length s l.length) ∧ (∀ s l, E s = some l → Touch at' zs.length s l.length → Alike at' zs s l) ∨
   ok = false ∧ ∃ s l, E s = some l ∧ Touch at' zs.length s l.length ∧ ¬ Alike at' zs s l)
theorem Vals.far {w : World} {f : Int → Option Value} {E : Int → Option (List Int)} (h : Vals gs w f E) {k : Int} {v : Value} {l : List Int} (hf : f k = some v) (hE : E k = some l) : ∀ g ∈ gs, Fa g v l := h.off k v l hf hE
theorem part_fa {ao a' : Option Addr} {l h cap m n : Nat} {zs ys : List Int} (e : sliced ao l h cap 1 = .slice a' m n) {g : Nat} (hz : ys ≠ [] → zs ≠ []) (hg : Fa g (.slice ao zs.length cap) zs) : Fa g (.slice a' m n) ys := by
  intro a n' cap' he hy
  cases he
  unfold sliced at e
  cases ao with
  | none => simp at e
  | some x =>
    have hx := hg x _ _ rfl (hz hy)
    simp only [Option.map_some, Value.slice.injEq] at e
    split at e
    · cases e.1; exact hx
    · have e1 : x.add (l * 1) = a := by have := e.1; simpa using this
      rw [← e1]
      have e2 : (x.add (l * 1)).block = x.block := by unfold Addr.add; split <;> rfl
      rw [e2]; exact hx
theorem part_lf {w : World} {ao : Option Addr} {cap : Nat} {zs : List Int} (hr : Rd w (.slice ao zs.length cap) zs) (hp : Plain (.slice ao zs.length cap)) (l : Nat) (h2 : l ≤ zs.length) :
    ∃ a', (∀ wx, (Instr.slice 29 (.slice ao zs.length cap) (some (.int .i64 l)) none none).run Try.prog wx = .ok (.slice a' (zs.length - l) (cap - l)) wx) ∧ Rd w (.slice a' (zs.length - l) (cap - l)) (zs.drop l) ∧ Plain (.slice a' (zs.length - l) (cap - l)) ∧ ∀ g, Fa g (.slice ao zs.length cap) zs → Fa g (.slice a' (zs.length - l) (cap - l)) (zs.drop l) := by
  obtain ⟨a', e, h3, h4⟩ := rd_piece hr hp l zs.length h2 (Nat.le_refl _)
  refine ⟨a', fun wx => ?_, by simpa using h3, h4, fun g hg => part_fa e (fun h hz => h (by rw [hz]; simp)) hg⟩
  rw [run_slice_l _ _ _ _ _ elem_bytes .i64 l (by omega) (by omega), size_elem]
  simp only [Result.andThen, Int.toNat_natCast, e]
end Go.Proofs.Ytfgjlfcadpmkhaa
