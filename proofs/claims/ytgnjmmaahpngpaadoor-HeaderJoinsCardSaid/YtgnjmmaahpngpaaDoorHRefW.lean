/- The bytes of a header: the document's. -/
import Derived.Test.YtgnjmmaahpngpaaDoorHWrite
import Derived.Test.YtgnjmmaahpngpaaDoorBytes
namespace Go.Proofs.YtgnjmmaahpngpaaDoor
open Go Go.RowKit

theorem Bx.mkR {h : Hv} {a2 : Option Addr} {c2 : Nat} {a3 : Option Addr} {c3 : Nat} {a4 : Option Addr} {c4 : Nat} {B : Nat} {w : World} (hbx : w.heap[B]? = some (.cells #[.int .i64 h.k, .int .i64 h.v, .slice a2 h.to.length c2, .slice a3 h.fr.length c3, .slice a4 h.tk.length c4, .int .i64 h.p, .int .i64 h.n, .int .i64 h.w] 24 (0, 0))) : Bx h a2 c2 a3 c3 a4 c4 B w ∧ w.cell? ⟨B, 5, none⟩ = some (.int .i64 h.p) :=
  ⟨⟨(cell_of_row _ B 0 _ 24 (0, 0) hbx).trans rfl, (cell_of_row _ B 1 _ 24 (0, 0) hbx).trans rfl, (cell_of_row _ B 2 _ 24 (0, 0) hbx).trans rfl, (cell_of_row _ B 3 _ 24 (0, 0) hbx).trans rfl, (cell_of_row _ B 4 _ 24 (0, 0) hbx).trans rfl, (cell_of_row _ B 6 _ 24 (0, 0) hbx).trans rfl, (cell_of_row _ B 7 _ 24 (0, 0) hbx).trans rfl⟩, (cell_of_row _ B 5 _ 24 (0, 0) hbx).trans rfl⟩

theorem keep3 {w w' : World} {a b c : Addr} {x y z : Value} (hb : Below w.heap.size w w') (h : w.cell? a = some x ∧ w.cell? b = some y ∧ w.cell? c = some z) : w'.cell? a = some x ∧ w'.cell? b = some y ∧ w'.cell? c = some z :=
  ⟨keepS hb h.1, keepS hb h.2.1, keepS hb h.2.2⟩
theorem keepT3 {base : Nat} {w w' : World} {B i j k : Nat} {x y z : Value} (hb : Below base w w') (hlt : B < base) (h : w.cell? ⟨B, i, none⟩ = some x ∧ w.cell? ⟨B, j, none⟩ = some y ∧ w.cell? ⟨B, k, none⟩ = some z) : w'.cell? ⟨B, i, none⟩ = some x ∧ w'.cell? ⟨B, j, none⟩ = some y ∧ w'.cell? ⟨B, k, none⟩ = some z :=
  ⟨keepT hb hlt h.1, keepT hb hlt h.2.1, keepT hb hlt h.2.2⟩

end Go.Proofs.YtgnjmmaahpngpaaDoor
