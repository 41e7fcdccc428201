/- The document's whole: what all of some bytes are as a number. -/
import Derived.Test.YtefcjggmlhoebaaDoorPRight
import Derived.Test.YtefcjggmlhoebaaDoorRPure
import Derived.Test.YtefcjggmlhoebaaDoorRefTake
import Derived.Test.YtefcjggmlhoebaaDoorPRefR
namespace Go.Proofs.YtefcjggmlhoebaaDoor
open Go Go.RowKit

def psameB (a b : Pv) : Bool := (a.i == b.i) && (a.d == b.d) && (a.hg == b.hg) && (a.ho == b.ho) && (a.hr == b.hr) && decide (a.g = b.g) && decide (a.o = b.o) && decide (a.r = b.r) && (a.c == b.c) && decide (a.l = b.l)
theorem below_alloc2 (w : World) (o o' : Obj) : Below w.heap.size w ((w.alloc o).alloc o') := (below_alloc w o).alloc (below_alloc w o).size o'
end Go.Proofs.YtefcjggmlhoebaaDoor
namespace Go.Proofs.YtefcjggmlhoebaaDoor
open Go Go.RowKit

/-- The two boxes stand. -/
structure Tb (w0 : World) (A B : Nat) (ca cb : Array Value) (w : World) : Prop where
  bel : Below w0.heap.size w0 w
  ba : w.heap[A]? = some (.cells ca 79 (0, 0))
  bb : w.heap[B]? = some (.cells cb 75 (0, 0))
theorem Tb.below {w0 w w' : World} {A B : Nat} {ca cb : Array Value} (h : Tb w0 A B ca cb w) (hb : Below w.heap.size w w') : Tb w0 A B ca cb w' :=
  ⟨h.bel.trans (hb.mono h.bel.size), by rw [hb.block A (Array.getElem?_eq_some_iff.1 h.ba).1]; exact h.ba, by rw [hb.block B (Array.getElem?_eq_some_iff.1 h.bb).1]; exact h.bb⟩
theorem take_sn9 {l : List Int} {k : Nat} (h : k < l.length) : l.take (k + 1) = l.take k ++ [l.getD k 0] := by
  rw [List.take_succ_eq_append_getElem h]; simp [List.getD, h]
theorem bl_drT {b : Nat} {w0 w : World} (h : Below b w0 w) : ∀ n, Below b w0 (w.drewN n)
  | 0 => h
  | n + 1 => (bl_drT h n).drew
end Go.Proofs.YtefcjggmlhoebaaDoor
namespace Go.Proofs.YtefcjggmlhoebaaDoor
open Go Go.RowKit

set_option maxRecDepth 20000 in
set_option maxHeartbeats 2000000 in
theorem refwhole_any {w : World} {v : Value} {zs : List Int} (h : Rd w v zs) :
    Calls Tryd.prog 67 #[v] w fun e w' => e = .returned (.tuple #[.int .i64 (rd zs).1, .bool (wholeN zs).isSome]) ∧ w = w' := by
  have hr := refread_any h
  have hl := h.len
  obtain ⟨ao, cap, rfl⟩ := h.shape
  have hw : (wholeN zs).isSome = (decide ((rd zs).2.2 = 0) && decide ((rd zs).2.1.toNat = zs.length)) := by
    unfold wholeN
    split
    · rename_i h; simp [h.1, h.2]
    · rename_i h; simp; intro h1 h2; exact h ⟨h1, h2⟩
  rw [hw]
  have hb := rd_size h.byt
  generalize rd zs = R at *
  obtain ⟨n, s, e⟩ := R
  simp only at *
  clear hw h
  have HV0 : Hid (e = 0 → (s == (zs.length : Int)) = (decide (e = 0) && decide (s.toNat = zs.length))) := Lib.hid (by
    intro he
    rcases hb with ⟨_, _, k, hk, _, _, _⟩ | ⟨_, _, h3⟩
    · subst he; subst hk
      by_cases h : k = zs.length
      · subst h; simp
      · have : ¬ ((k : Int) = (zs.length : Int)) := by omega
        simp [h, this]
    · omega)
  have HV1 : Hid (¬ e = 0 → false = (decide (e = 0) && decide (s.toNat = zs.length))) := Lib.hid (by intro he; simp [he])
  clear hb
  go_enter Tryd.func67, Tryd.ntmps67
  go_wp2_with (go_at_call 47; refine hr.mono ?_; rintro e1 w1 ⟨rfl, rfl⟩)
  · rename_i he
    rw [← HV0.out he]
    go_ret2
    exact ⟨rfl, rfl⟩
  · rename_i he
    rw [← HV1.out he]
    go_ret2
    exact ⟨rfl, rfl⟩
end Go.Proofs.YtefcjggmlhoebaaDoor
