/- Params, their rows told by what they read; whether they are light. -/
import Derived.Test.YtmglhlfjddgllaaDoorPInt
import Derived.Test.YtmglhlfjddgllaaDoorPEq
namespace Go.Proofs.YtmglhlfjddgllaaDoor
open Go Go.RowKit

/-- Params, their rows told by what they read. -/
structure Pv where
  i : Int
  d : Int
  hg : Bool
  ho : Bool
  hr : Bool
  g : List Int
  o : List Int
  r : List Int
  c : Int
  l : List Int
/-- The four rows read as the params'. -/
structure Pr (w : World) (p : Pv) (v5 v6 v7 v9 : Value) : Prop where
  g : Rd w v5 p.g
  o : Rd w v6 p.o
  r : Rd w v7 p.r
  l : Ri w v9 p.l
theorem Pr.below {w w' : World} {p : Pv} {v5 v6 v7 v9 : Value} (h : Pr w p v5 v6 v7 v9) (hb : Below w.heap.size w w') : Pr w' p v5 v6 v7 v9 := ⟨h.g.below hb, h.o.below hb, h.r.below hb, h.l.below hb⟩
theorem Ri.len {w : World} {v : Value} {zs : List Int} (h : Ri w v zs) : zs.length ≤ 9223372036854775807 := by
  obtain ⟨_, _, _, q1, q2, _⟩ := h
  unfold maxLen at q2
  omega
theorem ret_bool {a b : Bool} (h : a = b) : Ending.returned (.bool a) = .returned (.bool b) := by rw [h]
def plightB (p : Pv) : Bool := decide (p.g.length ≤ 50) && decide (p.o.length ≤ 50) && decide (p.r.length ≤ 50) && decide (p.l.length ≤ 30)
set_option maxRecDepth 20000 in
set_option maxHeartbeats 2000000 in
theorem plight_any (w : World) (p : Pv) (x5 : Option Addr) (x5c : Nat) (x6 : Option Addr) (x6c : Nat) (x7 : Option Addr) (x7c : Nat) (x9 : Option Addr) (x9c : Nat) (hg : p.g.length ≤ 9223372036854775807) (ho : p.o.length ≤ 9223372036854775807) (hr : p.r.length ≤ 9223372036854775807) (hl : p.l.length ≤ 9223372036854775807) :
    Calls Tryd.prog 8 #[.agg #[.int .i64 p.i, .int .i64 p.d, .bool p.hg, .bool p.ho, .bool p.hr, .slice x5 p.g.length x5c, .slice x6 p.o.length x6c, .slice x7 p.r.length x7c, .int .i64 p.c, .slice x9 p.l.length x9c]] w fun e w' => e = .returned (.bool (plightB p)) ∧ Below w.heap.size w w' := by
  have hB := below_alloc w (.cells #[.int .i64 p.i, .int .i64 p.d, .bool p.hg, .bool p.ho, .bool p.hr, .slice x5 p.g.length x5c, .slice x6 p.o.length x6c, .slice x7 p.r.length x7c, .int .i64 p.c, .slice x9 p.l.length x9c] 25)
  have fin : ∀ b, b = plightB p → ∀ w', Below w.heap.size w w' → (Ending.returned (.bool b) = .returned (.bool (plightB p)) ∧ Below w.heap.size w w') := fun b e w' hb => ⟨ret_bool e, hb⟩
  by_cases q0 : p.g.length ≤ 50
  · have r0 : decide ((p.g.length : Int) ≤ 50) = true := decide_eq_true (by omega)
    by_cases q1 : p.o.length ≤ 50
    · have r1 : decide ((p.o.length : Int) ≤ 50) = true := decide_eq_true (by omega)
      by_cases q2 : p.r.length ≤ 50
      · have r2 : decide ((p.r.length : Int) ≤ 50) = true := decide_eq_true (by omega)
        by_cases q3 : p.l.length ≤ 30
        · have r3 : decide ((p.l.length : Int) ≤ 30) = true := decide_eq_true (by omega)
          have fin' := fin true (by simp [plightB, q0, q1, q2, q3])
          clear fin
          go_enter Tryd.func8, Tryd.ntmps8
          go_wp2_with fail
          go_ret
          exact fin' _ hB
        · have r3 : decide ((p.l.length : Int) ≤ 30) = false := decide_eq_false (by omega)
          have fin' := fin false (by simp [plightB, q3])
          clear fin
          go_enter Tryd.func8, Tryd.ntmps8
          go_wp2_with fail
          go_ret
          exact fin' _ hB
      · have r2 : decide ((p.r.length : Int) ≤ 50) = false := decide_eq_false (by omega)
        have fin' := fin false (by simp [plightB, q2])
        clear fin
        go_enter Tryd.func8, Tryd.ntmps8
        go_wp2_with fail
        go_ret
        exact fin' _ hB
    · have r1 : decide ((p.o.length : Int) ≤ 50) = false := decide_eq_false (by omega)
      have fin' := fin false (by simp [plightB, q1])
      clear fin
      go_enter Tryd.func8, Tryd.ntmps8
      go_wp2_with fail
      go_ret
      exact fin' _ hB
  · have r0 : decide ((p.g.length : Int) ≤ 50) = false := decide_eq_false (by omega)
    have fin' := fin false (by simp [plightB, q0])
    clear fin
    go_enter Tryd.func8, Tryd.ntmps8
    go_wp2_with fail
    go_ret
    exact fin' _ hB
#print axioms plight_any
end Go.Proofs.YtmglhlfjddgllaaDoor
