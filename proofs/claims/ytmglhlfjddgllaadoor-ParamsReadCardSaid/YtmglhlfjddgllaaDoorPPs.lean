/- params.Same: all ten fields are alike. -/
import Derived.Test.YtmglhlfjddgllaaDoorPLight
namespace Go.Proofs.YtmglhlfjddgllaaDoor
open Go Go.RowKit

def psameB (a b : Pv) : Bool := (a.i == b.i) && (a.d == b.d) && (a.hg == b.hg) && (a.ho == b.ho) && (a.hr == b.hr) && decide (a.g = b.g) && decide (a.o = b.o) && decide (a.r = b.r) && (a.c == b.c) && decide (a.l = b.l)
theorem below_alloc2 (w : World) (o o' : Obj) : Below w.heap.size w ((w.alloc o).alloc o') := (below_alloc w o).alloc (below_alloc w o).size o'
set_option maxRecDepth 20000 in
set_option maxHeartbeats 20000000 in
theorem psame_any {w : World} (a b : Pv) (x5 : Option Addr) (x5c : Nat) (x6 : Option Addr) (x6c : Nat) (x7 : Option Addr) (x7c : Nat) (x9 : Option Addr) (x9c : Nat) (y5 : Option Addr) (y5c : Nat) (y6 : Option Addr) (y6c : Nat) (y7 : Option Addr) (y7c : Nat) (y9 : Option Addr) (y9c : Nat)
    (ha : Pr w a (.slice x5 a.g.length x5c) (.slice x6 a.o.length x6c) (.slice x7 a.r.length x7c) (.slice x9 a.l.length x9c))
    (hb : Pr w b (.slice y5 b.g.length y5c) (.slice y6 b.o.length y6c) (.slice y7 b.r.length y7c) (.slice y9 b.l.length y9c)) :
    Calls Tryd.prog 19 #[.agg #[.int .i64 a.i, .int .i64 a.d, .bool a.hg, .bool a.ho, .bool a.hr, .slice x5 a.g.length x5c, .slice x6 a.o.length x6c, .slice x7 a.r.length x7c, .int .i64 a.c, .slice x9 a.l.length x9c], .agg #[.int .i64 b.i, .int .i64 b.d, .bool b.hg, .bool b.ho, .bool b.hr, .slice y5 b.g.length y5c, .slice y6 b.o.length y6c, .slice y7 b.r.length y7c, .int .i64 b.c, .slice y9 b.l.length y9c]] w fun e w' => e = .returned (.bool (psameB a b)) ∧ Below w.heap.size w w' := by
  have X := below_alloc2 w (.cells #[.int .i64 a.i, .int .i64 a.d, .bool a.hg, .bool a.ho, .bool a.hr, .slice x5 a.g.length x5c, .slice x6 a.o.length x6c, .slice x7 a.r.length x7c, .int .i64 a.c, .slice x9 a.l.length x9c] 27) (.cells #[.int .i64 b.i, .int .i64 b.d, .bool b.hg, .bool b.ho, .bool b.hr, .slice y5 b.g.length y5c, .slice y6 b.o.length y6c, .slice y7 b.r.length y7c, .int .i64 b.c, .slice y9 b.l.length y9c] 27)
  have X0 := X
  have c5 := equal_any (ha.g.below X) (hb.g.below X)
  have c6 := equal_any (ha.o.below X) (hb.o.below X)
  have c7 := equal_any (ha.r.below X) (hb.r.below X)
  have c9 := iequal_any (ha.l.below X) (hb.l.below X)
  have HX := Lib.hid X
  clear X X0 ha hb
  have fin : ∀ q, q = psameB a b → ∀ w', Below w.heap.size w w' → (Ending.returned (.bool q) = .returned (.bool (psameB a b)) ∧ Below w.heap.size w w') := fun q e w' hb => ⟨ret_bool e, hb⟩
  cases e0 : (a.i == b.i) with
  | false =>
    have fin' := fin false (by simp only [psameB, e0, Bool.false_and])
    clear fin
    go_enter Tryd.func19, Tryd.ntmps19
    go_wp2_with (first | (go_at_call 39; refine c5.mono ?_; rintro e w' ⟨rfl, rfl⟩; clear c5) | (go_at_call 39; refine c6.mono ?_; rintro e w' ⟨rfl, rfl⟩; clear c6) | (go_at_call 39; refine c7.mono ?_; rintro e w' ⟨rfl, rfl⟩; clear c7) | (go_at_call 40; refine c9.mono ?_; rintro e w' ⟨rfl, hlast⟩; have HL := Lib.hid hlast; clear hlast c9))
    go_ret
    exact fin' _ HX.out
  | true =>
    cases e1 : (a.d == b.d) with
    | false =>
      have fin' := fin false (by simp only [psameB, e0, e1, Bool.and_false, Bool.false_and])
      clear fin
      go_enter Tryd.func19, Tryd.ntmps19
      go_wp2_with (first | (go_at_call 39; refine c5.mono ?_; rintro e w' ⟨rfl, rfl⟩; clear c5) | (go_at_call 39; refine c6.mono ?_; rintro e w' ⟨rfl, rfl⟩; clear c6) | (go_at_call 39; refine c7.mono ?_; rintro e w' ⟨rfl, rfl⟩; clear c7) | (go_at_call 40; refine c9.mono ?_; rintro e w' ⟨rfl, hlast⟩; have HL := Lib.hid hlast; clear hlast c9))
      go_ret
      exact fin' _ HX.out
    | true =>
      cases e2 : (a.hg == b.hg) with
      | false =>
        have fin' := fin false (by simp only [psameB, e0, e1, e2, Bool.and_false, Bool.false_and])
        clear fin
        go_enter Tryd.func19, Tryd.ntmps19
        go_wp2_with (first | (go_at_call 39; refine c5.mono ?_; rintro e w' ⟨rfl, rfl⟩; clear c5) | (go_at_call 39; refine c6.mono ?_; rintro e w' ⟨rfl, rfl⟩; clear c6) | (go_at_call 39; refine c7.mono ?_; rintro e w' ⟨rfl, rfl⟩; clear c7) | (go_at_call 40; refine c9.mono ?_; rintro e w' ⟨rfl, hlast⟩; have HL := Lib.hid hlast; clear hlast c9))
        go_ret
        exact fin' _ HX.out
      | true =>
        cases e3 : (a.ho == b.ho) with
        | false =>
          have fin' := fin false (by simp only [psameB, e0, e1, e2, e3, Bool.and_false, Bool.false_and])
          clear fin
          go_enter Tryd.func19, Tryd.ntmps19
          go_wp2_with (first | (go_at_call 39; refine c5.mono ?_; rintro e w' ⟨rfl, rfl⟩; clear c5) | (go_at_call 39; refine c6.mono ?_; rintro e w' ⟨rfl, rfl⟩; clear c6) | (go_at_call 39; refine c7.mono ?_; rintro e w' ⟨rfl, rfl⟩; clear c7) | (go_at_call 40; refine c9.mono ?_; rintro e w' ⟨rfl, hlast⟩; have HL := Lib.hid hlast; clear hlast c9))
          go_ret
          exact fin' _ HX.out
        | true =>
          cases e4 : (a.hr == b.hr) with
          | false =>
            have fin' := fin false (by simp only [psameB, e0, e1, e2, e3, e4, Bool.and_false, Bool.false_and])
            clear fin
            go_enter Tryd.func19, Tryd.ntmps19
            go_wp2_with (first | (go_at_call 39; refine c5.mono ?_; rintro e w' ⟨rfl, rfl⟩; clear c5) | (go_at_call 39; refine c6.mono ?_; rintro e w' ⟨rfl, rfl⟩; clear c6) | (go_at_call 39; refine c7.mono ?_; rintro e w' ⟨rfl, rfl⟩; clear c7) | (go_at_call 40; refine c9.mono ?_; rintro e w' ⟨rfl, hlast⟩; have HL := Lib.hid hlast; clear hlast c9))
            go_ret
            exact fin' _ HX.out
          | true =>
            cases e5 : decide (a.g = b.g) with
            | false =>
              rw [e5] at c5
              have fin' := fin false (by simp only [psameB, e0, e1, e2, e3, e4, e5, Bool.and_false, Bool.false_and])
              clear fin
              go_enter Tryd.func19, Tryd.ntmps19
              go_wp2_with (first | (go_at_call 39; refine c5.mono ?_; rintro e w' ⟨rfl, rfl⟩; clear c5) | (go_at_call 39; refine c6.mono ?_; rintro e w' ⟨rfl, rfl⟩; clear c6) | (go_at_call 39; refine c7.mono ?_; rintro e w' ⟨rfl, rfl⟩; clear c7) | (go_at_call 40; refine c9.mono ?_; rintro e w' ⟨rfl, hlast⟩; have HL := Lib.hid hlast; clear hlast c9))
              go_ret
              exact fin' _ HX.out
            | true =>
              rw [e5] at c5
              cases e6 : decide (a.o = b.o) with
              | false =>
                rw [e6] at c6
                have fin' := fin false (by simp only [psameB, e0, e1, e2, e3, e4, e5, e6, Bool.and_false, Bool.false_and])
                clear fin
                go_enter Tryd.func19, Tryd.ntmps19
                go_wp2_with (first | (go_at_call 39; refine c5.mono ?_; rintro e w' ⟨rfl, rfl⟩; clear c5) | (go_at_call 39; refine c6.mono ?_; rintro e w' ⟨rfl, rfl⟩; clear c6) | (go_at_call 39; refine c7.mono ?_; rintro e w' ⟨rfl, rfl⟩; clear c7) | (go_at_call 40; refine c9.mono ?_; rintro e w' ⟨rfl, hlast⟩; have HL := Lib.hid hlast; clear hlast c9))
                go_ret
                exact fin' _ HX.out
              | true =>
                rw [e6] at c6
                cases e7 : decide (a.r = b.r) with
                | false =>
                  rw [e7] at c7
                  have fin' := fin false (by simp only [psameB, e0, e1, e2, e3, e4, e5, e6, e7, Bool.and_false, Bool.false_and])
                  clear fin
                  go_enter Tryd.func19, Tryd.ntmps19
                  go_wp2_with (first | (go_at_call 39; refine c5.mono ?_; rintro e w' ⟨rfl, rfl⟩; clear c5) | (go_at_call 39; refine c6.mono ?_; rintro e w' ⟨rfl, rfl⟩; clear c6) | (go_at_call 39; refine c7.mono ?_; rintro e w' ⟨rfl, rfl⟩; clear c7) | (go_at_call 40; refine c9.mono ?_; rintro e w' ⟨rfl, hlast⟩; have HL := Lib.hid hlast; clear hlast c9))
                  go_ret
                  exact fin' _ HX.out
                | true =>
                  rw [e7] at c7
                  cases e8 : (a.c == b.c) with
                  | false =>
                    have fin' := fin false (by simp only [psameB, e0, e1, e2, e3, e4, e5, e6, e7, e8, Bool.and_false, Bool.false_and])
                    clear fin
                    go_enter Tryd.func19, Tryd.ntmps19
                    go_wp2_with (first | (go_at_call 39; refine c5.mono ?_; rintro e w' ⟨rfl, rfl⟩; clear c5) | (go_at_call 39; refine c6.mono ?_; rintro e w' ⟨rfl, rfl⟩; clear c6) | (go_at_call 39; refine c7.mono ?_; rintro e w' ⟨rfl, rfl⟩; clear c7) | (go_at_call 40; refine c9.mono ?_; rintro e w' ⟨rfl, hlast⟩; have HL := Lib.hid hlast; clear hlast c9))
                    go_ret
                    exact fin' _ HX.out
                  | true =>
                    cases e9 : decide (a.l = b.l) with
                    | false =>
                      rw [e9] at c9
                      have fin' := fin false (by simp only [psameB, e0, e1, e2, e3, e4, e5, e6, e7, e8, e9, Bool.and_false])
                      clear fin
                      go_enter Tryd.func19, Tryd.ntmps19
                      go_wp2_with (first | (go_at_call 39; refine c5.mono ?_; rintro e w' ⟨rfl, rfl⟩; clear c5) | (go_at_call 39; refine c6.mono ?_; rintro e w' ⟨rfl, rfl⟩; clear c6) | (go_at_call 39; refine c7.mono ?_; rintro e w' ⟨rfl, rfl⟩; clear c7) | (go_at_call 40; refine c9.mono ?_; rintro e w' ⟨rfl, hlast⟩; have HL := Lib.hid hlast; clear hlast c9))
                      go_ret
                      exact fin' _ (HX.out.trans (HL.out.mono HX.out.size))
                    | true =>
                      rw [e9] at c9
                      have fin' := fin true (by simp only [psameB, e0, e1, e2, e3, e4, e5, e6, e7, e8, e9]; rfl)
                      clear fin
                      go_enter Tryd.func19, Tryd.ntmps19
                      go_wp2_with (first | (go_at_call 39; refine c5.mono ?_; rintro e w' ⟨rfl, rfl⟩; clear c5) | (go_at_call 39; refine c6.mono ?_; rintro e w' ⟨rfl, rfl⟩; clear c6) | (go_at_call 39; refine c7.mono ?_; rintro e w' ⟨rfl, rfl⟩; clear c7) | (go_at_call 40; refine c9.mono ?_; rintro e w' ⟨rfl, hlast⟩; have HL := Lib.hid hlast; clear hlast c9))
                      go_ret
                      exact fin' _ (HX.out.trans (HL.out.mono HX.out.size))
#print axioms psame_any
end Go.Proofs.YtmglhlfjddgllaaDoor
