/- told, whatever the params. -/
import Derived.Test.YtmglhlfjddgllaaDoorPT0
import Derived.Test.YtmglhlfjddgllaaDoorPT1
import Derived.Test.YtmglhlfjddgllaaDoorPT2
import Derived.Test.YtmglhlfjddgllaaDoorPT3
namespace Go.Proofs.YtmglhlfjddgllaaDoor
open Go Go.RowKit

theorem told_any {w : World} {a b : Pv} {u5 u6 u7 u9 v5 v6 v7 v9 : Value} (h : Pr w a u5 u6 u7 u9) (h' : Pr w b v5 v6 v7 v9) (hl : b.l.length ≤ 100000) :
    Calls Tryd.prog 18 #[pAgg a u5 u6 u7 u9, pAgg b v5 v6 v7 v9] w fun e w' => e = .returned (.bool (psameB a b)) ∧ Below w.heap.size w w' := by
  cases e0 : (a.i == b.i) with
  | false => exact told_no0 h h' hl e0
  | true =>
    cases e1 : (a.d == b.d) with
    | false => exact told_no1 h h' hl e0 e1
    | true =>
      cases e2 : (a.hg == b.hg) with
      | false => exact told_no2 h h' hl e0 e1 e2
      | true =>
        cases e3 : (a.ho == b.ho) with
        | false => exact told_no3 h h' hl e0 e1 e2 e3
        | true =>
          cases e4 : (a.hr == b.hr) with
          | false => exact told_no4 h h' hl e0 e1 e2 e3 e4
          | true =>
            cases e5 : decide (a.g = b.g) with
            | false => exact told_no5 h h' hl e0 e1 e2 e3 e4 e5
            | true =>
              cases e6 : decide (a.o = b.o) with
              | false => exact told_no6 h h' hl e0 e1 e2 e3 e4 e5 e6
              | true =>
                cases e7 : decide (a.r = b.r) with
                | false => exact told_no7 h h' hl e0 e1 e2 e3 e4 e5 e6 e7
                | true =>
                  cases e8 : (a.c == b.c) with
                  | false => exact told_no8 h h' hl e0 e1 e2 e3 e4 e5 e6 e7 e8
                  | true =>
                    by_cases hln : a.l.length = b.l.length
                    · exact told_yes h h' hl e0 e1 e2 e3 e4 e5 e6 e7 e8 hln
                    · exact told_len h h' hl e0 e1 e2 e3 e4 e5 e6 e7 e8 hln
end Go.Proofs.YtmglhlfjddgllaaDoor
