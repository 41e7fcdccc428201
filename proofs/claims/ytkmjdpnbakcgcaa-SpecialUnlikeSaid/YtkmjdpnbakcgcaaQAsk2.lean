/- SpecialAsks, for every input. -/
import Derived.Test.YtkmjdpnbakcgcaaQAsk
import Derived.Test.YtkmjdpnbakcgcaaQIn
namespace Go.Proofs.Ytkmjdpnbakcgcaa
open Go Go.RowKit

set_option maxRecDepth 20000 in
set_option maxHeartbeats 4000000 in
theorem asks_long {w : World} {a2 a3 b2 b3 ga oa : Option Addr} {c2 c3 d2 d3 gc oc n2 n3 n4 n5 ng no : Nat} {ver tok tag vr tk tg : Int} {gz : Int}
    (hl : 50 < n2 ∨ 50 < n3 ∨ 50 < ng ∨ 50 < no) :
    Calls Try.prog 4 #[.agg #[.int .i64 ver, .slice a2 n2 c2, .slice a3 n3 c3, .int .i64 tok, .int .i64 tag, .int .i64 vr, .slice b2 n4 d2, .slice b3 n5 d3, .int .i64 tk, .int .i64 tg, .slice ga ng gc, .slice oa no oc], .int .u8 gz] w fun e w' => e = .returned (.bool true) ∧ Below w.heap.size w w' := by
  go_enter Try.func4, Try.ntmps4
  go_wp2_with fail
  go_region
  obtain ⟨X, hX⟩ : ∃ X, X = ((w.alloc (.cells #[.int .i64 ver, .slice a2 n2 c2, .slice a3 n3 c3, .int .i64 tok, .int .i64 tag, .int .i64 vr, .slice b2 n4 d2, .slice b3 n5 d3, .int .i64 tk, .int .i64 tg, .slice ga ng gc, .slice oa no oc] 26)).alloc (.cells #[.int .i64 ver, .slice a2 n2 c2, .slice a3 n3 c3, .int .i64 tok, .int .i64 tag] 24)).drew := ⟨_, rfl⟩
  have hbX : Below w.heap.size w X := by rw [hX]; exact ((below_alloc w _).trans ((below_alloc _ _).mono (below_alloc w _).size)).drew
  have hA : X.heap[w.heap.size + 1]? = some (.cells #[.int .i64 ver, .slice a2 n2 c2, .slice a3 n3 c3, .int .i64 tok, .int .i64 tag] 24 (0, 0)) := by
    rw [hX]
    have := heap_alloc_new (w.alloc (.cells #[.int .i64 ver, .slice a2 n2 c2, .slice a3 n3 c3, .int .i64 tok, .int .i64 tag, .int .i64 vr, .slice b2 n4 d2, .slice b3 n5 d3, .int .i64 tk, .int .i64 tg, .slice ga ng gc, .slice oa no oc] 26)) (.cells #[.int .i64 ver, .slice a2 n2 c2, .slice a3 n3 c3, .int .i64 tok, .int .i64 tag] 24)
    rw [World.size_alloc] at this
    exact this
  rw [← hX]
  obtain ⟨x0, x1, x2, x3, x4, _⟩ := cells5 hA
  have HX := Lib.hid hbX
  clear hX hbX hA
  by_cases h2 : 50 < n2
  · have t2 : decide ((50 : Int) < (n2 : Int)) = true := decide_eq_true (by omega)
    clear hl h2
    go_wp2_with fail
    go_ret
    exact ⟨rfl, HX.out⟩
  · have t2 : decide ((50 : Int) < (n2 : Int)) = false := decide_eq_false (by omega)
    by_cases h3 : 50 < n3
    · have t3 : decide ((50 : Int) < (n3 : Int)) = true := decide_eq_true (by omega)
      clear hl h2 h3
      go_wp2_with fail
      go_ret
      exact ⟨rfl, HX.out⟩
    · have t3 : decide ((50 : Int) < (n3 : Int)) = false := decide_eq_false (by omega)
      by_cases h4 : 50 < ng
      · have t4 : decide ((50 : Int) < (ng : Int)) = true := decide_eq_true (by omega)
        clear hl h2 h3 h4
        go_wp2_with fail
        go_ret
        exact ⟨rfl, HX.out⟩
      · have t4 : decide ((50 : Int) < (ng : Int)) = false := decide_eq_false (by omega)
        have t5 : decide ((50 : Int) < (no : Int)) = true := decide_eq_true (by omega)
        clear hl h2 h3 h4
        go_wp2_with fail
        go_ret
        exact ⟨rfl, HX.out⟩
open Go.ChangeShapes Go.WideShapes Go.ChangeAt
theorem schT : Try.prog.cellsOf 26 = 12 := by kernel_rfl
theorem four_of {α : Type} {l : List α} (h : l.length = 4) : ∃ a b c d, l = [a, b, c, d] := by
  match l, h with
  | [a, b, c, d], _ => exact ⟨a, b, c, d, rfl⟩
theorem twelve_of {α : Type} {l : List α} (h : l.length = 12) : ∃ a b c d e f g h' i j k m, l = [a, b, c, d, e, f, g, h', i, j, k, m] := by
  match l, h with
  | [a, b, c, d, e, f, g, h', i, j, k, m], _ => exact ⟨a, b, c, d, e, f, g, h', i, j, k, m, rfl⟩
/-- A retry among what came in. -/
theorem retry_at {W : World} {H : Type} {enc : TypeId × Value → H} {base : Nat} {sp : Nat → Bool} {held : Bool} {fuel : Nat} {v0 v1 v2 v3 v4 : Value} {x : DataW H × List MemPlace} (h : DataW.trod enc Try.prog W base sp held fuel 24 [v0, v1, v2, v3, v4] = some x) :
    ∃ (ver : Int) (to fr : List Int) (tok tag : Int) (a2 : Option Addr) (c2 : Nat) (a3 : Option Addr) (c3 : Nat), v0 = .int .i64 ver ∧ v1 = .slice a2 to.length c2 ∧ v2 = .slice a3 fr.length c3 ∧ v3 = .int .i64 tok ∧ v4 = .int .i64 tag ∧ Rd W (.slice a2 to.length c2) to ∧ Rd W (.slice a3 fr.length c3) fr := by
  obtain ⟨xs, k, hk, hxy, _, hxl, hf⟩ := DataW.trod_struct Try.underlying24 h
  obtain ⟨y0, y1, y2, y3, y4, rfl⟩ := five_of (l := xs) hxl
  have g0 : DataW.trod enc Try.prog W base sp held k 3 [v0] = some y0 := by have := hf 0 _ rfl; simpa [Value.cells, sch3] using this
  have g1 : DataW.trod enc Try.prog W base sp held k 22 [v1] = some y1 := by have := hf 1 _ rfl; simpa [Value.cells, schb] using this
  have g2 : DataW.trod enc Try.prog W base sp held k 22 [v2] = some y2 := by have := hf 2 _ rfl; simpa [Value.cells, schb] using this
  have g3 : DataW.trod enc Try.prog W base sp held k 3 [v3] = some y3 := by have := hf 3 _ rfl; simpa [Value.cells, sch3] using this
  have g4 : DataW.trod enc Try.prog W base sp held k 3 [v4] = some y4 := by have := hf 4 _ rfl; simpa [Value.cells, sch3] using this
  obtain ⟨a2, c2, z2, rfl, r2⟩ := rdb_in g1
  obtain ⟨a3, c3, z3, rfl, r3⟩ := rdb_in g2
  obtain ⟨n0, q0, _, _⟩ := DataW.trod_int Try.underlying3 g0
  obtain ⟨n3, q3, _, _⟩ := DataW.trod_int Try.underlying3 g3
  obtain ⟨n4, q4, _, _⟩ := DataW.trod_int Try.underlying3 g4
  simp only [List.cons.injEq, and_true] at q0 q3 q4
  exact ⟨n0, z2, z3, n3, n4, a2, c2, a3, c3, q0, rfl, rfl, q3, q4, r2, r3⟩
set_option maxRecDepth 20000 in
theorem two_in {W : World} {H : Type} {enc : TypeId × Value → H} {r : Reach} {b0 base : Nat} {sp : Nat → Bool} {held : Bool} {v : Value} {d : DataW H} {p : List MemPlace} (hv : Value.okWide Try.prog W r b0 26 v) (h : DataW.Trod enc Try.prog W base sp held 26 v d p) :
    ∃ (ver : Int) (to fr : List Int) (tok tag : Int) (a2 : Option Addr) (c2 : Nat) (a3 : Option Addr) (c3 : Nat) (vr : Int) (tp fp : List Int) (tk tg : Int) (b2 : Option Addr) (d2 : Nat) (b3 : Option Addr) (d3 : Nat) (zg zo : List Int) (ga : Option Addr) (gc : Nat) (oa : Option Addr) (oc : Nat),
      v = .agg #[.int .i64 ver, .slice a2 to.length c2, .slice a3 fr.length c3, .int .i64 tok, .int .i64 tag, .int .i64 vr, .slice b2 tp.length d2, .slice b3 fp.length d3, .int .i64 tk, .int .i64 tg, .slice ga zg.length gc, .slice oa zo.length oc] ∧
      (Rd W (.slice a2 to.length c2) to ∧ Rd W (.slice a3 fr.length c3) fr ∧ Rd W (.slice b2 tp.length d2) tp ∧ Rd W (.slice b3 fp.length d3) fp ∧ Rd W (.slice ga zg.length gc) zg ∧ Rd W (.slice oa zo.length oc) zo) := by
  obtain ⟨⟨l⟩, rfl, hsz⟩ := okWide_struct Try.underlying26 hv
  obtain ⟨v0, v1, v2, v3, v4, v5, v6, v7, v8, v9, v10, v11, rfl⟩ := twelve_of (l := l) (hsz.trans schT)
  obtain ⟨fuel, hf0⟩ := h
  obtain ⟨xs, k, hk, hxy, _, hxl, hf⟩ := DataW.trod_struct Try.underlying26 hf0
  obtain ⟨y0, y1, y2, y3, rfl⟩ := four_of (l := xs) hxl
  have g0 : DataW.trod enc Try.prog W base sp held k 24 [v0, v1, v2, v3, v4] = some y0 := by have := hf 0 _ rfl; simpa [Value.cells, schR] using this
  have g1 : DataW.trod enc Try.prog W base sp held k 24 [v5, v6, v7, v8, v9] = some y1 := by have := hf 1 _ rfl; simpa [Value.cells, schR] using this
  have g2 : DataW.trod enc Try.prog W base sp held k 22 [v10] = some y2 := by have := hf 2 _ rfl; simpa [Value.cells, schR, schb] using this
  have g3 : DataW.trod enc Try.prog W base sp held k 22 [v11] = some y3 := by have := hf 3 _ rfl; simpa [Value.cells, schR, schb] using this
  obtain ⟨ver, to, fr, tok, tag, a2, c2, a3, c3, rfl, rfl, rfl, rfl, rfl, r2, r3⟩ := retry_at g0
  obtain ⟨vr, tp, fp, tk, tg, b2, d2, b3, d3, rfl, rfl, rfl, rfl, rfl, s2, s3⟩ := retry_at g1
  obtain ⟨ga, gc, zg, rfl, rg⟩ := rdb_in g2
  obtain ⟨oa, oc, zo, rfl, ro⟩ := rdb_in g3
  exact ⟨ver, to, fr, tok, tag, a2, c2, a3, c3, vr, tp, fp, tk, tg, b2, d2, b3, d3, zg, zo, ga, gc, oa, oc, rfl, r2, r3, s2, s3, rg, ro⟩
theorem asks_walk {w : World} {a2 a3 b2 b3 ga oa : Option Addr} {c2 c3 d2 d3 gc oc : Nat} {to fr tp fp zg zo : List Int} {ver tok tag vr tk tg : Int} {gz : Int}
    (h : Rd w (.slice a2 to.length c2) to ∧ Rd w (.slice a3 fr.length c3) fr ∧ Rd w (.slice b2 tp.length d2) tp ∧ Rd w (.slice b3 fp.length d3) fp ∧ Rd w (.slice ga zg.length gc) zg ∧ Rd w (.slice oa zo.length oc) zo) (hz : 0 ≤ gz ∧ gz ≤ 255) :
    Calls Try.prog 4 #[.agg #[.int .i64 ver, .slice a2 to.length c2, .slice a3 fr.length c3, .int .i64 tok, .int .i64 tag, .int .i64 vr, .slice b2 tp.length d2, .slice b3 fp.length d3, .int .i64 tk, .int .i64 tg, .slice ga zg.length gc, .slice oa zo.length oc], .int .u8 gz] w fun e w' => e = .returned (.bool true) ∧ Below w.heap.size w w' := by
  by_cases hl : 50 < to.length ∨ 50 < fr.length ∨ 50 < zg.length ∨ 50 < zo.length
  · exact asks_long hl
  · exact asks_ok h.1 h.2.1 h.2.2.2.2.1 h.2.2.2.2.2 (by omega) (by omega) (by omega) (by omega) hz
#print axioms asks_walk
#print axioms two_in
end Go.Proofs.Ytkmjdpnbakcgcaa
