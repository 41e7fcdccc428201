/- HeaderJoins holds, as its card says it: long packets one behind the other, and a short one at the end, are told as they are. It is tied to the tables of math/bits. -/
import Derived.Test.YtgnjmmaahpngpaaDoorHIn
import Derived.Test.YtgnjmmaahpngpaaDoorFrame
import Derived.Test.YtgnjmmaahpngpaaDoorHJoin
namespace Go.Proofs.YtgnjmmaahpngpaaDoor
open Go.ChangeShapes Go.WideShapes Go.ChangeAt Go.RowKit

theorem schJ : Tryd.prog.cellsOf 26 = 25 := by kernel_rfl
theorem four_of {α : Type} {l : List α} (h : l.length = 4) : ∃ a b c d, l = [a, b, c, d] := by
  match l, h with
  | [a, b, c, d], _ => exact ⟨a, b, c, d, rfl⟩
theorem cut_eight {α : Type} {l : List α} {n : Nat} (h : l.length = n + 8) : ∃ a b c d e f g i r, l = a :: b :: c :: d :: e :: f :: g :: i :: r ∧ r.length = n := by
  match l, h with
  | a :: b :: c :: d :: e :: f :: g :: i :: r, h => exact ⟨a, b, c, d, e, f, g, i, r, rfl, by simpa using h⟩
/-- A header among what came in. -/
theorem header_at {W : World} {H : Type} {enc : TypeId × Value → H} {base : Nat} {sp : Nat → Bool} {held : Bool} {fuel : Nat} {v0 v1 v2 v3 v4 v5 v6 v7 : Value} {x : DataW H × List MemPlace} (h : DataW.trod enc Tryd.prog W base sp held fuel 24 [v0, v1, v2, v3, v4, v5, v6, v7] = some x) :
    ∃ (h : Hv) (a2 : Option Addr) (c2 : Nat) (a3 : Option Addr) (c3 : Nat) (a4 : Option Addr) (c4 : Nat), v0 = .int .i64 h.k ∧ v1 = .int .i64 h.v ∧ v2 = .slice a2 h.to.length c2 ∧ v3 = .slice a3 h.fr.length c3 ∧ v4 = .slice a4 h.tk.length c4 ∧ v5 = .int .i64 h.p ∧ v6 = .int .i64 h.n ∧ v7 = .int .i64 h.w ∧ Hr W h (.slice a2 h.to.length c2) (.slice a3 h.fr.length c3) (.slice a4 h.tk.length c4) := by
  obtain ⟨xs, k, hk, hxy, _, hxl, hf⟩ := DataW.trod_struct Tryd.underlying24 h
  obtain ⟨y0, y1, y2, y3, y4, y5, y6, y7, rfl⟩ := eight_of (l := xs) hxl
  have g0 : DataW.trod enc Tryd.prog W base sp held k 3 [v0] = some y0 := by have := hf 0 _ rfl; simpa [Value.cells, sch3] using this
  have g1 : DataW.trod enc Tryd.prog W base sp held k 3 [v1] = some y1 := by have := hf 1 _ rfl; simpa [Value.cells, sch3] using this
  have g2 : DataW.trod enc Tryd.prog W base sp held k 22 [v2] = some y2 := by have := hf 2 _ rfl; simpa [Value.cells, schb] using this
  have g3 : DataW.trod enc Tryd.prog W base sp held k 22 [v3] = some y3 := by have := hf 3 _ rfl; simpa [Value.cells, schb] using this
  have g4 : DataW.trod enc Tryd.prog W base sp held k 22 [v4] = some y4 := by have := hf 4 _ rfl; simpa [Value.cells, schb] using this
  have g5 : DataW.trod enc Tryd.prog W base sp held k 3 [v5] = some y5 := by have := hf 5 _ rfl; simpa [Value.cells, sch3] using this
  have g6 : DataW.trod enc Tryd.prog W base sp held k 3 [v6] = some y6 := by have := hf 6 _ rfl; simpa [Value.cells, sch3] using this
  have g7 : DataW.trod enc Tryd.prog W base sp held k 3 [v7] = some y7 := by have := hf 7 _ rfl; simpa [Value.cells, sch3] using this
  obtain ⟨a2, c2, z2, rfl, r2⟩ := rdb_in g2
  obtain ⟨a3, c3, z3, rfl, r3⟩ := rdb_in g3
  obtain ⟨a4, c4, z4, rfl, r4⟩ := rdb_in g4
  obtain ⟨n0, q0, _, _⟩ := DataW.trod_int Tryd.underlying3 g0
  obtain ⟨n1, q1, _, _⟩ := DataW.trod_int Tryd.underlying3 g1
  obtain ⟨n5, q5, _, _⟩ := DataW.trod_int Tryd.underlying3 g5
  obtain ⟨n6, q6, _, _⟩ := DataW.trod_int Tryd.underlying3 g6
  obtain ⟨n7, q7, _, _⟩ := DataW.trod_int Tryd.underlying3 g7
  simp only [List.cons.injEq, and_true] at q0 q1 q5 q6 q7
  exact ⟨⟨n0, n1, z2, z3, z4, n5, n6, n7⟩, a2, c2, a3, c3, a4, c4, q0, q1, rfl, rfl, rfl, q5, q6, q7, ⟨r2, r3, r4⟩⟩
set_option maxRecDepth 30000 in
theorem joins_in {W : World} {H : Type} {enc : TypeId × Value → H} {r : Reach} {b0 base : Nat} {sp : Nat → Bool} {held : Bool} {v : Value} {d : DataW H} {p : List MemPlace} (hv : Value.okWide Tryd.prog W r b0 26 v) (h : DataW.Trod enc Tryd.prog W base sp held 26 v d p) :
    ∃ (a b c : Hv) (body : List Int) (x2 : Option Addr) (x2c : Nat) (x3 : Option Addr) (x3c : Nat) (x4 : Option Addr) (x4c : Nat) (y2 : Option Addr) (y2c : Nat) (y3 : Option Addr) (y3c : Nat) (y4 : Option Addr) (y4c : Nat) (z2 : Option Addr) (z2c : Nat) (z3 : Option Addr) (z3c : Nat) (z4 : Option Addr) (z4c : Nat) (q2 : Option Addr) (q2c : Nat),
      v = .agg #[.int .i64 a.k, .int .i64 a.v, .slice x2 a.to.length x2c, .slice x3 a.fr.length x3c, .slice x4 a.tk.length x4c, .int .i64 a.p, .int .i64 a.n, .int .i64 a.w, .int .i64 b.k, .int .i64 b.v, .slice y2 b.to.length y2c, .slice y3 b.fr.length y3c, .slice y4 b.tk.length y4c, .int .i64 b.p, .int .i64 b.n, .int .i64 b.w, .int .i64 c.k, .int .i64 c.v, .slice z2 c.to.length z2c, .slice z3 c.fr.length z3c, .slice z4 c.tk.length z4c, .int .i64 c.p, .int .i64 c.n, .int .i64 c.w, .slice q2 body.length q2c] ∧ Hr W a (.slice x2 a.to.length x2c) (.slice x3 a.fr.length x3c) (.slice x4 a.tk.length x4c) ∧ Hr W b (.slice y2 b.to.length y2c) (.slice y3 b.fr.length y3c) (.slice y4 b.tk.length y4c) ∧ Hr W c (.slice z2 c.to.length z2c) (.slice z3 c.fr.length z3c) (.slice z4 c.tk.length z4c) ∧ Rd W (.slice q2 body.length q2c) body := by
  obtain ⟨⟨l⟩, rfl, hsz⟩ := okWide_struct Tryd.underlying26 hv
  have hl25 : l.length = 1 + 8 + 8 + 8 := hsz.trans schJ
  obtain ⟨v0, v1, v2, v3, v4, v5, v6, v7, m1, rfl, h1⟩ := cut_eight hl25
  obtain ⟨v8, v9, v10, v11, v12, v13, v14, v15, m2, rfl, h2⟩ := cut_eight h1
  obtain ⟨v16, v17, v18, v19, v20, v21, v22, v23, m3, rfl, h3⟩ := cut_eight h2
  obtain ⟨v24, rfl⟩ := List.length_eq_one_iff.1 h3
  obtain ⟨fuel, hf0⟩ := h
  obtain ⟨xs, k, hk, hxy, _, hxl, hf⟩ := DataW.trod_struct Tryd.underlying26 hf0
  obtain ⟨w0, w1, w2, w3, rfl⟩ := four_of (l := xs) hxl
  have g0 : DataW.trod enc Tryd.prog W base sp held k 24 [v0, v1, v2, v3, v4, v5, v6, v7] = some w0 := by have := hf 0 _ rfl; simpa [Value.cells, sch24] using this
  have g1 : DataW.trod enc Tryd.prog W base sp held k 24 [v8, v9, v10, v11, v12, v13, v14, v15] = some w1 := by have := hf 1 _ rfl; simpa [Value.cells, sch24] using this
  have g2 : DataW.trod enc Tryd.prog W base sp held k 24 [v16, v17, v18, v19, v20, v21, v22, v23] = some w2 := by have := hf 2 _ rfl; simpa [Value.cells, sch24] using this
  have g3 : DataW.trod enc Tryd.prog W base sp held k 22 [v24] = some w3 := by have := hf 3 _ rfl; simpa [Value.cells, sch24, schb] using this
  obtain ⟨a, x2, x2c, x3, x3c, x4, x4c, rfl, rfl, rfl, rfl, rfl, rfl, rfl, rfl, ra⟩ := header_at g0
  obtain ⟨b, y2, y2c, y3, y3c, y4, y4c, rfl, rfl, rfl, rfl, rfl, rfl, rfl, rfl, rb⟩ := header_at g1
  obtain ⟨c, z2, z2c, z3, z3c, z4, z4c, rfl, rfl, rfl, rfl, rfl, rfl, rfl, rfl, rc⟩ := header_at g2
  obtain ⟨q2, q2c, body, rfl, rq⟩ := rdb_in g3
  exact ⟨a, b, c, body, x2, x2c, x3, x3c, x4, x4c, y2, y2c, y3, y3c, y4, y4c, z2, z2c, z3, z3c, z4, z4c, q2, q2c, rfl, ra, rb, rc, rq⟩
#print axioms joins_in
end Go.Proofs.YtgnjmmaahpngpaaDoor
namespace Go.Proofs.YtgnjmmaahpngpaaDoor.hjoins
open Go.ChangeShapes Go.WideShapes Go.ChangeAt Go.RowKit

set_option maxRecDepth 100000 in
theorem contract (H : Type) (enc : TypeId × Value → H) (W : World) (base : Nat) (args : Array Value) (ds gs : List (DataW H)) (before : List MemPlace)
    (hval0 : ∀ (j : Nat) t v, Tryd.f3.params[j]? = some t → args[j]? = some v → Value.okWide Tryd.prog W .any base t v)
    (hW : DataW.Whole enc Tryd.prog Tryd.f3.params.toList Rows.headerJoinsSpec.vars false W args.toList ds gs before) (hL : laidMetH Tryd.prog Rows.headerJoinsRow.laid W) :
    Calls Tryd.prog 3 args W fun e W' => ∃ v, e = .returned v ∧ Rows.headerJoinsSpec.post enc Tryd.prog Tryd.f3 false true false false W args v W' := by
  have hval : ∀ (j : Nat) t v, Tryd.f3.params[j]? = some t → args[j]? = some v → Value.okWide Tryd.prog W .any base t v := hval0
  have hW' := hW
  obtain ⟨p, q, hA0, hV, rfl, hfz, hnd⟩ := hW
  have hA : DataW.TrodAll enc Tryd.prog W 0 (fun _ => true) true Tryd.f3.params.toList args.toList ds p := hA0
  rw [Tryd.params3] at hA hval
  have ht : Tab W := tab_of hL
  have hw : 1 < W.heap.size := cell_lt ht.1
  obtain ⟨v0, vs0, d0, ds0, p0, q0, hargs, rfl, rfl, h0, r0⟩ := trodAll_cons hA
  obtain ⟨rfl, rfl, rfl⟩ := trodAll_nil r0
  obtain rfl : args = #[v0] := by cases args; simp_all
  obtain ⟨rfl, rfl⟩ := trodVars_none hV
  have k0 := h0
  have lt0 : ∀ x ∈ p0, x.block < W.heap.size := by obtain ⟨m, hm⟩ := k0; exact DataW.trod_lt m _ _ _ hm
  obtain ⟨ja, jb, jc, body, x2, x2c, x3, x3c, x4, x4c, y2, y2c, y3, y3c, y4, y4c, z2, z2c, z3, z3c, z4, z4c, q2, q2c, rfl, ra, rb, rc, rq⟩ := joins_in (hval 0 26 v0 rfl rfl) h0
  refine (hjoin_walk ja jb jc body x2 x2c x3 x3c x4 x4c y2 y2c y3 y3c y4 y4c z2 z2c z3 z3c z4 z4c q2 q2c ra rb rc rq ht hw).mono fun e W' ⟨he, bel⟩ => ?_
  subst he
  exact ⟨_, rfl, _, _, _, [], _, [], hW', trodAll_mk1 (shut_bool Tryd.underlying4 _), (trodAll_cons_mk (Below.trod laidOut (by kernel_rfl) (of_decide_eq_true (by kernel_rfl)) k0 bel lt0) trodAll_mk0), rfl, bel.frame _, fun h => by cases h⟩

theorem laid_met (os : Os) : laidMet Tryd.prog Rows.headerJoinsRow.laid ((laidWorld os).forCall (fun _ _ => 0) ⟨#[], #[.agg #[.int .i64 0, .int .i64 0, .slice none 0 0, .slice none 0 0, .slice none 0 0, .int .i64 0, .int .i64 0, .int .i64 0, .int .i64 0, .int .i64 0, .slice none 0 0, .slice none 0 0, .slice none 0 0, .int .i64 0, .int .i64 0, .int .i64 0, .int .i64 0, .int .i64 0, .slice none 0 0, .slice none 0 0, .slice none 0 0, .int .i64 0, .int .i64 0, .int .i64 0, .slice none 0 0]], []⟩).memory :=
  laidMet_of_run' 8 (by kernel_rfl) (by kernel_rfl)
theorem reads (os : Os) {H : Type} (enc : TypeId × Value → H) : ∃ places, DataW.whole enc Tryd.prog ((laidWorld os).forCall (fun _ _ => 0) ⟨#[], #[.agg #[.int .i64 0, .int .i64 0, .slice none 0 0, .slice none 0 0, .slice none 0 0, .int .i64 0, .int .i64 0, .int .i64 0, .int .i64 0, .int .i64 0, .slice none 0 0, .slice none 0 0, .slice none 0 0, .int .i64 0, .int .i64 0, .int .i64 0, .int .i64 0, .int .i64 0, .slice none 0 0, .slice none 0 0, .slice none 0 0, .int .i64 0, .int .i64 0, .int .i64 0, .slice none 0 0]], []⟩).memory Tryd.f3.params.toList Rows.headerJoinsSpec.vars false #[Value.agg #[.int .i64 0, .int .i64 0, .slice none 0 0, .slice none 0 0, .slice none 0 0, .int .i64 0, .int .i64 0, .int .i64 0, .int .i64 0, .int .i64 0, .slice none 0 0, .slice none 0 0, .slice none 0 0, .int .i64 0, .int .i64 0, .int .i64 0, .int .i64 0, .int .i64 0, .slice none 0 0, .slice none 0 0, .slice none 0 0, .int .i64 0, .int .i64 0, .int .i64 0, .slice none 0 0]].toList 8 = some ([.agg [.agg [.lit (.int .i64 0), .lit (.int .i64 0), .nil, .nil, .nil, .lit (.int .i64 0), .lit (.int .i64 0), .lit (.int .i64 0)], .agg [.lit (.int .i64 0), .lit (.int .i64 0), .nil, .nil, .nil, .lit (.int .i64 0), .lit (.int .i64 0), .lit (.int .i64 0)], .agg [.lit (.int .i64 0), .lit (.int .i64 0), .nil, .nil, .nil, .lit (.int .i64 0), .lit (.int .i64 0), .lit (.int .i64 0)], .nil]], [], places) :=
  ⟨[], by kernel_rfl⟩

set_option maxRecDepth 100000 in
theorem lifted (os : Os) (started : os.Started) (H : Type) (enc : TypeId × Value → H) (F : Stop.Interp) :
    ReturnsInHanded {} Tryd.checked os 3 .any ((OpenSpec.ofChange Rows.headerJoinsSpec).preRow enc Tryd.prog Tryd.f3 Rows.headerJoinsRow.domain false Rows.headerJoinsRow.laid) (((OpenSpec.ofChange Rows.headerJoinsSpec).at F).post enc Tryd.prog Tryd.f3 false true false false) := by
  obtain ⟨places, hx⟩ := reads os enc
  refine returnsInHanded_of_row (C := Tryd.checked) (s := OpenSpec.ofChange Rows.headerJoinsSpec) own started (by kernel_rfl) Tryd.func3
    (witness_row_at (enc := enc) (C := Tryd.checked) false (laidWorld os) #[.agg #[.int .i64 0, .int .i64 0, .slice none 0 0, .slice none 0 0, .slice none 0 0, .int .i64 0, .int .i64 0, .int .i64 0, .int .i64 0, .int .i64 0, .slice none 0 0, .slice none 0 0, .slice none 0 0, .int .i64 0, .int .i64 0, .int .i64 0, .int .i64 0, .int .i64 0, .slice none 0 0, .slice none 0 0, .slice none 0 0, .int .i64 0, .int .i64 0, .int .i64 0, .slice none 0 0]] rfl (by kernel_rfl) (by kernel_rfl) (by kernel_rfl)
      (OpenSpec.preRow_of_cond 8 hx (by kernel_rfl) (fun k hk => by cases hk) (by kernel_rfl) (laid_met os))) ?_
  intro W base args ds gs before hval hW _ _ _ hL _ _
  exact contract H enc W base args ds gs before hval hW hL

theorem said : Rows.HeaderJoinsSaid :=
  OpenClaim.holds_of_cond 3 Tryd.f3 rfl rfl rfl rfl rfl rfl rfl ⟨rfl, rfl, rfl, rfl, rfl⟩ rfl rfl rfl rfl rfl (by kernel_rfl) Tryd.func3 (by kernel_rfl)
    (of_decide_eq_true (by kernel_rfl)) (by unfold Func.isWrapper; first | (rw [if_pos (by decide +kernel)]; kernel_rfl) | (rw [if_neg (by decide +kernel)]; exact ⟨rfl, rfl⟩))
    (fun os started H enc _ F => by rw [OpenClaim.pre_eq_preRow]; exact lifted os started H enc F)

theorem plain (f : FuncId) (fn : Func) (hf : Tryd.pinned.checked.prog.funcNamed Rows.headerJoinsRow.func = some f) (hfn : Tryd.pinned.checked.prog.funcs[f]? = some fn) :
    true = Tryd.pinned.checked.prog.looks [] ∧ ∀ (j : Nat) t, fn.params[j]? = some t → Tryd.pinned.checked.prog.wantsStandIn t = false := by
  obtain rfl : f = 3 := Option.some.inj ((show Tryd.prog.funcNamed Rows.headerJoinsRow.func = some 3 by kernel_rfl).symm.trans hf) |>.symm
  obtain rfl : fn = Tryd.f3 := (Option.some.inj (Tryd.func3.symm.trans hfn)).symm
  refine ⟨by kernel_rfl, fun j t ht => ?_⟩
  rw [Tryd.params3] at ht
  have hm := Array.mem_of_getElem? ht
  have hall : ∀ t ∈ [26], Tryd.prog.wantsStandIn t = false := by
    intro t h
    simp only [List.mem_cons, List.not_mem_nil, or_false] at h
    rcases h with rfl
    · kernel_rfl
  exact hall t (by simpa using hm)

theorem card : Rows.HeaderJoinsCardSaid :=
  Claim7.holds_tied_plain_at .later [] _ _ _ _ said (fun _ h => by cases h) (by kernel_rfl) (fun _ h => by cases h) headerJoins_row_tie rfl ⟨rfl, rfl⟩ (by kernel_rfl) rfl plain (by kernel_rfl)
#print axioms card
end Go.Proofs.YtgnjmmaahpngpaaDoor.hjoins
