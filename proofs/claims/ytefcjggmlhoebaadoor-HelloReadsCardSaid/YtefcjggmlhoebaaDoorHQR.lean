/- The document's Read of messages: its state, what it tells. -/
import Derived.Test.YtefcjggmlhoebaaDoorHQZ0
import Derived.Test.YtefcjggmlhoebaaDoorRefTake
import Derived.Test.YtefcjggmlhoebaaDoorHTake
namespace Go.Proofs.YtefcjggmlhoebaaDoor
open Go Go.RowKit

/-- The document's message in its box H, its reader in the box I, the result's box as it was made. -/
structure Qm (w0 W : World) (zs : List Int) (H I : Nat) (x : Hm) (pv : Value) (s : JS) : Prop where
  box : RBox W H x.k x.r x.s x.t x.m x.f pv (bstr x.n) x.v x.l
  d : Rd w0 pv x.p
  pl : Plain pv
  jq : Jq w0 W I zs s
  lo : w0.heap.size < H ∧ H ≠ I ∧ w0.heap.size < I
  res : RBox W w0.heap.size 0 0 0 0 0 false (.slice none 0 0) ⟨#[]⟩ 0 0
theorem Qm.call {w0 W W' : World} {zs : List Int} {H I : Nat} {x : Hm} {pv : Value} {s s' : JS} (h : Qm w0 W zs H I x pv s) (hj : Jq w0 W' I zs s') (hb : But I W W') : Qm w0 W' zs H I x pv s' :=
  ⟨h.box.keep (hb.block H h.box.lt h.lo.2.1), h.d, h.pl, hj, h.lo, h.res.keep (hb.block _ h.res.lt (by have := h.lo.2.2; omega))⟩
theorem Qm.set {w0 W : World} {zs : List Int} {H I : Nat} {x : Hm} {pv : Value} {s : JS} (h : Qm w0 W zs H I x pv s) (i : Nat) (u : Value) {x' : Hm} {pv' : Value} (hc : (mcl x.k x.r x.s x.t x.m x.f pv (bstr x.n) x.v x.l).setIfInBounds i u = mcl x'.k x'.r x'.s x'.t x'.m x'.f pv' (bstr x'.n) x'.v x'.l) (hd : Rd w0 pv' x'.p) (hp : Plain pv') : Qm w0 (W.setCell ⟨H, i, none⟩ u) zs H I x' pv' s :=
  ⟨h.box.set i u hc, hd, hp, h.jq.but (But.set W H i u) (Nat.le_of_lt h.lo.1) (Ne.symm h.lo.2.1), h.lo, h.res.keep (Below.heap_setCell _ _ _ _ (show w0.heap.size ≠ H by have := h.lo.1; omega))⟩
theorem Qm.bel {w0 W : World} {zs : List Int} {H I : Nat} {x : Hm} {pv : Value} {s : JS} (h : Qm w0 W zs H I x pv s) : Below w0.heap.size w0 W := h.jq.bel
theorem qm_start {w w1 : World} {zs : List Int} (k : Int) (rv : Value) (hB : Below w.heap.size w w1) (hN : RBox w1 w.heap.size 0 0 0 0 0 false (.slice none 0 0) ⟨#[]⟩ 0 0) (hd : Rd w rv (zs.drop 4)) (hp : Plain rv) (h4 : 4 ≤ zs.length) (hl : zs.length ≤ 1000000) :
    Qm w ((w1.alloc (.cells (mcl k 0 0 0 0 false (.slice none 0 0) ⟨#[]⟩ 0 0) 24)).alloc (.cells #[rv, .bool false] 63)) zs w1.heap.size (w1.heap.size + 1) ⟨k, 0, 0, 0, 0, false, [], [], 0, 0⟩ (.slice none 0 0) ⟨4, false⟩ := by
  have b1 := below_alloc w1 (.cells (mcl k 0 0 0 0 false (.slice none 0 0) ⟨#[]⟩ 0 0) 24)
  have b2 := below_alloc (w1.alloc (.cells (mcl k 0 0 0 0 false (.slice none 0 0) ⟨#[]⟩ 0 0) 24)) (.cells #[rv, .bool false] 63)
  have b12 := b1.trans (b2.mono b1.size)
  have hlt := hN.lt
  have hin := heap_alloc_new (w1.alloc (.cells (mcl k 0 0 0 0 false (.slice none 0 0) ⟨#[]⟩ 0 0) 24)) (.cells #[rv, .bool false] 63)
  rw [World.size_alloc] at hin
  exact ⟨(rbox_new w1 k 0 0 0 0 false (.slice none 0 0) ⟨#[]⟩ 0 0).below b2, Rd.nil _, .inl rfl, ⟨hB.trans (b12.mono hB.size), by omega, h4, hl, rv, hin, hd, hp⟩, ⟨hlt, by omega, by omega⟩, hN.below b12⟩
theorem jgive_len (zs : List Int) (s : JS) : (jGive zs s).1.length ≤ zs.length := by
  unfold jGive
  by_cases hb : s.b = true
  · rw [if_pos hb]; exact Nat.zero_le _
  rw [if_neg hb]
  cases h : hGive zs s.t with
  | none => exact Nat.zero_le _
  | some x =>
    obtain ⟨p, t⟩ := x
    show p.length ≤ _
    unfold hGive at h
    cases hv : gVar zs s.t with
    | none => rw [hv] at h; cases h
    | some y =>
      obtain ⟨n, t1⟩ := y
      rw [hv] at h
      simp only at h
      unfold gBytes at h
      split at h
      · cases h
      · simp only [Option.some.injEq, Prod.mk.injEq] at h
        obtain ⟨rfl, _⟩ := h
        simp only [List.length_take, List.length_drop]
        omega
theorem hj_cases (ok : List Int → Bool) {zs : List Int} (hb : Byt zs) (ho : oneH zs) :
    ((jMsg zs (zs.getD 0 0) 4).2.b = true → hRead ok zs = none) ∧ ((jMsg zs (zs.getD 0 0) 4).2.t < zs.length → hRead ok zs = none) ∧ (rightB (ok (jMsg zs (zs.getD 0 0) 4).1.p) (jMsg zs (zs.getD 0 0) 4).1 = false → hRead ok zs = none) ∧
    ((jMsg zs (zs.getD 0 0) 4).2.b = false → (jMsg zs (zs.getD 0 0) 4).2.t = zs.length → rightB (ok (jMsg zs (zs.getD 0 0) 4).1.p) (jMsg zs (zs.getD 0 0) 4).1 = true → hRead ok zs = some (jMsg zs (zs.getD 0 0) 4).1) := by
  have hr := hread_mes (ok := ok) hb ho
  have hi := rightB_iff ok (jMsg zs (zs.getD 0 0) 4).1
  have hm : mesP ok zs = match hParse zs (zs.getD 0 0) 4 with | some (x, t) => if zs.length ≤ t && rightB (ok x.p) x then some x else none | none => none := rfl
  rcases jmsg_eq ok hb (k := zs.getD 0 0) ho.1 with ⟨h1, h2⟩ | ⟨h1, h2⟩
  · rw [h2] at hm
    refine ⟨fun _ => hr.trans hm, fun _ => hr.trans hm, fun _ => hr.trans hm, fun g1 g2 g3 => ?_⟩
    rcases h1 with h1 | h1
    · rw [g1] at h1; cases h1
    · exact absurd (hi.1 g3) h1
  · rw [h2] at hm
    simp only at hm
    refine ⟨fun g => (by rw [h1] at g; cases g), fun g => ?_, fun g => ?_, fun _ g2 g3 => ?_⟩
    · rw [hr, hm, decide_eq_false (show ¬ zs.length ≤ (jMsg zs (zs.getD 0 0) 4).2.t by omega)]; rfl
    · rw [hr, hm, g, Bool.and_false]; rfl
    · rw [hr, hm, g3, decide_eq_true (show zs.length ≤ (jMsg zs (zs.getD 0 0) 4).2.t by omega)]; rfl
/-- What the document's Read tells. -/
def HRR (ok : List Int → Bool) (zs : List Int) (w : World) (e : Ending) (w' : World) : Prop :=
  ∃ x pv b, e = .returned (.tuple #[mAgg x pv, .bool b]) ∧ Rd w' pv x.p ∧ Below w.heap.size w w' ∧ ((b = false ∧ hRead ok zs = none ∧ x = hNew 0) ∨ (b = true ∧ hRead ok zs = some x))
set_option maxRecDepth 20000 in
theorem rr_results (tmps : Array Value) (w : World) (G : Nat) (c0 c1 c2 c3 c4 c5 c6 c7 c8 c9 : Value) (x : Bool) (h2 : tmps[2]?.getD undef = .pointer (some ⟨G, 0, none⟩)) (h3 : tmps[3]?.getD undef = .bool x) (hL : w.heap[G]? = some (.cells #[c0, c1, c2, c3, c4, c5, c6, c7, c8, c9] 24 (0, 0))) :
    (results Tryd.f17 tmps).run Tryd.prog w = .ok (.tuple #[.agg #[c0, c1, c2, c3, c4, c5, c6, c7, c8, c9], .bool x]) w := by
  have hcc := fun i => cell_of_row w G i _ 24 (0, 0) hL
  have a0 := hcc 0
  have a1 := hcc 1
  have a2 := hcc 2
  have a3 := hcc 3
  have a4 := hcc 4
  have a5 := hcc 5
  have a6 := hcc 6
  have a7 := hcc 7
  have a8 := hcc 8
  have a9 := hcc 9
  clear hcc
  simp [results, Tryd.results17, h2, h3, asAddr, a0, a1, a2, a3, a4, a5, a6, a7, a8, a9, go_sem]
/-- A message written into the result's box. -/
theorem rr_end {ok : List Int → Bool} {zs : List Int} {w W : World} {x : Hm} {pv : Value} {z0 z1 z2 z3 z4 z5 z6 z7 z8 z9 : Value} (b : Bool) (tmps : Array Value) (hN : W.heap[w.heap.size]? = some (.cells #[z0, z1, z2, z3, z4, z5, z6, z7, z8, z9] 24 (0, 0))) (hd : Rd w pv x.p) (hB : Below w.heap.size w W)
    (hres : (b = false ∧ hRead ok zs = none ∧ x = hNew 0) ∨ (b = true ∧ hRead ok zs = some x)) (h2 : tmps[2]?.getD undef = .pointer (some ⟨w.heap.size, 0, none⟩)) (h3 : tmps[3]?.getD undef = .bool b) :
    bodyPost Tryd.prog Tryd.f17 (HRR ok zs w) .ret ⟨tmps, []⟩ ((((((((((W.setCell ⟨w.heap.size, 0, none⟩ (.int .i64 x.k)).setCell ⟨w.heap.size, 1, none⟩ (.int .i64 x.r)).setCell ⟨w.heap.size, 2, none⟩ (.int .i64 x.s)).setCell ⟨w.heap.size, 3, none⟩ (.int .i64 x.t)).setCell ⟨w.heap.size, 4, none⟩ (.int .i64 x.m)).setCell ⟨w.heap.size, 5, none⟩ (.bool x.f)).setCell ⟨w.heap.size, 6, none⟩ pv).setCell ⟨w.heap.size, 7, none⟩ (.string (bstr x.n))).setCell ⟨w.heap.size, 8, none⟩ (.int .i64 x.v)).setCell ⟨w.heap.size, 9, none⟩ (.int .i64 x.l)) := by
  obtain ⟨hG, hBt⟩ := chain10h (.int .i64 x.k) (.int .i64 x.r) (.int .i64 x.s) (.int .i64 x.t) (.int .i64 x.m) (.bool x.f) pv (.string (bstr x.n)) (.int .i64 x.v) (.int .i64 x.l) hN
  have hbf : Below w.heap.size w _ := ⟨hBt.os.trans hB.os, hBt.tape.trans hB.tape, hBt.output.trans hB.output, Nat.le_trans hB.size hBt.size, fun j hj => (hBt.block j (Nat.lt_of_lt_of_le hj hB.size) (by omega)).trans (hB.block j hj)⟩
  exact bodyPost_ret (rr_results _ _ w.heap.size _ _ _ _ _ _ _ _ _ _ b h2 h3 hG) rfl ⟨x, pv, b, rfl, hd.below hbf, hbf, hres⟩
#print axioms rr_end
#print axioms hj_cases
end Go.Proofs.YtefcjggmlhoebaaDoor
