/- The document's Messages, whatever the bytes. -/
import Derived.Test.YtefcjggmlhoebaaDoorSFirst
import Derived.Deep.QuietTactic
import Derived.BigQuiet
namespace Go.Proofs.YtefcjggmlhoebaaDoor
open Go Go.RowKit

def slen : Value → Nat
  | .slice _ n _ => n
  | _ => 0
set_option maxRecDepth 20000 in
set_option maxHeartbeats 4000000 in
theorem messages_in {w W : World} {v : Value} {zs : List Int} {l n B : Nat} (hn : 1 ≤ n) (hr : Rd w v zs) (hp : Plain v) (hl : zs.length ≤ 1000000)
    (J : List (Value × List Int) → World → Prop) (R : List (Value × List Int) → Int → World → Prop)
    (hY : ∀ qs q W1, J qs W1 → Rd w q.1 q.2 → (∃ a, q.1 = .slice a q.2.length q.2.length) → qs.length < zs.length → YieldAt Fence.wide (n - 1) Tryd.prog l #[q.1, .int .i64 0] W1 fun e W' => e = .returned (.bool true) ∧ J (qs ++ [q]) W')
    (hE : ∀ qs k W1, J qs W1 → k ≠ 0 → YieldAt Fence.wide (n - 1) Tryd.prog l #[.slice none 0 0, .int .i64 k] W1 fun e W' => e = .returned (.bool false) ∧ R qs k W')
    (hJ : ∀ qs W W', J qs W → Below W.heap.size W W' → J qs W') (hRd : ∀ qs W rv rest, J qs W → Rd w rv rest → Rd W rv rest)
    (hbx : W.cell? ⟨B, 0, none⟩ = some v) (h0 : J [] W) :
    CallsIn Fence.wide n Tryd.prog 71 #[.func (.yield l) #[] #[], .pointer (some ⟨B, 0, none⟩)] W fun e W' => (∃ v, e = .returned v) ∧
      ∃ qs, qs.map (·.2) = (msgP zs).1 ∧ ((msgP zs).2 = 0 ∧ J qs W' ∨ (msgP zs).2 ≠ 0 ∧ R qs (msgP zs).2 W') := by
  have HY := Lib.hid hY
  have HE := Lib.hid hE
  have HJ := Lib.hid hJ
  have HRD := Lib.hid hRd
  have H0 := Lib.hid h0
  have HR := Lib.hid hr
  have HP := Lib.hid hp
  have HL := Lib.hid hl
  obtain ⟨ao, len, cap, rfl⟩ := hr.shape3
  clear hY hE hJ hRd h0 hr hp hl
  have hF20 : Fence.wide.fn 72 := trivial
  refine callsIn_of_wp Tryd.func71 rfl trivial ?_ rfl
  simp only [Tryd.ntmps71, List.size_toArray, List.length_cons, List.length_nil, Nat.reduceAdd, Nat.reduceSub, Array.replicate_succ, Array.replicate_zero, List.push_toArray, List.append_toArray, List.nil_append, List.cons_append]
  gi_wp2
  gi_loopw [3] (fun rv wr => ∃ (qs : List (Value × List Int)) (rest : List Int), Hid (Rd w rv rest) ∧ Hid (Plain rv) ∧ Hid (qs.length + rest.length ≤ zs.length) ∧ Hid (J qs wr) ∧
      Hid (msgP zs = (qs.map (·.2) ++ (msgP rest).1, (msgP rest).2))) (fun rv _ => slen rv)
  case atStart => exact ⟨[], zs, HR, HP, Lib.hid (by simp), H0, Lib.hid (by simp)⟩
  case round =>
    obtain ⟨qs, rest, hR, hP, hN, hJs, hS⟩ := hrel
    by_cases hz : rest = []
    · subst hz
      obtain ⟨ao, cap, rfl⟩ := hR.out.shape
      gi_wp2
      go_end0
      exact ⟨⟨_, rfl⟩, qs, by rw [hS.out]; simp [msgP_nil], .inl ⟨by rw [hS.out]; rfl, hJs.out⟩⟩
    · have hpos : 0 < rest.length := List.length_pos_iff.2 hz
      obtain ⟨ao, cap, rfl⟩ := hR.out.shape
      have hd : decide (0 < rest.length) = true := decide_eq_true hpos
      have hlen : rest.length ≤ 1000000 := by have := hN.out; have := HL.out; omega
      have hrw := HRD.out _ _ _ _ hJs.out hR.out
      have hc := callsIn_wide (n := n - 1).2 (first_any hrw hP.out)
      have hsp := msgP_ok hz
      have hse := msgP_err hz
      have HSP := Lib.hid hsp
      have HSE := Lib.hid hse
      have Hpos := Lib.hid hpos
      have hfo := @first_ok rest
      have HFO := Lib.hid hfo
      clear hsp hse hpos hz hrw hlen hfo
      gi_wp2
      refine hc.mono ?_
      rintro e w1 ⟨hb, (⟨hne, rfl⟩ | ⟨he, rfl⟩)⟩
      · have hJ1 := HJ.out _ _ _ hJs.out hb
        obtain ⟨fn, tmps, asg, body, hy, hRn⟩ := HE.out qs (firstE rest) _ hJ1 hne
        have HSQ := Lib.hid (HSE.out hne)
        have HE0 := Lib.hid hne
        have hnn : (firstE rest != 0) = true := by simp [hne]
        generalize firstE rest = er at *
        clear hJ1 hne hb hc
        gi_wp2
        refine hRn.mono ?_
        rintro e W' ⟨rfl, hRk⟩
        have HRk := Lib.hid hRk
        clear hRk hRn
        gi_wp2
        refine bodyPost_ret (results_none rfl _ _ _) rfl ?_
        have hS2 := hS.out
        rw [HSQ.out] at hS2
        rw [hS2]
        exact ⟨⟨_, rfl⟩, qs, by simp, .inr ⟨HE0.out, HRk.out⟩⟩
      · have hJ1 := HJ.out _ _ _ hJs.out hb
        obtain ⟨f1, f2, f3⟩ := HFO.out he
        have hcap : 0 < cap := by obtain ⟨_, _, e, h1, _⟩ := hR.out; simp only [Value.slice.injEq] at e; omega
        have hfr := hR.out.front (headN rest + 4) f3 (by omega)
        have hlt : (rest.take (headN rest + 4)).length = headN rest + 4 := by simp; omega
        obtain ⟨fn, tmps, asg, body, hy, hRn⟩ := HY.out qs (.slice ao (headN rest + 4) (headN rest + 4), rest.take (headN rest + 4)) w1 hJ1 hfr ⟨ao, by simp only; rw [hlt]⟩ (by have := hN.out; have := Hpos.out; omega)
        obtain ⟨o3, hsl3, hr3, hp3⟩ := part_l hR.out hP.out (headN rest + 4) f3
        have HR3 := Lib.hid hr3
        have HP3 := Lib.hid hp3
        have HNX : Hid (msgP zs = ((qs ++ [((.slice ao (headN rest + 4) (headN rest + 4), rest.take (headN rest + 4)) : Value × List Int)]).map (·.2) ++ (msgP (rest.drop (headN rest + 4))).1, (msgP (rest.drop (headN rest + 4))).2)) := Lib.hid (by rw [hS.out, HSP.out he]; simp)
        have HSZ := Lib.hid (And.intro f3 (show 0 < headN rest + 4 by omega))
        clear hJ1 hb hc hfr hr3 hp3 f1 f2 f3 hlt hcap
        generalize headN rest + 4 = m at *
        gi_wp2
        refine hRn.mono ?_
        rintro e W' ⟨rfl, hJ4⟩
        have HJ4 := Lib.hid hJ4
        clear hRn hJ4
        gi_wp2
        go_roundw
        case rel => exact ⟨_, rest.drop m, HR3, HP3, Lib.hid (by have := hN.out; have := Hpos.out; have := HSZ.out; simp; omega), HJ4, HNX⟩
        case measure => have := Hpos.out; have := HSZ.out; simp only [slen]; omega
#print axioms messages_in
end Go.Proofs.YtefcjggmlhoebaaDoor
namespace Go.Proofs.YtefcjggmlhoebaaDoor
open Go Go.RowKit Go.Shelf
attribute [local go_sem] Oper.semAt_some

theorem info_bb : (Tryd.prog.info? 22).map (fun i => (i.zero, i.size, i.bytes)) = some (some (.slice none 0 0), 1, 24) := by kernel_rfl
/-- What Messages' loop holds between two rounds: B: its three boxes; C: the iterator's box, and behind it the loop's two blocks. -/
structure Sm (w1 : World) (B C : Nat) (v : Value) (X : Obj) (qs : List (Value × List Int)) (W : World) : Prop where
  lo : B + 2 < C
  sz : C = w1.heap.size
  b0 : w1.heap[B]? = some (.cells #[.slice none 0 0] 52 (0, 0))
  b1 : w1.heap[B + 1]? = some (.cells #[.bool false] 4 (0, 0))
  b2 : w1.heap[B + 2]? = some (.cells #[.slice none 0 0] 52 (0, 0))
  lb : ∃ lv, W.heap[B + 2]? = some (.cells #[lv] 52 (0, 0)) ∧ W.ownsRow (C + 3) 22 1 lv qs.length (qs.map (·.1))
  rb : ∃ u, W.heap[B]? = some (.cells #[u] 52 (0, 0))
  eb : ∃ u, W.heap[B + 1]? = some (.cells #[u] 4 (0, 0))
  bb : W.heap[C]? = some (.cells #[v] 22 (0, 0))
  df : W.heap[C + 1]? = some (.deferred (some []))
  lp : W.heap[C + 2]? = some X
  rd : ∀ q ∈ qs, Rd w1 q.1 q.2
  chg : Chg [B, B + 1, B + 2] w1 W
theorem Sm.keep {w1 W W' : World} {B C : Nat} {v : Value} {X : Obj} {qs : List (Value × List Int)} (h : Sm w1 B C v X qs W) (hb : Below W.heap.size W W') : Sm w1 B C v X qs W' := by
  obtain ⟨lv, h1, h2⟩ := h.lb
  obtain ⟨u, h3⟩ := h.rb
  obtain ⟨u', h4⟩ := h.eb
  exact ⟨h.lo, h.sz, h.b0, h.b1, h.b2, ⟨lv, row_keep hb h1, own_below h2 hb⟩, ⟨u, row_keep hb h3⟩, ⟨u', row_keep hb h4⟩, row_keep hb h.bb, row_keep hb h.df, row_keep hb h.lp, h.rd, h.chg.trans (Chg.of_below hb)⟩
theorem Sm.reads {w1 W : World} {B C : Nat} {v : Value} {X : Obj} {qs : List (Value × List Int)} (h : Sm w1 B C v X qs W) {rv : Value} {rest : List Int} (hr : Rd w1 rv rest) : Rd W rv rest :=
  hr.chg h.chg fun g hg => by
    simp at hg
    rcases hg with rfl | rfl | rfl
    · exact hr.off h.b0 (fun z e => by cases e)
    · exact hr.off h.b1 (fun z e => by cases e)
    · exact hr.off h.b2 (fun z e => by cases e)
/-- Behind a round: the row has one message more. -/
theorem Sm.step {w1 W0 Wc W2 Wf : World} {B C : Nat} {v lv v' : Value} {X : Obj} {qs : List (Value × List Int)} {q : Value × List Int} (h : Sm w1 B C v X qs W0) (hq : Rd w1 q.1 q.2) (hlv : W0.heap[B + 2]? = some (.cells #[lv] 52 (0, 0)))
    (h1c : Chg [C + 2] W0 Wc) (hg : Wc.grownBy W2 lv.ownBlock) (hown : W2.ownsRow (C + 3) 22 1 v' (qs.length + 1) (qs.map (·.1) ++ [q.1])) (hf : Chg [B + 2, C + 2] W2 Wf)
    (hl : Wf.heap[B + 2]? = some (.cells #[v'] 52 (0, 0))) (hx : Wf.heap[C + 2]? = some X) : Sm w1 B C v X (qs ++ [q]) Wf := by
  obtain ⟨lv', h1, h2⟩ := h.lb
  rw [hlv] at h1
  obtain rfl : lv = lv' := by simpa using h1
  have hlo := h.lo
  have hs2 : C + 2 < W0.heap.size := (Array.getElem?_eq_some_iff.1 h.lp).1
  have key : ∀ k, k < C + 2 → k ≠ B + 2 → Wf.heap[k]? = W0.heap[k]? := fun k hk hn => by
    have a1 := h1c.block k (by omega) (by simp; omega)
    have s1 := h1c.size
    have a2 := hg.block k (by omega) (fun e => by have := (h2.lt k e.symm).1; omega)
    have s2 := hg.size
    have a3 := hf.block k (by omega) (by simp; omega)
    rw [a3, a2, a1]
  obtain ⟨u, h3⟩ := h.rb
  obtain ⟨u', h4⟩ := h.eb
  have hsz : Wc.heap.size ≤ W2.heap.size := hg.size
  have hb2 : Below 0 Wc W2 := (Below.refl 0 Wc).grown hg (Nat.zero_le _) fun k _ => Nat.zero_le _
  refine ⟨h.lo, h.sz, h.b0, h.b1, h.b2, ⟨v', hl, ?_⟩, ⟨u, (key B (by omega) (by omega)).trans h3⟩, ⟨u', (key (B + 1) (by omega) (by omega)).trans h4⟩, (key C (by omega) (by omega)).trans h.bb, (key (C + 1) (by omega) (by omega)).trans h.df, hx, fun p hp => ?_, ?_⟩
  · have e : (qs ++ [q]).length = qs.length + 1 := by simp
    rw [e, List.map_append]
    refine own_same hown fun g hg' => hf.block g (hown.lt g hg').2 ?_
    have := (hown.lt g hg').1
    simp
    omega
  · rcases List.mem_append.1 hp with hp | hp
    · exact h.rd p hp
    · obtain rfl : p = q := by simpa using hp
      exact hq
  · have hs := h.sz
    have hz := h.chg.size
    have s1 := h1c.size
    exact ⟨hf.os.trans (hb2.os.trans (h1c.os.trans h.chg.os)), hf.tape.trans (hb2.tape.trans (h1c.tape.trans h.chg.tape)), hf.output.trans (hb2.output.trans (h1c.output.trans h.chg.output)), by have := hf.size; omega, fun k hk hn => by
      simp at hn
      rw [key k (by omega) (by omega)]
      exact h.chg.block k hk (by simp; omega)⟩
/-- Where the boxes of the results alone have changed. -/
theorem Sm.turn {w1 W Wf : World} {B C : Nat} {v lv : Value} {X X' : Obj} {qs : List (Value × List Int)} (h : Sm w1 B C v X qs W) (hlv : W.heap[B + 2]? = some (.cells #[lv] 52 (0, 0)))
    (hc : Chg [B, B + 1, C + 2] W Wf) (hr : ∃ u, Wf.heap[B]? = some (.cells #[u] 52 (0, 0))) (he : ∃ u, Wf.heap[B + 1]? = some (.cells #[u] 4 (0, 0))) (hx : Wf.heap[C + 2]? = some X') : Sm w1 B C v X' qs Wf := by
  obtain ⟨lv', h1, h2⟩ := h.lb
  rw [hlv] at h1
  obtain rfl : lv = lv' := by simpa using h1
  have hlo := h.lo
  have hs := h.sz
  have hz := h.chg.size
  have hs2 : C + 2 < W.heap.size := (Array.getElem?_eq_some_iff.1 h.lp).1
  refine ⟨h.lo, h.sz, h.b0, h.b1, h.b2, ⟨lv, (hc.block _ (by omega) (by simp; omega)).trans hlv, own_same h2 fun g hg => hc.block g (h2.lt g hg).2 (by have := (h2.lt g hg).1; simp; omega)⟩, hr, he, (hc.block _ (by omega) (by simp; omega)).trans h.bb, (hc.block _ (by omega) (by simp; omega)).trans h.df, hx, h.rd, ?_⟩
  exact ⟨hc.os.trans h.chg.os, hc.tape.trans h.chg.tape, hc.output.trans h.chg.output, Nat.le_trans hz hc.size, fun k hk hn => by
    simp at hn
    rw [hc.block k (by omega) (by simp; omega)]
    exact h.chg.block k hk (by simp; omega)⟩
theorem messages_any {w : World} {ao : Option Addr} {n cap : Nat} : Calls Tryd.prog 59 #[.slice ao n cap] w fun e w' => e = .returned (.func (.func 71) #[] #[.pointer (some ⟨w.heap.size, 0, none⟩)]) ∧ w' = w.alloc (.cells #[.slice ao n cap] 22) := by
  go_enter Tryd.func59, Tryd.ntmps59
  go_wp2_with fail
  go_ret
  exact ⟨rfl, rfl⟩
#print axioms Sm.step
#print axioms Sm.turn
end Go.Proofs.YtefcjggmlhoebaaDoor
namespace Go.Proofs.YtefcjggmlhoebaaDoor
open Go Go.RowKit Go.Shelf
attribute [local go_sem] Oper.semAt_some

theorem own_slice {w : World} {base : Nat} {e : TypeId} {size : Nat} {v : Value} {n : Nat} {xs : List Value} (h : w.ownsRow base e size v n xs) : ∃ a b c, v = .slice a b c := by
  rcases h.2 with ⟨rfl, _⟩ | ⟨g, cap, cur, rfl, _⟩
  · exact ⟨_, _, _, rfl⟩
  · exact ⟨_, _, _, rfl⟩
theorem msgs_results (tmps : Array Value) (w : World) (H : Nat) (lv : Value) (k : Bool) (h2 : tmps[2]?.getD undef = .pointer (some ⟨H, 0, none⟩)) (h3 : tmps[3]?.getD undef = .pointer (some ⟨H + 1, 0, none⟩))
    (hl : w.heap[H]? = some (.cells #[lv] 52 (0, 0))) (he : w.heap[H + 1]? = some (.cells #[.bool k] 4 (0, 0))) :
    (results Tryd.f38 tmps).run Tryd.prog w = .ok (.tuple #[lv, .bool k]) w := by
  have a0 := (cell_of_row w H 0 _ 52 (0, 0) hl).trans rfl
  have b0 := (cell_of_row w (H + 1) 0 _ 4 (0, 0) he).trans rfl
  simp [results, Tryd.results38, h2, h3, asAddr, a0, b0, go_sem]
/-- What Messages tells. -/
def MsgsPost (w : World) (zs : List Int) (e : Ending) (W' : World) : Prop := ∃ (lv : Value) (qs : List (Value × List Int)) (ok : Bool), e = .returned (.tuple #[lv, .bool ok]) ∧ W'.ownsRow w.heap.size 22 1 lv qs.length (qs.map (·.1)) ∧ (∀ q ∈ qs, Rd W' q.1 q.2) ∧
  (ok = true ∧ (msgP zs).2 = 0 ∧ qs.map (·.2) = (msgP zs).1 ∨ ok = false ∧ (msgP zs).2 ≠ 0 ∧ qs = []) ∧ Below w.heap.size w W'
theorem msgs_out {w w1 W : World} {C : Nat} {v : Value} {zs : List Int} {X : Obj} {qs : List (Value × List Int)} {lv : Value} {k : Bool} (h : Sm w1 w.heap.size C v X qs W) (hb : Below w.heap.size w w1) (tmps : Array Value)
    (h2 : tmps[2]?.getD undef = .pointer (some ⟨w.heap.size, 0, none⟩)) (h3 : tmps[3]?.getD undef = .pointer (some ⟨w.heap.size + 1, 0, none⟩))
    (hl : W.heap[w.heap.size]? = some (.cells #[lv] 52 (0, 0))) (he : W.heap[w.heap.size + 1]? = some (.cells #[.bool k] 4 (0, 0)))
    (hk : k = true ∧ (msgP zs).2 = 0 ∧ qs.map (·.2) = (msgP zs).1 ∧ W.heap[w.heap.size + 2]? = some (.cells #[lv] 52 (0, 0)) ∨ k = false ∧ (msgP zs).2 ≠ 0 ∧ lv = .slice none 0 0) :
    LeavesInM Fence.wide 1 Tryd.prog Tryd.f38 tmps (MsgsPost w zs) [{ target := .collected (C + 1), args := #[] }] .returning W := by
  refine ⟨by simp, .inl ⟨_, _, rfl, run_takeDeferred h.df, ?_⟩⟩
  have hc : Chg [C + 1] W (W.putObj (C + 1) (.deferred none)) := Chg.put W _ (by simp)
  have hlo := h.lo
  have hs2 : C + 2 < W.heap.size := (Array.getElem?_eq_some_iff.1 h.lp).1
  have hbw : Below w.heap.size w W := h.chg.below hb (by simp)
  have hbf : Below w.heap.size w (W.putObj (C + 1) (.deferred none)) := hc.below hbw (by simp; omega)
  refine ⟨_, msgs_results tmps _ w.heap.size lv k h2 h3 ((hc.block _ (by omega) (by simp; omega)).trans hl) ((hc.block _ (by omega) (by simp; omega)).trans he), ?_⟩
  rcases hk with ⟨rfl, hk0, hq, hb2⟩ | ⟨rfl, hk0, rfl⟩
  · obtain ⟨lv', l1, l2⟩ := h.lb
    rw [hb2] at l1
    obtain rfl : lv = lv' := by simpa using l1
    refine ⟨lv, qs, true, rfl, own_mono (own_same l2 fun g hg => hc.block g (l2.lt g hg).2 (by have := (l2.lt g hg).1; simp; omega)) (by omega), fun q hq' => ?_, .inl ⟨rfl, hk0, hq⟩, hbf⟩
    refine (h.reads (h.rd q hq')).chg hc fun g hg => ?_
    obtain rfl : g = C + 1 := by simpa using hg
    exact (h.rd q hq').fa (by have := h.sz; omega)
  · exact ⟨.slice none 0 0, [], false, rfl, World.ownsRow_nil _ _ _ _, (fun q hq => by cases hq), .inr ⟨rfl, hk0, rfl⟩, hbf⟩

theorem msgs_loop {w1 W0 : World} {B C : Nat} {v : Value} {zs : List Int} {fn : FuncId} {A : Act} {ps : Array Tmp} {asg body : Code} (hr : Rd w1 v zs) (hp : Plain v) (hl : zs.length ≤ 1000000)
    (h0 : Sm w1 B C v (.loop (recd fn A ps asg body (C + 1) .ready none)) [] W0)
    (hY : ∀ qs q W1, Sm w1 B C v (.loop (recd fn A ps asg body (C + 1) .ready none)) qs W1 → Rd w1 q.1 q.2 → (∃ a, q.1 = .slice a q.2.length q.2.length) → qs.length < 1000000 →
      YieldAt Fence.wide 0 Tryd.prog (C + 2) #[q.1, .int .i64 0] W1 fun e W' => e = .returned (.bool true) ∧ Sm w1 B C v (.loop (recd fn A ps asg body (C + 1) .ready none)) (qs ++ [q]) W')
    (hE : ∀ qs k W1, Sm w1 B C v (.loop (recd fn A ps asg body (C + 1) .ready none)) qs W1 → k ≠ 0 →
      YieldAt Fence.wide 0 Tryd.prog (C + 2) #[.slice none 0 0, .int .i64 k] W1 fun e W' => e = .returned (.bool false) ∧ Sm w1 B C v (.loop (recd fn A ps asg body (C + 1) .done (some .ret))) qs W' ∧
        W'.heap[B]? = some (.cells #[.slice none 0 0] 52 (0, 0)) ∧ W'.heap[B + 1]? = some (.cells #[.bool false] 4 (0, 0))) :
    Calls Tryd.prog 71 (#[.func (.yield (C + 2)) #[] #[]] ++ #[.pointer (some ⟨C, 0, none⟩)]) W0 fun e W =>
      (∃ v, e = .returned v) ∧ ∃ qs, qs.map (·.2) = (msgP zs).1 ∧
        ((msgP zs).2 = 0 ∧ Sm w1 B C v (.loop (recd fn A ps asg body (C + 1) .ready none)) qs W ∨
         (msgP zs).2 ≠ 0 ∧ Sm w1 B C v (.loop (recd fn A ps asg body (C + 1) .done (some .ret))) qs W ∧ W.heap[B]? = some (.cells #[.slice none 0 0] 52 (0, 0)) ∧ W.heap[B + 1]? = some (.cells #[.bool false] 4 (0, 0))) := by
  exact callsIn_wide.1 (messages_in (n := 1) (Nat.le_refl 1) hr hp hl (fun qs W => Sm w1 B C v (.loop (recd fn A ps asg body (C + 1) .ready none)) qs W)
    (fun qs k W => Sm w1 B C v (.loop (recd fn A ps asg body (C + 1) .done (some .ret))) qs W ∧ W.heap[B]? = some (.cells #[.slice none 0 0] 52 (0, 0)) ∧ W.heap[B + 1]? = some (.cells #[.bool false] 4 (0, 0)))
    (fun qs q W1 h hq ha hlen => hY qs q W1 h hq ha (by omega)) hE (fun qs W W' h hb => h.keep hb) (fun qs W rv rest h hrd => h.reads hrd)
    ((cell_of_row W0 C 0 _ 22 (0, 0) h0.bb).trans rfl) h0)
#print axioms msgs_out
#print axioms msgs_loop
end Go.Proofs.YtefcjggmlhoebaaDoor
namespace Go.Proofs.YtefcjggmlhoebaaDoor
open Go Go.RowKit Go.Shelf
attribute [local go_sem] Oper.semAt_some

set_option maxRecDepth 20000 in
set_option maxHeartbeats 4000000 in
theorem msgs_any {w : World} {v : Value} {zs : List Int} (hr : Rd w v zs) (hp : Plain v) (hl : zs.length ≤ 1000000) :
    Calls Tryd.prog 38 #[v] w (MsgsPost w zs) := by
  have e0 : (((w.alloc (.cells #[.slice none 0 0] 52)).alloc (.cells #[.bool false] 4)).alloc (.cells #[.slice none 0 0] 52)).heap[w.heap.size]? = some (.cells #[.slice none 0 0] 52 (0, 0)) :=
    row_keep (((below_alloc _ _).trans ((below_alloc _ _).mono (by simp)))) (heap_alloc_new w _)
  have e1 : (((w.alloc (.cells #[.slice none 0 0] 52)).alloc (.cells #[.bool false] 4)).alloc (.cells #[.slice none 0 0] 52)).heap[w.heap.size + 1]? = some (.cells #[.bool false] 4 (0, 0)) :=
    row_keep (below_alloc _ _) (heap_alloc2_new w _ _)
  have e2 : (((w.alloc (.cells #[.slice none 0 0] 52)).alloc (.cells #[.bool false] 4)).alloc (.cells #[.slice none 0 0] 52)).heap[w.heap.size + 2]? = some (.cells #[.slice none 0 0] 52 (0, 0)) := by
    have := heap_alloc2_new (w.alloc (.cells #[.slice none 0 0] 52)) (.cells #[.bool false] 4) (.cells #[.slice none 0 0] 52)
    simpa using this
  have eb : Below w.heap.size w (((w.alloc (.cells #[.slice none 0 0] 52)).alloc (.cells #[.bool false] 4)).alloc (.cells #[.slice none 0 0] 52)) :=
    ((below_alloc _ _).trans ((below_alloc _ _).mono (by simp))).trans ((below_alloc _ _).mono (by simp; omega))
  have es : (((w.alloc (.cells #[.slice none 0 0] 52)).alloc (.cells #[.bool false] 4)).alloc (.cells #[.slice none 0 0] 52)).heap.size = w.heap.size + 3 := by simp
  have hcl := callsIn_wide (n := 0).2 (clone_any (hr.below eb) hp hl)
  obtain ⟨ao, n, cap, rfl⟩ := hr.shape3
  refine callsIn_wide.1 (callsIn_of_wp_marks (n := 1) (F := Fence.wide) Tryd.func38 rfl trivial ?_ rfl)
  have hF25 : Fence.wide.fn 59 := trivial
  have hF26 : Fence.wide.fn 48 := trivial
  clear hr hp
  simp only [Tryd.ntmps38, List.size_toArray, List.length_cons, List.length_nil, Nat.reduceAdd, Nat.reduceSub, Array.replicate_succ, Array.replicate_zero, List.push_toArray, List.append_toArray, List.nil_append, List.cons_append]
  gi_wp2
  refine hcl.mono ?_
  rintro e w1 ⟨v1, rfl, ⟨hr1, hp1⟩, hb1⟩
  replace e0 := row_keep hb1 e0
  replace e1 := row_keep hb1 e1
  replace e2 := row_keep hb1 e2
  have hsz : w.heap.size + 3 ≤ w1.heap.size := by have := hb1.size; omega
  replace eb := eb.trans (hb1.mono eb.size)
  replace hr1 := hr1.rd
  clear hb1 hcl es
  obtain ⟨a1, n1, c1, rfl⟩ := hr1.shape3
  gi_wp2
  refine (callsIn_wide.2 messages_any).mono ?_
  rintro e w' ⟨rfl, rfl⟩
  gi_wp2
  refine wpIn_wide.2 (range_open rfl (enters_of Tryd.func71 (by kernel_rfl) rfl) fun fn => ?_)
  have hs1 : (w1.alloc (.cells #[.slice a1 n1 c1] 22)).heap.size = w1.heap.size + 1 := by simp
  rw [hs1]
  have hst : ∀ (X : Obj), Sm w1 w.heap.size w1.heap.size (.slice a1 n1 c1) X [] (((w1.alloc (.cells #[.slice a1 n1 c1] 22)).alloc (.deferred (some []))).alloc X) := fun X => by
    have b1 := below_alloc w1 (.cells #[.slice a1 n1 c1] 22)
    have b2 := below_alloc (w1.alloc (.cells #[.slice a1 n1 c1] 22)) (.deferred (some []))
    have b3 := below_alloc ((w1.alloc (.cells #[.slice a1 n1 c1] 22)).alloc (.deferred (some []))) X
    have b12 := b1.trans (b2.mono b1.size)
    have ball := b12.trans (b3.mono b12.size)
    refine ⟨by omega, rfl, e0, e1, e2, ⟨.slice none 0 0, row_keep ball e2, World.ownsRow_nil _ _ _ _⟩, ⟨_, row_keep ball e0⟩, ⟨_, row_keep ball e1⟩, ?_, ?_, ?_, (fun p h => by cases h), Chg.of_below ball⟩
    · exact row_keep b3 (row_keep b2 (heap_alloc_new w1 _))
    · have := row_keep b3 (heap_alloc_new (w1.alloc (.cells #[.slice a1 n1 c1] 22)) (.deferred (some [])))
      rwa [hs1] at this
    · have := heap_alloc2_new (w1.alloc (.cells #[.slice a1 n1 c1] 22)) (.deferred (some [])) X
      rwa [hs1] at this
  refine (msgs_loop hr1 hp1 hl (hst _) ?hY ?hE).mono ?post
  case hY =>
    intro qs q Wb hS hq ha hlen
    obtain ⟨qv, ql⟩ := q
    obtain ⟨qa, ha⟩ := ha
    simp only at ha
    subst ha
    obtain ⟨lv, l1, l2⟩ := hS.lb
    have HS := Lib.hid hS
    have HLV := Lib.hid (And.intro l1 l2)
    have HQ := Lib.hid hq
    have hlo := hS.lo
    refine yield_open hS.lp rfl ?_
    clear hS hq l1 l2 hst e0 e1 e2 eb hr1 hp1
    gi_wp2
    refine ⟨HS.out.lp, ?_⟩
    have hs4 : w1.heap.size + 2 < Wb.heap.size := (Array.getElem?_eq_some_iff.1 HS.out.lp).1
    refine wpIn_world (fun Wd => Chg [w1.heap.size + 2] Wb Wd ∧ Wd.heap[w1.heap.size + 2]? = some (.loop (recd fn _ _ _ _ _ .busy none))) ⟨Chg.put _ _ (by simp), World.putObj_heap_same (by omega)⟩ ?_
    rintro Wd ⟨hch, hlb⟩
    have hsd : w1.heap.size + 2 < Wd.heap.size := Nat.lt_of_lt_of_le hs4 hch.size
    have hrow : Wd.heap[w.heap.size + 2]? = some (.cells #[lv] 52 (0, 0)) := (hch.block _ (by omega) (by simp; omega)).trans HLV.out.1
    have hown : Wd.ownsRow (w1.heap.size + 3) 22 1 lv qs.length (qs.map (·.1)) := own_same HLV.out.2 fun g hg => by
      have hlt := HLV.out.2.lt g hg
      exact hch.block g hlt.2 (by simp; omega)
    have c0 := (cell_of_row Wd (w.heap.size + 2) 0 _ 52 (0, 0) hrow).trans rfl
    have f0 := unfrozen hrow 0
    have HCH := Lib.hid hch
    have HLB := Lib.hid hlb
    have HROW := Lib.hid hrow
    have HSD := Lib.hid hsd
    have HOWN := Lib.hid hown
    have HLEN := Lib.hid hlen
    have HLO := Lib.hid hlo
    obtain ⟨ip, hip, hz0, hz1, hz2⟩ := info_parts info_bb
    have hcn := fun i => cell_of_row _ Wd.heap.size i _ 22 (0, 0) (heap_alloc_new Wd (.cells #[.slice qa ql.length ql.length] 22))
    have HCN := Lib.hid hcn
    clear hch hlb hrow hs4 hsd hown hlen hcn hlo
    gi_wp2_with (
      gi_at_builtin
      refine wpListIn_append_own_at _ rfl (.tmp 14) (.tmp 16) 52 rfl (w1.heap.size + 3) 22 ip (.slice none 0 0) 1 24 Tryd.underlying52 hip hz0 hz1 hz2 rfl (by decide) lv qs.length (qs.map (·.1)) rfl
        (own_below HOWN.out (below_alloc Wd _)) ⟨Wd.heap.size, 0, none⟩ 1 1 [.slice qa ql.length ql.length] rfl rfl
        (cells_at HCN.out) (by intro u hu; simp at hu; subst hu; rfl) (by have := HLEN.out; unfold maxLen; omega) (by have := HLEN.out; omega) (by have := HSD.out; simp; omega) ?_
      intro v' w2 hown' hgrow _ hplace
      obtain ⟨g', cap', rfl⟩ := ownsRow_succ hown'
      have hr2 := (hgrow.block (w.heap.size + 2) (by have := HSD.out; have := HLO.out; simp; omega) (fun e => by have := (HOWN.out.lt _ e.symm).1; have := HLO.out; omega)).trans (row_keep (below_alloc Wd _) HROW.out)
      have hl2 := (hgrow.block (w1.heap.size + 2) (by have := HSD.out; simp; omega) (fun e => by have := (HOWN.out.lt _ e.symm).1; omega)).trans (row_keep (below_alloc Wd _) HLB.out)
      have c2 := (cell_of_row w2 (w.heap.size + 2) 0 _ 52 (0, 0) hr2).trans rfl
      have f2 := unfrozen hr2 0
      have HST := Lib.hid (And.intro hown' (And.intro hgrow (And.intro hplace (And.intro hr2 hl2))))
      clear hown' hgrow hplace hr2 hl2)
    obtain ⟨hown', hgrow, hplace, hr2, hl2⟩ := HST.out
    have hch := HCH.out
    have hlo := HLO.out
    have e0 := heap_setCell_same w2 (w.heap.size + 2) 0 _ 52 (.slice (some ⟨g', 0, none⟩) (qs.length + 1) cap') hr2
    simp only [List.setIfInBounds_toArray, List.set_cons_zero] at e0
    have e4 := (Below.heap_setCell w2 ⟨w.heap.size + 2, 0, none⟩ (.slice (some ⟨g', 0, none⟩) (qs.length + 1) cap') (w1.heap.size + 2) (by simp; omega)).trans hl2
    have hs2 : w1.heap.size + 2 < (w2.setCell ⟨w.heap.size + 2, 0, none⟩ (.slice (some ⟨g', 0, none⟩) (qs.length + 1) cap')).heap.size := (Array.getElem?_eq_some_iff.1 e4).1
    exact ⟨e4, rfl, HS.out.step HQ.out HLV.out.1 (hch.trans (Chg.alloc Wd _)) hgrow hown' ((Chg.set w2 0 _ (by simp)).trans (Chg.put _ _ (by simp))) ((World.putObj_heap_other (by omega)).trans e0) (World.putObj_heap_same hs2)⟩
  case hE =>
    intro qs k Wb hS hk
    obtain ⟨lv, l1, l2⟩ := hS.lb
    obtain ⟨u0, l3⟩ := hS.rb
    obtain ⟨u1, l4⟩ := hS.eb
    have HS := Lib.hid hS
    have HK := Lib.hid hk
    have HL := Lib.hid (And.intro l1 (And.intro l3 l4))
    have hlo := hS.lo
    refine yield_open hS.lp rfl ?_
    clear hS l2 l3 l4 l1 hst e0 e1 e2 eb hr1 hp1 hk
    gi_wp2
    refine ⟨HS.out.lp, ?_⟩
    have hs4 : w1.heap.size + 2 < Wb.heap.size := (Array.getElem?_eq_some_iff.1 HS.out.lp).1
    refine wpIn_world (fun Wd => Chg [w1.heap.size + 2] Wb Wd ∧ Wd.heap[w1.heap.size + 2]? = some (.loop (recd fn _ _ _ _ _ .busy none))) ⟨Chg.put _ _ (by simp), World.putObj_heap_same (by omega)⟩ ?_
    rintro Wd ⟨hch, hlb⟩
    have hsd : w1.heap.size + 2 < Wd.heap.size := Nat.lt_of_lt_of_le hs4 hch.size
    have hrow : Wd.heap[w.heap.size]? = some (.cells #[u0] 52 (0, 0)) := (hch.block _ (by omega) (by simp; omega)).trans HL.out.2.1
    have hrow1 : Wd.heap[w.heap.size + 1]? = some (.cells #[u1] 4 (0, 0)) := (hch.block _ (by omega) (by simp; omega)).trans HL.out.2.2
    have c0 := (cell_of_row Wd w.heap.size 0 _ 52 (0, 0) hrow).trans rfl
    have f0 := unfrozen hrow 0
    have c1 := (cell_of_row Wd (w.heap.size + 1) 0 _ 4 (0, 0) hrow1).trans rfl
    have f1 := unfrozen hrow1 0
    have hnn : (k != 0) = true := by simp [HK.out]
    have HCH := Lib.hid hch
    have HLB := Lib.hid hlb
    have HROW := Lib.hid hrow
    have HROW1 := Lib.hid hrow1
    have HSD := Lib.hid hsd
    have HLO := Lib.hid hlo
    clear hch hlb hrow hrow1 hs4 hsd hlo
    gi_wp2
    have hlo := HLO.out
    have e0 := heap_setCell_same Wd w.heap.size 0 _ 52 (.slice none 0 0) HROW.out
    simp only [List.setIfInBounds_toArray, List.set_cons_zero] at e0
    have e1 := heap_setCell_same (Wd.setCell ⟨w.heap.size, 0, none⟩ (.slice none 0 0)) (w.heap.size + 1) 0 _ 4 (.bool false) ((Below.heap_setCell Wd ⟨w.heap.size, 0, none⟩ (.slice none 0 0) (w.heap.size + 1) (by simp)).trans HROW1.out)
    simp only [List.setIfInBounds_toArray, List.set_cons_zero] at e1
    have e2 := (Below.heap_setCell (Wd.setCell ⟨w.heap.size, 0, none⟩ (.slice none 0 0)) ⟨w.heap.size + 1, 0, none⟩ (.bool false) w.heap.size (by simp)).trans e0
    have e4 := (Below.heap_setCell (Wd.setCell ⟨w.heap.size, 0, none⟩ (.slice none 0 0)) ⟨w.heap.size + 1, 0, none⟩ (.bool false) (w1.heap.size + 2) (by simp; omega)).trans ((Below.heap_setCell Wd ⟨w.heap.size, 0, none⟩ (.slice none 0 0) (w1.heap.size + 2) (by simp; omega)).trans HLB.out)
    have hs2 := (Array.getElem?_eq_some_iff.1 e4).1
    have hch := HCH.out
    exact ⟨e4, rfl, HS.out.turn HL.out.1 (((Chg.trans ⟨hch.os, hch.tape, hch.output, hch.size, fun j hj hn => hch.block j hj (fun h => hn (by simp at h; simp [h]))⟩ (Chg.set Wd 0 _ (by simp))).trans (Chg.set _ 0 _ (by simp))).trans (Chg.put _ _ (by simp)))
      ⟨_, (World.putObj_heap_other (by omega)).trans e2⟩ ⟨_, (World.putObj_heap_other (by omega)).trans e1⟩ (World.putObj_heap_same hs2), (World.putObj_heap_other (by omega)).trans e2, (World.putObj_heap_other (by omega)).trans e1⟩
  case post =>
    rintro e W ⟨he, qs, hq, (⟨h0, hS⟩ | ⟨h0, hS, r0, r1⟩)⟩
    · refine ⟨he, .inl ⟨hS.lp, fun o => ?_⟩⟩
      obtain ⟨lv, l1, l2⟩ := hS.lb
      obtain ⟨u0, l3⟩ := hS.rb
      obtain ⟨u1, l4⟩ := hS.eb
      obtain ⟨la, lb, lc, rfl⟩ := own_slice l2
      have hlo := hS.lo
      have hs4 : w1.heap.size + 2 < W.heap.size := (Array.getElem?_eq_some_iff.1 hS.lp).1
      have l3' : (W.putObj (w1.heap.size + 2) o).heap[w.heap.size]? = some (.cells #[u0] 52 (0, 0)) := (World.putObj_heap_other (by omega)).trans l3
      have l4' : (W.putObj (w1.heap.size + 2) o).heap[w.heap.size + 1]? = some (.cells #[u1] 4 (0, 0)) := (World.putObj_heap_other (by omega)).trans l4
      have l1' : (W.putObj (w1.heap.size + 2) o).heap[w.heap.size + 2]? = some (.cells #[.slice la lb lc] 52 (0, 0)) := (World.putObj_heap_other (by omega)).trans l1
      have S1 : Sm w1 w.heap.size w1.heap.size (.slice a1 n1 c1) o qs (W.putObj (w1.heap.size + 2) o) := hS.turn l1 (Chg.put W o (by simp)) ⟨_, l3'⟩ ⟨_, l4'⟩ (World.putObj_heap_same hs4)
      have HS := Lib.hid S1
      have HQ := Lib.hid (And.intro hq h0)
      have HLO := Lib.hid hlo
      have EB := Lib.hid eb
      show Exit.inBlock 0 _ Exit.normal _ (W.putObj (w1.heap.size + 2) o)
      generalize W.putObj (w1.heap.size + 2) o = W1 at *
      have c0 := (cell_of_row W1 w.heap.size 0 _ 52 (0, 0) l3').trans rfl
      have f0 := unfrozen l3' 0
      have c1 := (cell_of_row W1 (w.heap.size + 1) 0 _ 4 (0, 0) l4').trans rfl
      have f1 := unfrozen l4' 0
      have c2 := (cell_of_row W1 (w.heap.size + 2) 0 _ 52 (0, 0) l1').trans rfl
      have L := Lib.hid (And.intro l1' (And.intro l3' l4'))
      clear S1 l1' l3' l4' hq h0 hS l1 l2 l3 l4 hst e0 e1 e2 eb hr1 hp1 hlo hs4
      dsimp only [marked]
      gi_wp2
      have e0 := heap_setCell_same W1 w.heap.size 0 _ 52 (.slice la lb lc) L.out.2.1
      simp only [List.setIfInBounds_toArray, List.set_cons_zero] at e0
      have e1 := heap_setCell_same (W1.setCell ⟨w.heap.size, 0, none⟩ (.slice la lb lc)) (w.heap.size + 1) 0 _ 4 (.bool true) ((Below.heap_setCell W1 ⟨w.heap.size, 0, none⟩ (.slice la lb lc) (w.heap.size + 1) (by simp)).trans L.out.2.2)
      simp only [List.setIfInBounds_toArray, List.set_cons_zero] at e1
      have e2 := (Below.heap_setCell (W1.setCell ⟨w.heap.size, 0, none⟩ (.slice la lb lc)) ⟨w.heap.size + 1, 0, none⟩ (.bool true) w.heap.size (by simp)).trans e0
      have e3 := (Below.heap_setCell (W1.setCell ⟨w.heap.size, 0, none⟩ (.slice la lb lc)) ⟨w.heap.size + 1, 0, none⟩ (.bool true) (w.heap.size + 2) (by simp)).trans ((Below.heap_setCell W1 ⟨w.heap.size, 0, none⟩ (.slice la lb lc) (w.heap.size + 2) (by simp)).trans L.out.1)
      have hlo := HLO.out
      have e4 := (Below.heap_setCell (W1.setCell ⟨w.heap.size, 0, none⟩ (.slice la lb lc)) ⟨w.heap.size + 1, 0, none⟩ (.bool true) (w1.heap.size + 2) (by simp; omega)).trans ((Below.heap_setCell W1 ⟨w.heap.size, 0, none⟩ (.slice la lb lc) (w1.heap.size + 2) (by simp; omega)).trans HS.out.lp)
      exact msgs_out (HS.out.turn L.out.1 ((Chg.set W1 0 _ (by simp)).trans (Chg.set _ 0 _ (by simp))) ⟨_, e2⟩ ⟨_, e1⟩ e4) EB.out _ rfl rfl e2 e1 (.inl ⟨rfl, HQ.out.2, HQ.out.1, e3⟩)
    · refine ⟨he, .inr ⟨_, hS.lp, fun o => ?_⟩⟩
      obtain ⟨lv, l1, l2⟩ := hS.lb
      have hlo := hS.lo
      have hs4 : w1.heap.size + 2 < W.heap.size := (Array.getElem?_eq_some_iff.1 hS.lp).1
      have r0' : (W.putObj (w1.heap.size + 2) o).heap[w.heap.size]? = some (.cells #[.slice none 0 0] 52 (0, 0)) := (World.putObj_heap_other (by omega)).trans r0
      have r1' : (W.putObj (w1.heap.size + 2) o).heap[w.heap.size + 1]? = some (.cells #[.bool false] 4 (0, 0)) := (World.putObj_heap_other (by omega)).trans r1
      have S1 : Sm w1 w.heap.size w1.heap.size (.slice a1 n1 c1) o qs (W.putObj (w1.heap.size + 2) o) := hS.turn l1 (Chg.put W o (by simp)) ⟨_, r0'⟩ ⟨_, r1'⟩ (World.putObj_heap_same hs4)
      refine (wpIn_wide (n := 1)).1 ?_
      gi_wp2
      exact msgs_out S1 eb _ rfl rfl r0' r1' (.inr ⟨rfl, h0, rfl⟩)
#print axioms msgs_any
end Go.Proofs.YtefcjggmlhoebaaDoor
namespace Go.Proofs.YtefcjggmlhoebaaDoor
open Go Go.RowKit

set_option maxRecDepth 20000 in
set_option maxHeartbeats 4000000 in
theorem rmsgs_any {w : World} {v : Value} {zs : List Int} (hr : Rd w v zs) (hp : Plain v) (hl : zs.length ≤ 1000000) :
    Calls Tryd.prog 42 #[v] w (MsgsPost w zs) := by
  have HR := Lib.hid hr
  have HP := Lib.hid hp
  have HL := Lib.hid hl
  obtain ⟨ao, cap, rfl⟩ := hr.shape
  clear hr hp hl
  go_enter Tryd.func42, Tryd.ntmps42
  go_wp2_with fail
  go_loopw [0, 4] (fun rv lv wr => ∃ (qs : List (Value × List Int)) (rest : List Int), Hid (Rd w rv rest) ∧ Hid (Plain rv) ∧ Hid (qs.length + rest.length ≤ zs.length) ∧ Hid (wr.ownsRow w.heap.size 22 1 lv qs.length (qs.map (·.1))) ∧ Hid (∀ q ∈ qs, Rd w q.1 q.2) ∧ Hid (Below w.heap.size w wr) ∧
      Hid (msgP zs = (qs.map (·.2) ++ (msgP rest).1, (msgP rest).2))) (fun rv _ _ => slen rv)
  case atStart => exact ⟨[], zs, HR, HP, Lib.hid (by simp), Lib.hid (World.ownsRow_nil _ _ _ _), Lib.hid (fun q hq => by cases hq), Lib.hid (Below.refl _ _), Lib.hid (by simp)⟩
  case round =>
    obtain ⟨qs, rest, hR, hP, hN, hO, hQ, hB, hS⟩ := hrel
    by_cases hz : rest = []
    · subst hz
      obtain ⟨ao, cap, rfl⟩ := hR.out.shape
      go_wp2_with fail
      go_ret2
      refine ⟨_, qs, true, rfl, hO.out, fun q hq => (hQ.out q hq).below hB.out, .inl ⟨rfl, ?_, ?_⟩, hB.out⟩
      · rw [hS.out]; rfl
      · rw [hS.out]; simp [msgP_nil]
    · have hpos : 0 < rest.length := List.length_pos_iff.2 hz
      have hsp := msgP_ok hz
      have hse := msgP_err hz
      have hfo := @first_ok rest
      have hlen : rest.length ≤ 1000000 := by have := hN.out; have := HL.out; omega
      have hd : decide (0 < rest.length) = true := decide_eq_true hpos
      obtain ⟨ao, cap, hsh⟩ := hR.out.shape
      subst hsh
      have hno : msgP rest = ([], firstE rest) → firstE rest ≠ 0 → ∃ qs' : List (Value × List Int), (false = true ∧ (msgP zs).2 = 0 ∧ qs'.map (·.2) = (msgP zs).1 ∨ false = false ∧ (msgP zs).2 ≠ 0 ∧ qs' = []) := fun h1 h2 => ⟨[], .inr ⟨rfl, by rw [hS.out, h1]; exact h2, rfl⟩⟩
      have HNO := Lib.hid hno
      have HSP := Lib.hid hsp
      have HSE := Lib.hid hse
      have HFO := Lib.hid hfo
      have Hpos := Lib.hid hpos
      clear hsp hse hfo hno hpos hz
      by_cases h4 : rest.length < 4
      · have he : firstE rest ≠ 0 := by simp [firstE, h4]
        have hd4 : decide ((rest.length : Int) < 4) = true := decide_eq_true (by omega)
        have HE := Lib.hid he
        clear he
        go_wp2_with fail
        go_ret2
        obtain ⟨qs', hk⟩ := HNO.out (HSE.out HE.out) HE.out
        rcases hk with ⟨h, _⟩ | ⟨_, hk, rfl⟩
        · cases h
        · exact ⟨_, [], false, rfl, World.ownsRow_nil _ _ _ _, (fun q hq => by cases hq), .inr ⟨rfl, hk, rfl⟩, hB.out⟩
      · have hd4 : decide ((rest.length : Int) < 4) = false := decide_eq_false (by omega)
        have hrw := hR.out.below hB.out
        rcases hrw.cases with ⟨h0, _⟩ | ⟨b, off, cap', e, hpos, hlc, hcm, hbl, hcell⟩
        · rw [h0] at h4; simp at h4
        simp only [Value.slice.injEq] at e
        obtain ⟨rfl, _, rfl⟩ := e
        have c1 := hcell 1 (by omega)
        have c2 := hcell 2 (by omega)
        have c3 := hcell 3 (by omega)
        have b1 := hrw.byt.get 1
        have b2 := hrw.byt.get 2
        have b3 := hrw.byt.get 3
        have hH := headN_eq hrw.byt
        generalize rest.getD 1 0 = z1 at *
        generalize rest.getD 2 0 = z2 at *
        generalize rest.getD 3 0 = z3 at *
        have l1 : (1 : Int) < (rest.length : Int) := by omega
        have l2 : (2 : Int) < (rest.length : Int) := by omega
        have l3 : (3 : Int) < (rest.length : Int) := by omega
        have HH := Lib.hid hH
        have hH' : 65536 * z1 + 256 * z2 + z3 = (headN rest : Int) := hH.symm
        clear hcell hrw hH
        go_wp2_with fail
        go_quiet (fail)
        obtain ⟨W0, hW0⟩ : ∃ W0, wr.drewN nq = W0 := ⟨_, rfl⟩
        have hbW := below_drewN wr nq
        rw [hW0] at hbW ⊢
        have hBW : Hid (Below w.heap.size w W0) := Lib.hid (hB.out.trans (hbW.mono hB.out.size))
        have hOW := own_below hO.out hbW
        have hno : firstE rest ≠ 0 → MsgsPost w zs (.returned (.tuple #[.slice none 0 0, .bool false])) W0 := fun he => by
          obtain ⟨qs', hk⟩ := HNO.out (HSE.out he) he
          rcases hk with ⟨h, _⟩ | ⟨_, hk, rfl⟩
          · cases h
          · exact ⟨.slice none 0 0, [], false, rfl, World.ownsRow_nil _ _ _ _, (fun q hq => by cases hq), .inr ⟨rfl, hk, rfl⟩, hBW.out⟩
        have HNW := Lib.hid hno
        clear hno hW0 hbW hH' c1 c2 c3 b1 b2 b3
        by_cases h5 : 2000 < headN rest
        · have he : firstE rest ≠ 0 := by simp [firstE, h4, h5]
          have hd5 : decide (2000 < (headN rest : Int)) = true := decide_eq_true (by omega)
          have HE := Lib.hid he
          clear he hOW
          go_wp2_with fail
          go_ret2
          exact HNW.out HE.out
        · have hd5 : decide (2000 < (headN rest : Int)) = false := decide_eq_false (by omega)
          by_cases h6 : rest.length < headN rest + 4
          · have he : firstE rest ≠ 0 := by simp [firstE, h4, h5, h6]
            have hd6 : decide ((rest.length : Int) - 4 < (headN rest : Int)) = true := decide_eq_true (by omega)
            have HE := Lib.hid he
            clear he hOW
            go_wp2_with fail
            go_ret2
            exact HNW.out HE.out
          · have he : firstE rest = 0 := by simp [firstE, h4, h5, h6]
            have hd6 : decide ((rest.length : Int) - 4 < (headN rest : Int)) = false := decide_eq_false (by omega)
            have hw : IntKind.i64.wrap ((headN rest : Int) + 4) = ((headN rest + 4 : Nat) : Int) := by
              have : headN rest ≤ 2000 := by omega
              generalize headN rest = m at *
              rw [show ((m : Int) + 4) = ((m + 4 : Nat) : Int) by omega]
              exact IntWalk.i64_in _ ⟨by omega, by omega⟩
            obtain ⟨o1, hsl1, hr1, hp1⟩ := part_h hR.out hP.out (headN rest + 4) (by omega)
            obtain ⟨o3, hsl3, hr3, hp3⟩ := part_l hR.out hP.out (headN rest + 4) (by omega)
            have HR1 := Lib.hid hr1
            have HR3 := Lib.hid hr3
            have HP3 := Lib.hid hp3
            have HSZ := Lib.hid (show 0 < headN rest + 4 ∧ headN rest + 4 ≤ rest.length by omega)
            have HNX := Lib.hid (HSP.out he)
            have HOW := Lib.hid hOW
            obtain ⟨ip, hip, hz0, hz1, hz2⟩ := info_parts info_bb
            have HLEN := Lib.hid hlen
            clear hr1 hr3 hp1 hp3 he h6 h5 h4 hOW hlen
            generalize headN rest + 4 = m at *
            have HCN := Lib.hid (fun i => cell_of_row _ W0.heap.size i _ 22 (0, 0) (heap_alloc_new W0 (.cells #[.slice o1 m cap] 22)))
            go_wp2_with (
              at_builtin
              refine wpList_append_own _ rfl (.tmp 37) (.tmp 42) 52 rfl w.heap.size 22 ip (.slice none 0 0) 1 24 Tryd.underlying52 hip hz0 hz1 hz2 rfl (by decide) _ qs.length (qs.map (·.1)) rfl
                (own_below HOW.out (below_alloc W0 _)) ⟨W0.heap.size, 0, none⟩ 1 1 [.slice o1 m cap] rfl rfl
                (cells_at HCN.out) (by intro u hu; simp at hu; subst hu; rfl) (by have := hN.out; have := HL.out; unfold maxLen; omega) (by have := hN.out; have := HL.out; omega) (by have := hBW.out.size; simp; omega) ?_
              intro v' w2 hown' hgrow _)
            have hbl : Below w.heap.size (W0.alloc (.cells #[.slice o1 m cap] 22)) w2 := below_own (own_below HOW.out (below_alloc W0 _)) (by have := hBW.out.size; simp; omega) hgrow
            have hb2 : Below w.heap.size w w2 := (hBW.out.trans ((below_alloc W0 _).mono hBW.out.size)).trans hbl
            have hr1 : Rd w (.slice o1 m cap) (rest.take m) := HR1.out
            refine ⟨⟨qs ++ [(.slice o1 m cap, rest.take m)], rest.drop m, HR3, HP3, Lib.hid (by have := hN.out; have := HSZ.out; simp; omega), Lib.hid (by simpa using hown'), Lib.hid fun q hq => ?_, Lib.hid hb2, Lib.hid (by rw [hS.out, HNX.out]; simp)⟩, by have := HSZ.out; simp only [slen]; omega⟩
            rcases List.mem_append.1 hq with hq | hq
            · exact hQ.out q hq
            · obtain rfl : q = (.slice o1 m cap, rest.take m) := by simpa using hq
              exact hr1
#print axioms rmsgs_any
end Go.Proofs.YtefcjggmlhoebaaDoor
