/- stream.Messages, whatever the bytes. -/
import Derived.Test.YthfmpnikchlhlaaSMsgs
namespace Go.Proofs.Ythfmpnikchlhlaa
open Go Go.RowKit Go.Shelf
attribute [local go_sem] Oper.semAt_some

theorem info_bb : (Try.prog.info? 29).map (fun i => (i.zero, i.size, i.bytes)) = some (some (.slice none 0 0), 1, 24) := by kernel_rfl
/-- What Messages' loop holds between two rounds: B: its three boxes; C: the iterator's box, and behind it the loop's two blocks. -/
structure Sm (w1 : World) (B C : Nat) (v : Value) (X : Obj) (qs : List (Value × List Int)) (W : World) : Prop where
  lo : B + 2 < C
  sz : C = w1.heap.size
  b0 : w1.heap[B]? = some (.cells #[.slice none 0 0] 45 (0, 0))
  b1 : w1.heap[B + 1]? = some (.cells #[.bool false] 4 (0, 0))
  b2 : w1.heap[B + 2]? = some (.cells #[.slice none 0 0] 45 (0, 0))
  lb : ∃ lv, W.heap[B + 2]? = some (.cells #[lv] 45 (0, 0)) ∧ W.ownsRow (C + 3) 29 1 lv qs.length (qs.map (·.1))
  rb : ∃ u, W.heap[B]? = some (.cells #[u] 45 (0, 0))
  eb : ∃ u, W.heap[B + 1]? = some (.cells #[u] 4 (0, 0))
  bb : W.heap[C]? = some (.cells #[v] 29 (0, 0))
  df : W.heap[C + 1]? = some (.deferred (some []))
  lp : W.heap[C + 2]? = some X
  rd : ∀ q ∈ qs, Rd w1 q.1 q.2
  chg : Chg [B, B + 1, B + 2] w1 W
theorem Sm.keep {w1 W W' : World} {B C : Nat} {v : Value} {X : Obj} {qs : List (Value × List Int)} (h : Sm w1 B C v X qs W) (hb : Below W.heap.size W W') : Sm w1 B C v X qs W' := by
  obtain ⟨lv, h1, h2⟩ := h.lb
  obtain ⟨u, h3⟩ := h.rb
  obtain ⟨u', h4⟩ := h.eb
  exact ⟨h.lo, h.sz, h.b0, h.b1, h.b2, ⟨lv, row_keep hb h1, own_below h2 hb⟩, ⟨u, row_keep hb h3⟩, ⟨u', row_keep hb h4⟩, row_keep hb h.bb, row_keep hb h.df, row_keep hb h.lp, h.rd, h.chg.trans (Chg.of_below hb)⟩
theorem Sm.reads {w1 W : World} {B C : Nat} {v : Value} {X : Obj} {qs : List (Value × List Int)} (h : Sm w1 B C v X qs W) {rv : Value} {rest : List Int} (hr : Rd w1 rv rest) : Rd W rv rest :=
  hr.chg h.chg fun g hg => by
    simp at hg
    rcases hg with rfl | rfl | rfl
    · exact hr.off h.b0 (fun z e => by cases e)
    · exact hr.off h.b1 (fun z e => by cases e)
    · exact hr.off h.b2 (fun z e => by cases e)
/-- Behind a round: the row has one message more. -/
theorem Sm.step {w1 W0 Wc W2 Wf : World} {B C : Nat} {v lv v' : Value} {X : Obj} {qs : List (Value × List Int)} {q : Value × List Int} (h : Sm w1 B C v X qs W0) (hq : Rd w1 q.1 q.2) (hlv : W0.heap[B + 2]? = some (.cells #[lv] 45 (0, 0)))
    (h1c : Chg [C + 2] W0 Wc) (hg : Wc.grownBy W2 lv.ownBlock) (hown : W2.ownsRow (C + 3) 29 1 v' (qs.length + 1) (qs.map (·.1) ++ [q.1])) (hf : Chg [B + 2, C + 2] W2 Wf)
    (hl : Wf.heap[B + 2]? = some (.cells #[v'] 45 (0, 0))) (hx : Wf.heap[C + 2]? = some X) : Sm w1 B C v X (qs ++ [q]) Wf := by
  obtain ⟨lv', h1, h2⟩ := h.lb
  rw [hlv] at h1
  obtain rfl : lv = lv' := by simpa using h1
  have hlo := h.lo
  have hs2 : C + 2 < W0.heap.size := (Array.getElem?_eq_some_iff.1 h.lp).1
  have key : ∀ k, k < C + 2 → k ≠ B + 2 → Wf.heap[k]? = W0.heap[k]? := fun k hk hn => by
    have a1 := h1c.block k (by omega) (by simp; omega)
    have s1 := h1c.size
    have a2 := hg.block k (by omega) (fun e => by have := (h2.lt k e.symm).1; omega)
    have s2 := hg.size
    have a3 := hf.block k (by omega) (by simp; omega)
    rw [a3, a2, a1]
  obtain ⟨u, h3⟩ := h.rb
  obtain ⟨u', h4⟩ := h.eb
  have hsz : Wc.heap.size ≤ W2.heap.size := hg.size
  have hb2 : Below 0 Wc W2 := (Below.refl 0 Wc).grown hg (Nat.zero_le _) fun k _ => Nat.zero_le _
  refine ⟨h.lo, h.sz, h.b0, h.b1, h.b2, ⟨v', hl, ?_⟩, ⟨u, (key B (by omega) (by omega)).trans h3⟩, ⟨u', (key (B + 1) (by omega) (by omega)).trans h4⟩, (key C (by omega) (by omega)).trans h.bb, (key (C + 1) (by omega) (by omega)).trans h.df, hx, fun p hp => ?_, ?_⟩
  · have e : (qs ++ [q]).length = qs.length + 1 := by simp
    rw [e, List.map_append]
    refine own_same hown fun g hg' => hf.block g (hown.lt g hg').2 ?_
    have := (hown.lt g hg').1
    simp
    omega
  · rcases List.mem_append.1 hp with hp | hp
    · exact h.rd p hp
    · obtain rfl : p = q := by simpa using hp
      exact hq
  · have hs := h.sz
    have hz := h.chg.size
    have s1 := h1c.size
    exact ⟨hf.os.trans (hb2.os.trans (h1c.os.trans h.chg.os)), hf.tape.trans (hb2.tape.trans (h1c.tape.trans h.chg.tape)), hf.output.trans (hb2.output.trans (h1c.output.trans h.chg.output)), by have := hf.size; omega, fun k hk hn => by
      simp at hn
      rw [key k (by omega) (by omega)]
      exact h.chg.block k hk (by simp; omega)⟩
/-- Where the boxes of the results alone have changed. -/
theorem Sm.turn {w1 W Wf : World} {B C : Nat} {v lv : Value} {X X' : Obj} {qs : List (Value × List Int)} (h : Sm w1 B C v X qs W) (hlv : W.heap[B + 2]? = some (.cells #[lv] 45 (0, 0)))
    (hc : Chg [B, B + 1, C + 2] W Wf) (hr : ∃ u, Wf.heap[B]? = some (.cells #[u] 45 (0, 0))) (he : ∃ u, Wf.heap[B + 1]? = some (.cells #[u] 4 (0, 0))) (hx : Wf.heap[C + 2]? = some X') : Sm w1 B C v X' qs Wf := by
  obtain ⟨lv', h1, h2⟩ := h.lb
  rw [hlv] at h1
  obtain rfl : lv = lv' := by simpa using h1
  have hlo := h.lo
  have hs := h.sz
  have hz := h.chg.size
  have hs2 : C + 2 < W.heap.size := (Array.getElem?_eq_some_iff.1 h.lp).1
  refine ⟨h.lo, h.sz, h.b0, h.b1, h.b2, ⟨lv, (hc.block _ (by omega) (by simp; omega)).trans hlv, own_same h2 fun g hg => hc.block g (h2.lt g hg).2 (by have := (h2.lt g hg).1; simp; omega)⟩, hr, he, (hc.block _ (by omega) (by simp; omega)).trans h.bb, (hc.block _ (by omega) (by simp; omega)).trans h.df, hx, h.rd, ?_⟩
  exact ⟨hc.os.trans h.chg.os, hc.tape.trans h.chg.tape, hc.output.trans h.chg.output, Nat.le_trans hz hc.size, fun k hk hn => by
    simp at hn
    rw [hc.block k (by omega) (by simp; omega)]
    exact h.chg.block k hk (by simp; omega)⟩
theorem messages_any {w : World} {ao : Option Addr} {n cap : Nat} : Calls Try.prog 25 #[.slice ao n cap] w fun e w' => e = .returned (.func (.func 28) #[] #[.pointer (some ⟨w.heap.size, 0, none⟩)]) ∧ w' = w.alloc (.cells #[.slice ao n cap] 29) := by
  go_enter Try.func25, Try.ntmps25
  go_wp2_with fail
  go_ret
  exact ⟨rfl, rfl⟩
#print axioms Sm.step
#print axioms Sm.turn
end Go.Proofs.Ythfmpnikchlhlaa
