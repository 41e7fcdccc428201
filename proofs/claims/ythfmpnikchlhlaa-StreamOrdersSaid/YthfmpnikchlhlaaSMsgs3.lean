/- stream.Messages, whatever the bytes: its walk. -/
import Derived.Test.YthfmpnikchlhlaaSMsgs2
namespace Go.Proofs.Ythfmpnikchlhlaa
open Go Go.RowKit Go.Shelf
attribute [local go_sem] Oper.semAt_some

theorem own_slice {w : World} {base : Nat} {e : TypeId} {size : Nat} {v : Value} {n : Nat} {xs : List Value} (h : w.ownsRow base e size v n xs) : ∃ a b c, v = .slice a b c := by
  rcases h.2 with ⟨rfl, _⟩ | ⟨g, cap, cur, rfl, _⟩
  · exact ⟨_, _, _, rfl⟩
  · exact ⟨_, _, _, rfl⟩
theorem msgs_results (tmps : Array Value) (w : World) (H : Nat) (lv : Value) (k : Bool) (h2 : tmps[2]?.getD undef = .pointer (some ⟨H, 0, none⟩)) (h3 : tmps[3]?.getD undef = .pointer (some ⟨H + 1, 0, none⟩))
    (hl : w.heap[H]? = some (.cells #[lv] 45 (0, 0))) (he : w.heap[H + 1]? = some (.cells #[.bool k] 4 (0, 0))) :
    (results Try.f16 tmps).run Try.prog w = .ok (.tuple #[lv, .bool k]) w := by
  have a0 := (cell_of_row w H 0 _ 45 (0, 0) hl).trans rfl
  have b0 := (cell_of_row w (H + 1) 0 _ 4 (0, 0) he).trans rfl
  simp [results, Try.results16, h2, h3, asAddr, a0, b0, go_sem]
/-- What Messages tells. -/
def MsgsPost (w : World) (zs : List Int) (e : Ending) (W' : World) : Prop := ∃ (lv : Value) (qs : List (Value × List Int)) (ok : Bool), e = .returned (.tuple #[lv, .bool ok]) ∧ W'.ownsRow w.heap.size 29 1 lv qs.length (qs.map (·.1)) ∧ (∀ q ∈ qs, Rd W' q.1 q.2) ∧
  (ok = true ∧ (msgP zs).2 = 0 ∧ qs.map (·.2) = (msgP zs).1 ∨ ok = false ∧ (msgP zs).2 ≠ 0 ∧ qs = []) ∧ Below w.heap.size w W'
theorem msgs_out {w w1 W : World} {C : Nat} {v : Value} {zs : List Int} {X : Obj} {qs : List (Value × List Int)} {lv : Value} {k : Bool} (h : Sm w1 w.heap.size C v X qs W) (hb : Below w.heap.size w w1) (tmps : Array Value)
    (h2 : tmps[2]?.getD undef = .pointer (some ⟨w.heap.size, 0, none⟩)) (h3 : tmps[3]?.getD undef = .pointer (some ⟨w.heap.size + 1, 0, none⟩))
    (hl : W.heap[w.heap.size]? = some (.cells #[lv] 45 (0, 0))) (he : W.heap[w.heap.size + 1]? = some (.cells #[.bool k] 4 (0, 0)))
    (hk : k = true ∧ (msgP zs).2 = 0 ∧ qs.map (·.2) = (msgP zs).1 ∧ W.heap[w.heap.size + 2]? = some (.cells #[lv] 45 (0, 0)) ∨ k = false ∧ (msgP zs).2 ≠ 0 ∧ lv = .slice none 0 0) :
    LeavesInM Fence.wide 1 Try.prog Try.f16 tmps (MsgsPost w zs) [{ target := .collected (C + 1), args := #[] }] .returning W := by
  refine ⟨by simp, .inl ⟨_, _, rfl, run_takeDeferred h.df, ?_⟩⟩
  have hc : Chg [C + 1] W (W.putObj (C + 1) (.deferred none)) := Chg.put W _ (by simp)
  have hlo := h.lo
  have hs2 : C + 2 < W.heap.size := (Array.getElem?_eq_some_iff.1 h.lp).1
  have hbw : Below w.heap.size w W := h.chg.below hb (by simp)
  have hbf : Below w.heap.size w (W.putObj (C + 1) (.deferred none)) := hc.below hbw (by simp; omega)
  refine ⟨_, msgs_results tmps _ w.heap.size lv k h2 h3 ((hc.block _ (by omega) (by simp; omega)).trans hl) ((hc.block _ (by omega) (by simp; omega)).trans he), ?_⟩
  rcases hk with ⟨rfl, hk0, hq, hb2⟩ | ⟨rfl, hk0, rfl⟩
  · obtain ⟨lv', l1, l2⟩ := h.lb
    rw [hb2] at l1
    obtain rfl : lv = lv' := by simpa using l1
    refine ⟨lv, qs, true, rfl, own_mono (own_same l2 fun g hg => hc.block g (l2.lt g hg).2 (by have := (l2.lt g hg).1; simp; omega)) (by omega), fun q hq' => ?_, .inl ⟨rfl, hk0, hq⟩, hbf⟩
    refine (h.reads (h.rd q hq')).chg hc fun g hg => ?_
    obtain rfl : g = C + 1 := by simpa using hg
    exact (h.rd q hq').fa (by have := h.sz; omega)
  · exact ⟨.slice none 0 0, [], false, rfl, World.ownsRow_nil _ _ _ _, (fun q hq => by cases hq), .inr ⟨rfl, hk0, rfl⟩, hbf⟩

theorem msgs_loop {w1 W0 : World} {B C : Nat} {v : Value} {zs : List Int} {fn : FuncId} {A : Act} {ps : Array Tmp} {asg body : Code} (hr : Rd w1 v zs) (hp : Plain v) (hl : zs.length ≤ 1000000)
    (h0 : Sm w1 B C v (.loop (recd fn A ps asg body (C + 1) .ready none)) [] W0)
    (hY : ∀ qs q W1, Sm w1 B C v (.loop (recd fn A ps asg body (C + 1) .ready none)) qs W1 → Rd w1 q.1 q.2 → (∃ a, q.1 = .slice a q.2.length q.2.length) → qs.length < 1000000 →
      YieldAt Fence.wide 0 Try.prog (C + 2) #[q.1, .int .i64 0] W1 fun e W' => e = .returned (.bool true) ∧ Sm w1 B C v (.loop (recd fn A ps asg body (C + 1) .ready none)) (qs ++ [q]) W')
    (hE : ∀ qs k W1, Sm w1 B C v (.loop (recd fn A ps asg body (C + 1) .ready none)) qs W1 → k ≠ 0 →
      YieldAt Fence.wide 0 Try.prog (C + 2) #[.slice none 0 0, .int .i64 k] W1 fun e W' => e = .returned (.bool false) ∧ Sm w1 B C v (.loop (recd fn A ps asg body (C + 1) .done (some .ret))) qs W' ∧
        W'.heap[B]? = some (.cells #[.slice none 0 0] 45 (0, 0)) ∧ W'.heap[B + 1]? = some (.cells #[.bool false] 4 (0, 0))) :
    Calls Try.prog 28 (#[.func (.yield (C + 2)) #[] #[]] ++ #[.pointer (some ⟨C, 0, none⟩)]) W0 fun e W =>
      (∃ v, e = .returned v) ∧ ∃ qs, qs.map (·.2) = (msgP zs).1 ∧
        ((msgP zs).2 = 0 ∧ Sm w1 B C v (.loop (recd fn A ps asg body (C + 1) .ready none)) qs W ∨
         (msgP zs).2 ≠ 0 ∧ Sm w1 B C v (.loop (recd fn A ps asg body (C + 1) .done (some .ret))) qs W ∧ W.heap[B]? = some (.cells #[.slice none 0 0] 45 (0, 0)) ∧ W.heap[B + 1]? = some (.cells #[.bool false] 4 (0, 0))) := by
  exact callsIn_wide.1 (messages_in (n := 1) (Nat.le_refl 1) hr hp hl (fun qs W => Sm w1 B C v (.loop (recd fn A ps asg body (C + 1) .ready none)) qs W)
    (fun qs k W => Sm w1 B C v (.loop (recd fn A ps asg body (C + 1) .done (some .ret))) qs W ∧ W.heap[B]? = some (.cells #[.slice none 0 0] 45 (0, 0)) ∧ W.heap[B + 1]? = some (.cells #[.bool false] 4 (0, 0)))
    (fun qs q W1 h hq ha hlen => hY qs q W1 h hq ha (by omega)) hE (fun qs W W' h hb => h.keep hb) (fun qs W rv rest h hrd => h.reads hrd)
    ((cell_of_row W0 C 0 _ 29 (0, 0) h0.bb).trans rfl) h0)
#print axioms msgs_out
#print axioms msgs_loop
end Go.Proofs.Ythfmpnikchlhlaa
