/- A mind that begins to learn: the boxes beside it; what has risen loses its last. -/
import Derived.Test.YtcjgpiffdeedeaaMgT
import Derived.Test.YtcjgpiffdeedeaaPkI
namespace Go.Proofs.Ytcjgpiffdeedeaa
open Go Go.RowKit

theorem own_last {w : World} {e : TypeId} {a : Option Addr} {n cap : Nat} {xs : List Value} {x : Value} (h : w.ownsRow 0 e 1 (.slice a (n + 1) cap) (n + 1) (xs ++ [x])) :
    w.ownsRow 0 e 1 (.slice a n cap) n xs ∧ ∃ g, a = some ⟨g, 0, none⟩ ∧ n + 1 ≤ cap ∧ cap ≤ maxLen := by
  obtain ⟨h1, h2⟩ := h
  have hl : xs.length = n := by simp at h1; omega
  rcases h2 with ⟨_, h2⟩ | ⟨g, cap', cur, hv, hb, hg, hc, hm, hs, ht⟩
  · omega
  · cases hv
    refine ⟨⟨by omega, .inr ⟨g, cap, cur, rfl, hb, hg, by omega, hm, hs, ?_⟩⟩, g, rfl, hc, hm⟩
    have h3 : (cur.toList.take ((n + 1) * 1)).take (n * 1) = (xs ++ [x]).take (n * 1) := by rw [ht]
    rw [List.take_take] at h3
    rw [show min (n * 1) ((n + 1) * 1) = n * 1 by omega] at h3
    rw [h3]
    simp [← hl]
def Fx.re (c : Fx) (X NB : Nat) : Fx := { c with X := X, NB := NB }
theorem lst_at {S : MS} {b : Nat} {k : Int} (hb : b ≠ 2 ∨ k ≠ 0) (l : List Int) : lst { S with news := l } b k = lst S b k := by
  unfold lst
  by_cases e : b = 2
  · subst e
    have hk : k ≠ 0 := by rcases hb with e | e; exact absurd rfl e; exact e
    simp [hk]
  · simp [e]
/-- The boxes that Learn makes. -/
theorem LW.enter {c : Fx} {N : List Nd} {w w2 : World} {F : Nat → Prop} {r : Nat → Int → Option Value} {S : MS} (h : Mnd c w F r S) (hT : Tp w F c.tp N) (hi : Inr N.length S) (hN : Wf N) (hn : S.news = []) (hb : Below w.heap.size w w2) {X NB : Nat}
    (hX : w2.heap[X]? = some (.cells #[.pointer (some ⟨c.M, 0, none⟩)] 44 (0, 0))) (hX0 : w.heap.size ≤ X) (hNX : NB ≠ X) (hB : w2.heap[NB]? = some (.cells #[.slice none 0 0] 37 (0, 0))) (hB0 : w.heap.size ≤ NB) :
    LW (c.re X NB) N w2 (fun k => F k ∨ k = NB) (rset r 2 0 none) S ∧ Stp F w (fun k => F k ∨ k = NB) w2 := by
  have s1 : Stp F w (fun k => F k ∨ k = NB) w2 := ⟨hb.os, hb.tape, hb.output, hb.size, fun k hk _ => hb.block k hk, fun k hk => hk.imp id fun e => by omega⟩
  have h2 := h.below hb
  have hM := blk_lt h.cell
  refine ⟨⟨?_, hX, ?_, ?_, .inr rfl, hT.step s1, hi, hN⟩, s1⟩
  · exact
    { lt := fun k hk => hk.elim (h2.lt k) fun e => e ▸ blk_lt hB
      cell := h2.cell
      out := fun e => e.elim h2.out fun e => by have e' : c.M = NB := e; omega
      f1 := .inl h2.f1, f2 := .inl h2.f2, f3 := .inl h2.f3, f4 := .inl h2.f4, ne := h2.ne
      states := h2.states, shown := h2.shown
      shut := h2.shut.congr fun k => by simp [rset], waits := h2.waits.congr fun k => by simp [rset]
      rows := fun b k => by
        by_cases e : b = 2 ∧ k = 0
        · obtain ⟨rfl, rfl⟩ := e
          rw [val_del, show lst S 2 0 = [] by simp [lst, hn]]
          exact .nil _ _
        · have e' : b ≠ 2 ∨ k ≠ 0 := Classical.byContradiction fun e1 => e ⟨Classical.byContradiction fun e2 => e1 (.inl e2), Classical.byContradiction fun e2 => e1 (.inr e2)⟩
          rw [val_not r none e']
          exact ⟨(h2.rows b k).1, fun g hg => .inl ((h2.rows b k).2 g hg)⟩
      apart := fun b k b' k' g h1 h3 => by
        have key : ∀ b k, (val (rset r 2 0 none) b k).ownBlock = some g → (val r b k).ownBlock = some g := fun b k hk => by
          by_cases e : b = 2 ∧ k = 0
          · obtain ⟨rfl, rfl⟩ := e
            rw [val_del] at hk; cases hk
          · have e' : b ≠ 2 ∨ k ≠ 0 := Classical.byContradiction fun e1 => e ⟨Classical.byContradiction fun e2 => e1 (.inl e2), Classical.byContradiction fun e2 => e1 (.inr e2)⟩
            rw [val_not r none e'] at hk; exact hk
        exact h.apart b k b' k' g (key _ _ h1) (key _ _ h3) }
  · rintro (e | e)
    · have e' : F X := e
      have := h.lt _ e'; omega
    · exact hNX e.symm
  · rw [val_del]; exact hB
/-- What has risen loses its last. -/
theorem LW.cut {c : Fx} {N : List Nd} {w : World} {F : Nat → Prop} {r : Nat → Int → Option Value} {S : MS} (h : LW c N w F r S) {rest : List Int} {x : Int} (hn : S.news = rest ++ [x]) {a : Option Addr} {cap : Nat} (hv : val r 2 0 = .slice a (rest.length + 1) cap) :
    LW c N (w.setCell ⟨c.NB, 0, none⟩ (.slice a rest.length cap)) F (rset r 2 0 (some (.slice a rest.length cap))) { S with news := rest } ∧ Stp F w F (w.setCell ⟨c.NB, 0, none⟩ (.slice a rest.length cap)) := by
  have hN := h.nb_ne
  have hg3 : w.grownBy (w.setCell ⟨c.NB, 0, none⟩ (.slice a rest.length cap)) (some c.NB) := grownBy_setCell' _ _ _
  have hr := (h.mnd.rows 2 0).1
  rw [hv, show lst S 2 0 = rest ++ [x] by simp [lst, hn]] at hr
  have hown : (Value.slice a rest.length cap).ownBlock = (val r 2 0).ownBlock := by rw [hv]; cases a <;> rfl
  have hcut := (own_last (n := rest.length) (xs := cs .i64 rest) (x := .int .i64 x) (by simpa [cs] using hr)).1
  have s1 : Stp F w F (w.setCell ⟨c.NB, 0, none⟩ (.slice a rest.length cap)) := .of_grown hg3 (fun g e => by cases e; exact h.nbF) (fun k hk => .inl hk)
  have hi := h.inr
  have k3 : ∀ k, k < w.heap.size → k ≠ c.NB → (w.setCell ⟨c.NB, 0, none⟩ (.slice a rest.length cap)).heap[k]? = w.heap[k]? := fun k hk e => hg3.block k hk (fun e2 => e (Option.some.inj e2))
  refine ⟨⟨?_, ?_, h.boxF, ?_, h.nbF, h.tab.step s1, ⟨hi.st0, hi.stb, hi.sh0, hi.shut, hi.waits, fun y hy => hi.news y (by rw [hn]; simp [hy])⟩, h.wf⟩, s1⟩
  · refine h.mnd.turn (S' := { S with news := rest }) 2 0 (fun k => k = c.NB) s1.size (fun k hk _ hc => k3 k hk hc) (fun k hk => by subst hk; exact ⟨hN.1, hN.2.1, hN.2.2.1, hN.2.2.2.2.2⟩) rfl rfl ?_ ?_ (fun b k e => ⟨val_not r _ e, lst_at e rest⟩) ?_ ?_ (fun k => ?_)
    · exact (h.mnd.shut.keep (k3 _ h.mnd.shut.lt hN.2.2.2.1.symm)).congr fun k => by simp [rset]
    · exact (h.mnd.waits.keep (k3 _ h.mnd.waits.lt hN.2.2.2.2.1.symm)).congr fun k => by simp [rset]
    · rw [val_set]
      show World.ownsRow _ 0 _ 1 _ rest.length _
      exact own_keep hcut fun g hg => k3 g (hcut.lt g hg).2 (fun e => hN.2.2.2.2.2 2 0 (by rw [← hown, ← e]; exact hg))
    · rw [val_set]; intro g hg; exact .inl (by rw [← hown]; exact hg)
    · rw [val_set, hown]
      exact ⟨.inl, fun e => e.elim id fun e => (h.mnd.rows 2 0).2 k e⟩
  · rw [s1.block c.X (blk_lt h.box) h.boxF]; exact h.box
  · rw [val_set]; exact heap_setCell_row h.nb _
#print axioms LW.enter
#print axioms LW.cut
end Go.Proofs.Ytcjgpiffdeedeaa
