/- header.Split, whatever the bytes. -/
import Derived.Test.YtgnjmmaahpngpaaDoorHPks
namespace Go.Proofs.YtgnjmmaahpngpaaDoor
open Go Go.RowKit Go.Shelf
attribute [local go_sem] Oper.semAt_some

theorem info_pk : (Tryd.prog.info? 38).map (fun i => (i.zero, i.size, i.bytes)) = some (some (.agg zpk), 10, 160) := by kernel_rfl
/-- What Split's loop holds between two rounds: its two boxes, the iterator's, the loop's record, the row of packets. -/
structure Sp (w : World) (v : Value) (X : Obj) (k : Int) (qs : List Pk) (W : World) : Prop where
  lb : ∃ lv, W.heap[w.heap.size]? = some (.cells #[lv] 32 (0, 0)) ∧ W.ownsRow (w.heap.size + 5) 38 10 lv qs.length (pkcells qs) ∧ ∀ g, lv.ownBlock = some g → ∀ p ∈ qs, Pf g p
  eb : W.heap[w.heap.size + 1]? = some (.cells #[.int .i64 k] 33 (0, 0))
  bb : W.heap[w.heap.size + 2]? = some (.cells #[v] 22 (0, 0))
  df : W.heap[w.heap.size + 3]? = some (.deferred (some []))
  lp : W.heap[w.heap.size + 4]? = some X
  rd : ∀ p ∈ qs, Pr (w.heap.size + 5) W p
  bel : Below w.heap.size w W
theorem own_same {w w' : World} {base : Nat} {e : TypeId} {size : Nat} {v : Value} {n : Nat} {xs : List Value} (h : w.ownsRow base e size v n xs) (hs : ∀ g, v.ownBlock = some g → w'.heap[g]? = w.heap[g]?) : w'.ownsRow base e size v n xs := by
  obtain ⟨h1, h2⟩ := h
  refine ⟨h1, ?_⟩
  rcases h2 with h2 | ⟨g, cap, cur, rfl, hg, hh, r⟩
  · exact .inl h2
  · exact .inr ⟨g, cap, cur, rfl, hg, by rw [hs g rfl]; exact hh, r⟩
theorem Sp.keep {w W W' : World} {v : Value} {X : Obj} {k : Int} {qs : List Pk} (h : Sp w v X k qs W) (hb : Below W.heap.size W W') : Sp w v X k qs W' := by
  obtain ⟨lv, h1, h2, h3⟩ := h.lb
  exact ⟨⟨lv, row_keep hb h1, own_below h2 hb, h3⟩, row_keep hb h.eb, row_keep hb h.bb, row_keep hb h.df, row_keep hb h.lp, fun p hp => (h.rd p hp).below hb, h.bel.trans (hb.mono h.bel.size)⟩
/-- Behind a round: the row has one packet more. -/
theorem Sp.step {w W0 W1 Wc W2 Wf : World} {v lv v' : Value} {X : Obj} {k : Int} {qs : List Pk} {p : Pk} (h : Sp w v X k qs W0) (hlv : W0.heap[w.heap.size]? = some (.cells #[lv] 32 (0, 0)))
    (h01 : Below W0.heap.size W0 W1) (hp : Pr W0.heap.size W1 p) (h1c : Chg [w.heap.size + 4] W1 Wc) (hg : Wc.grownBy W2 lv.ownBlock) (hown : W2.ownsRow (w.heap.size + 5) 38 10 v' (qs.length + 1) (pkcells qs ++ p.cells))
    (hpl : v'.ownBlock = lv.ownBlock ∨ v'.ownBlock = some Wc.heap.size) (hf : Chg [w.heap.size, w.heap.size + 4] W2 Wf)
    (hl : Wf.heap[w.heap.size]? = some (.cells #[v'] 32 (0, 0))) (hx : Wf.heap[w.heap.size + 4]? = some X) : Sp w v X k (qs ++ [p]) Wf := by
  obtain ⟨lv', h1, h2, h3⟩ := h.lb
  rw [hlv] at h1
  obtain rfl : lv = lv' := by simpa using h1
  have hlt := fun g hg' => h2.lt g hg'
  have hs0 : w.heap.size + 4 < W0.heap.size := (Array.getElem?_eq_some_iff.1 h.lp).1
  obtain ⟨S, hS⟩ : ∃ S, S = w.heap.size :: (w.heap.size + 4) :: lv.ownBlock.toList := ⟨_, rfl⟩
  have m0 : w.heap.size ∈ S := by rw [hS]; simp
  have m4 : w.heap.size + 4 ∈ S := by rw [hS]; simp
  have mg : ∀ g, lv.ownBlock = some g → g ∈ S := fun g hg' => by rw [hS, hg']; simp
  have hin : ∀ g ∈ S, g = w.heap.size ∨ g = w.heap.size + 4 ∨ lv.ownBlock = some g := fun g hg' => by
    rw [hS] at hg'
    simpa using hg'
  have wide : ∀ {T : List Nat} {a b : World}, Chg T a b → (∀ g ∈ T, g ∈ S) → Chg S a b := fun hc ht => ⟨hc.os, hc.tape, hc.output, hc.size, fun k hk hn => hc.block k hk fun hi => hn (ht k hi)⟩
  have c1 : Chg S W1 Wc := wide h1c (fun g hg' => by simp at hg'; rw [hg']; exact m4)
  have c2 : Chg S Wc W2 := Chg.grown hg mg
  have c3 : Chg S W2 Wf := wide hf (fun g hg' => by simp at hg'; rcases hg' with rfl | rfl <;> assumption)
  have call : Chg S W1 Wf := (c1.trans c2).trans c3
  have hk1 : ∀ j, 1 ≤ j → j ≤ 3 → W1.heap[w.heap.size + j]? = Wf.heap[w.heap.size + j]? := fun j j1 j3 => by
    refine (call.block _ (by have := h01.size; omega) fun hi => ?_).symm
    rcases hin _ hi with e | e | e
    · omega
    · omega
    · have := (hlt _ e).1; omega
  have n2 : W2.heap.size ≤ Wf.heap.size := hf.size
  have fz : ∀ g ∈ S, Pf g p := fun g hg' => by
    rcases hin g hg' with e | e | e
    · exact hp.pf (by omega)
    · exact hp.pf (by omega)
    · exact hp.pf (hlt g e).2
  have fo : ∀ q ∈ qs, ∀ g ∈ S, Pf g q := fun q hq g hg' => by
    rcases hin g hg' with e | e | e
    · exact (h.rd q hq).pf (by omega)
    · exact (h.rd q hq).pf (by omega)
    · exact h3 g e q hq
  have hs1 : W1.heap.size ≤ Wc.heap.size := h1c.size
  refine ⟨⟨v', hl, ?_, ?_⟩, ?_, ?_, ?_, hx, ?_, ?_⟩
  · have e : (qs ++ [p]).length = qs.length + 1 := by simp
    rw [e, show pkcells (qs ++ [p]) = pkcells qs ++ p.cells by rw [pkcells_app]; simp [pkcells]]
    refine own_same hown fun g hg' => hf.block g ?_ fun hi => ?_
    · exact (hown.lt g hg').2
    · have := (hown.lt g hg').1
      simp at hi
      omega
  · intro g hg' q hq
    rcases List.mem_append.1 hq with hq | hq
    · rcases hpl with e | e
      · rw [e] at hg'; exact h3 g hg' q hq
      · rw [e] at hg'; cases hg'; exact ((h.rd q hq).below h01).pf_new hs1
    · obtain rfl : q = p := by simpa using hq
      rcases hpl with e | e
      · rw [e] at hg'; exact hp.pf (hlt g hg').2
      · rw [e] at hg'; cases hg'; exact hp.pf_new hs1
  · rw [← hk1 1 (by omega) (by omega)]; exact row_keep h01 h.eb
  · rw [← hk1 2 (by omega) (by omega)]; exact row_keep h01 h.bb
  · rw [← hk1 3 (by omega) (by omega)]; exact row_keep h01 h.df
  · intro q hq
    rcases List.mem_append.1 hq with hq | hq
    · exact ((h.rd q hq).below h01).chg call (fo q hq)
    · obtain rfl : q = p := by simpa using hq
      exact (hp.mono (by omega)).chg call fz
  · refine call.below (h.bel.trans (h01.mono h.bel.size)) fun g hg' => ?_
    rcases hin g hg' with e | e | e
    · omega
    · omega
    · have := (hlt g e).1; omega
theorem packets_any {w : World} {ao : Option Addr} {n cap : Nat} : Calls Tryd.prog 15 #[.slice ao n cap] w fun e w' => e = .returned (.func (.func 20) #[] #[.pointer (some ⟨w.heap.size, 0, none⟩)]) ∧ w' = w.alloc (.cells #[.slice ao n cap] 22) := by
  go_enter Tryd.func15, Tryd.ntmps15
  go_wp2_with fail
  go_ret
  exact ⟨rfl, rfl⟩
#print axioms Sp.step
#print axioms packets_any
end Go.Proofs.YtgnjmmaahpngpaaDoor
