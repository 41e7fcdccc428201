/- A mind that knows nothing; a mind told a list; what can be made of a list. -/
import Derived.Test.YtcjgpiffdeedeaaMgR
import Derived.Test.YtcjgpiffdeedeaaMgM
namespace Go.Proofs.Ytcjgpiffdeedeaa
open Go Go.RowKit

theorem Mi.zero {N : List Nd} : Mi N (fun _ => False) MS.none (fun _ => 0) where
  news := rfl
  inr := ⟨fun _ h => absurd rfl h, fun _ => ⟨Int.le_refl _, by show (0 : Int) ≤ 3; decide⟩, fun _ h => (by cases h), fun _ _ h => (by cases h), fun _ _ h => (by cases h), fun _ h => (by cases h)⟩
  cn := by
    have hz : ∀ h, cT N.length MS.none.waits h = 0 := fun h => by
      have := sumN_le (n := N.length) (k := 0) (f := fun y => (MS.none.waits y).count h) fun y _ _ => by simp [MS.none]
      unfold cT; omega
    exact ⟨⟨fun y => (by simp [MS.none, rr]), fun y h hh => (by cases hh), fun h _ => hz h⟩, fun h _ => (by rw [hz]; omega), fun h _ => (by rw [hz]; exact Nat.zero_le _), fun y => (by simp [MS.none])⟩
  inv := ⟨fun h e => absurd (show (0 : Int) = 3 from e) (by decide), fun k e => absurd (show (2 : Int) ≤ 0 from e) (by decide), fun x e => absurd (show (0 : Int) = 1 from e) (by decide), fun x e => absurd (show (0 : Int) = 1 from e) (by decide)⟩
  snd := ⟨fun h e => absurd (show (0 : Int) = 3 from e) (by decide), fun h e => absurd (show (2 : Int) ≤ 0 from e) (by decide), fun a e => (by cases e), fun k u e => (by cases e)⟩
  told := fun _ h => h.elim
def fx0 (B : Nat) (tp : Value) : Fx := ⟨B + 4, B, B + 1, B + 2, B + 3, tp, 0, 0⟩
theorem Mnd.made (w : World) (tp : Value) : Mnd (fx0 w.heap.size tp) (((((w.alloc (.map #[] 0)).alloc (.map #[] 0)).alloc (.map #[] 0)).alloc (.map #[] 0)).alloc (.cells #[tp, .map (some w.heap.size), .map (some (w.heap.size + 1)), .map (some (w.heap.size + 2)), .map (some (w.heap.size + 3))] 75))
    (fun k => w.heap.size ≤ k ∧ k < w.heap.size + 4) (fun _ _ => none) MS.none := by
  have e0 := heap_alloc_new w (.map #[] 0)
  have e1 := heap_alloc2_new w (.map #[] 0) (.map #[] 0)
  have e2 := heap_alloc2_new (w.alloc (.map #[] 0)) (.map #[] 0) (.map #[] 0)
  have e3 := heap_alloc2_new ((w.alloc (.map #[] 0)).alloc (.map #[] 0)) (.map #[] 0) (.map #[] 0)
  have e4 := heap_alloc2_new (((w.alloc (.map #[] 0)).alloc (.map #[] 0)).alloc (.map #[] 0)) (.map #[] 0) (.cells #[tp, .map (some w.heap.size), .map (some (w.heap.size + 1)), .map (some (w.heap.size + 2)), .map (some (w.heap.size + 3))] 75)
  have hmap : ∀ (W : World) (k : Nat), W.heap[k]? = some (.map #[] 0) → MapG W k (fun _ => none) := fun W k hk => by
    have hm := MapG.made { w with heap := (Array.range k).map fun _ => Obj.map #[] 0 }
    have hs : ({ w with heap := (Array.range k).map fun _ => Obj.map #[] 0 } : World).heap.size = k := by simp
    rw [hs] at hm
    refine hm.keep ?_
    have h2 := heap_alloc_new { w with heap := (Array.range k).map fun _ => Obj.map #[] 0 } (.map #[] 0)
    rw [hs] at h2
    rw [hk, h2]
  simp only [World.size_alloc] at e2 e3 e4
  generalize hW : ((((w.alloc (.map #[] 0)).alloc (.map #[] 0)).alloc (.map #[] 0)).alloc (.map #[] 0)).alloc (.cells #[tp, .map (some w.heap.size), .map (some (w.heap.size + 1)), .map (some (w.heap.size + 2)), .map (some (w.heap.size + 3))] 75) = W at *
  have hsz : W.heap.size = w.heap.size + 5 := by rw [← hW]; simp
  have k0 : W.heap[w.heap.size]? = some (.map #[] 0) := by
    rw [← hW, (below_alloc _ _).block _ (by simp <;> omega), (below_alloc _ _).block _ (by simp <;> omega), (below_alloc _ _).block _ (by simp <;> omega), (below_alloc _ _).block _ (by simp)]; exact e0
  have k1 : W.heap[w.heap.size + 1]? = some (.map #[] 0) := by
    rw [← hW, (below_alloc _ _).block _ (by simp <;> omega), (below_alloc _ _).block _ (by simp <;> omega), (below_alloc _ _).block _ (by simp)]; exact e1
  have k2 : W.heap[w.heap.size + 2]? = some (.map #[] 0) := by
    rw [← hW, (below_alloc _ _).block _ (by simp <;> omega), (below_alloc _ _).block _ (by simp)]; exact e2
  have k3 : W.heap[w.heap.size + 3]? = some (.map #[] 0) := by
    rw [← hW, (below_alloc _ _).block _ (by simp)]; exact e3
  exact
  { lt := fun k hk => by omega
    cell := e4
    out := fun e => by have e' : w.heap.size ≤ w.heap.size + 4 ∧ w.heap.size + 4 < w.heap.size + 4 := e; omega
    f1 := ⟨Nat.le_refl _, by show w.heap.size < _; omega⟩, f2 := ⟨by show _ ≤ w.heap.size + 1; omega, by show w.heap.size + 1 < _; omega⟩, f3 := ⟨by show _ ≤ w.heap.size + 2; omega, by show w.heap.size + 2 < _; omega⟩, f4 := ⟨by show _ ≤ w.heap.size + 3; omega, by show w.heap.size + 3 < _; omega⟩
    ne := by
      show w.heap.size ≠ w.heap.size + 1 ∧ w.heap.size ≠ w.heap.size + 2 ∧ w.heap.size ≠ w.heap.size + 3 ∧ w.heap.size + 1 ≠ w.heap.size + 2 ∧ w.heap.size + 1 ≠ w.heap.size + 3 ∧ w.heap.size + 2 ≠ w.heap.size + 3
      omega
    states := (hmap W _ k0).congr fun k => rfl
    shown := (hmap W _ k1).congr fun k => rfl
    shut := (hmap W _ k2).congr fun k => rfl
    waits := (hmap W _ k3).congr fun k => rfl
    rows := fun b k => by
      have : lst MS.none b k = [] := by unfold lst; split <;> (try split) <;> (try split) <;> rfl
      rw [this]
      exact RowF.nil _ _
    apart := fun b k b' k' g h => by cases h }
set_option maxHeartbeats 1000000 in
set_option maxRecDepth 20000 in
theorem mnew_any {w : World} {F : Nat → Prop} {tp : Value} {N : List Nd} (hT : Tp w F tp N) : Calls Try.prog 18 #[tp] w fun e w' => e = .returned (.pointer (some ⟨(fx0 w.heap.size tp).M, 0, none⟩)) ∧ Mnd (fx0 w.heap.size tp) w' (fun k => w.heap.size ≤ k ∧ k < w.heap.size + 4) (fun _ _ => none) MS.none ∧ Below w.heap.size w w' := by
  have hmm := @run_makeMap Try.prog
  have hmade := Mnd.made w tp
  have hb : Below w.heap.size w (((((w.alloc (.map #[] 0)).alloc (.map #[] 0)).alloc (.map #[] 0)).alloc (.map #[] 0)).alloc (.cells #[tp, .map (some w.heap.size), .map (some (w.heap.size + 1)), .map (some (w.heap.size + 2)), .map (some (w.heap.size + 3))] 75)) :=
    ((((below_alloc _ _).trans ((below_alloc _ _).mono (by simp))).trans ((below_alloc _ _).mono (by simp <;> omega))).trans ((below_alloc _ _).mono (by simp <;> omega))).trans ((below_alloc _ _).mono (by simp <;> omega))
  obtain ⟨p, rfl⟩ : ∃ p : Option Addr, tp = .pointer p := by
    rcases hT with ⟨e, _⟩ | ⟨_, tb, _, _, e, _⟩
    · exact ⟨none, e⟩
    · exact ⟨some ⟨tb, 0, none⟩, e⟩
  have HM := Lib.hid hmade
  have HB := Lib.hid hb
  clear hmade hb hT
  go_enter Try.func18, Try.ntmps18
  go_wp2_with fail
  go_ret
  exact ⟨rfl, HM.out, HB.out⟩
set_option maxHeartbeats 1000000 in
set_option maxRecDepth 20000 in
theorem learnt_any {w : World} {tp : Value} {N : List Nd} (hT : Tp w (fun _ => False) tp N) (hN : Wf N) {lv : Value} {ls : List Int} (hl : Rd .i64 w lv ls) (hwf : ∀ y ∈ ls, (Lit.int .i64 y).wf = true) :
    Calls Try.prog 32 #[tp, lv] w fun e w' => ∃ (c : Fx) (F : Nat → Prop) (r : Nat → Int → Option Value) (S : MS) (pops : Int → Nat), e = .returned (.pointer (some ⟨c.M, 0, none⟩)) ∧ c.tp = tp ∧ Mnd c w' F r S ∧ Tp w' F tp N ∧ Mi N (fun y => y ∈ ls) S pops ∧ Below w.heap.size w w' := by
  have hnew := mnew_any hT
  have HT := Lib.hid hT
  have HL := Lib.hid (show OutR (fun _ => False) w lv ls from ⟨hl, fun _ _ _ _ _ h => h⟩)
  have HWF := Lib.hid hwf
  obtain ⟨p, rfl⟩ : ∃ p : Option Addr, tp = .pointer p := by
    rcases hT with ⟨e, _⟩ | ⟨_, tb, _, _, e, _⟩
    · exact ⟨none, e⟩
    · exact ⟨some ⟨tb, 0, none⟩, e⟩
  obtain ⟨la, lc, rfl⟩ : ∃ la lc, lv = .slice la ls.length lc := by obtain ⟨a, c, e, _⟩ := hl; exact ⟨a, c, e⟩
  clear hT hl hwf
  go_enter Try.func32, Try.ntmps32
  go_wp2_with (first
    | (go_at_call 18
       refine hnew.mono ?_
       rintro e w1 ⟨rfl, hm1, hb1⟩
       have hs1 : Stp (fun _ => False) w (fun k => w.heap.size ≤ k ∧ k < w.heap.size + 4) w1 := ⟨hb1.os, hb1.tape, hb1.output, hb1.size, fun k hk _ => hb1.block k hk, fun k hk => .inr hk.1⟩
       have hlearn := learn_any hm1 (HT.out.step hs1) hN (Mi.zero (N := N)) (Cs := fun y => y ∈ ls) (fun _ h => h.elim) (HL.out.step hs1) HWF.out (fun _ h => h) (fun _ h => .inr h)
       have HB1 := Lib.hid hb1
       clear hm1 hs1 hb1 hnew)
    | (go_at_call 19
       refine hlearn.mono ?_
       rintro e w2 ⟨rfl, F2, r2, S2, p2, X, NB, q1, q2, q3, q4⟩
       have Q1 := Lib.hid q1
       have Q2 := Lib.hid q2
       have Q3 := Lib.hid q3
       have Q4 := Lib.hid q4
       clear q1 q2 q3 q4 hlearn))
  go_ret
  exact ⟨(fx0 w.heap.size (.pointer p)).re X NB, F2, r2, S2, p2, rfl, rfl, Q1.out, Q2.out, Q3.out, HB1.out.trans (Q4.out.toBelow HB1.out.size fun k hk => hk.1)⟩
set_option maxHeartbeats 1000000 in
set_option maxRecDepth 20000 in
/-- What can be made of a list. -/
theorem kcan_any {w : World} {tp : Value} {N : List Nd} (hT : Tp w (fun _ => False) tp N) (hN : Wf N) {lv : Value} {ls : List Int} (hl : Rd .i64 w lv ls) (hwf : ∀ y ∈ ls, (Lit.int .i64 y).wf = true) {h : Int} (hh : (Lit.int .i64 h).wf = true) :
    Calls Try.prog 16 #[tp, lv, .int .i64 h] w fun e w' => ∃ b : Bool, e = .returned (.bool b) ∧ (b = true ↔ Der N (fun y => y ∈ ls) false h) ∧ Below w.heap.size w w' := by
  have hlearn := learnt_any hT hN hl hwf
  obtain ⟨p, rfl⟩ : ∃ p : Option Addr, tp = .pointer p := by
    rcases hT with ⟨e, _⟩ | ⟨_, tb, _, _, e, _⟩
    · exact ⟨none, e⟩
    · exact ⟨some ⟨tb, 0, none⟩, e⟩
  obtain ⟨la, lc, rfl⟩ : ∃ la lc, lv = .slice la ls.length lc := by obtain ⟨a, c, e, _⟩ := hl; exact ⟨a, c, e⟩
  clear hT hl hwf
  go_enter Try.func16, Try.ntmps16
  go_wp2_with (first
    | (go_at_call 32
       refine hlearn.mono ?_
       rintro e w1 ⟨c, F, r, S, pops, rfl, hc, q1, q2, q3, q4⟩
       have hcan := canm_any q1 (hc ▸ q2) hN hh
       have Q3 := Lib.hid q3
       have Q4 := Lib.hid q4
       clear hc q1 q2 q3 q4 hlearn)
    | (go_at_call 21
       refine hcan.mono ?_
       rintro e w2 ⟨l, hl, rfl, hb⟩
       have HL := Lib.hid hl
       have HB := Lib.hid hb
       clear hl hb hcan))
  go_ret
  exact ⟨_, rfl, Q3.out.can hN HL.out, Q4.out.trans (HB.out.mono Q4.out.size)⟩
#print axioms kcan_any
#print axioms mnew_any
#print axioms Mi.zero
end Go.Proofs.Ytcjgpiffdeedeaa
