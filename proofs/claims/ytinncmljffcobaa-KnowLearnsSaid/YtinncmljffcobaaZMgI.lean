/- What follows of a list; a mind that is not there; a table that is not there. -/
import Derived.Test.YtinncmljffcobaaZMgR
import Derived.Test.YtinncmljffcobaaZMgM
import Derived.Sort.OwnSortedInts
import Derived.Maps.RangeWalk
namespace Go.Proofs.Ytinncmljffcobaa
open Go Go.RowKit

theorem Mi.zero {N : List Nd} : Mi N (fun _ => False) MS.none (fun _ => 0) where
  news := rfl
  inr := ⟨fun _ h => absurd rfl h, fun _ => ⟨Int.le_refl _, by show (0 : Int) ≤ 3; decide⟩, fun _ h => (by cases h), fun _ _ h => (by cases h), fun _ _ h => (by cases h), fun _ h => (by cases h)⟩
  cn := by
    have hz : ∀ h, cT N.length MS.none.waits h = 0 := fun h => by
      have := sumN_le (n := N.length) (k := 0) (f := fun y => (MS.none.waits y).count h) fun y _ _ => by simp [MS.none]
      unfold cT; omega
    exact ⟨⟨fun y => (by simp [MS.none, rr]), fun y h hh => (by cases hh), fun h _ => hz h⟩, fun h _ => (by rw [hz]; omega), fun h _ => (by rw [hz]; exact Nat.zero_le _), fun y => (by simp [MS.none])⟩
  inv := ⟨fun h e => absurd (show (0 : Int) = 3 from e) (by decide), fun k e => absurd (show (2 : Int) ≤ 0 from e) (by decide), fun x e => absurd (show (0 : Int) = 1 from e) (by decide), fun x e => absurd (show (0 : Int) = 1 from e) (by decide)⟩
  snd := ⟨fun h e => absurd (show (0 : Int) = 3 from e) (by decide), fun h e => absurd (show (2 : Int) ≤ 0 from e) (by decide), fun a e => (by cases e), fun k u e => (by cases e)⟩
  told := fun _ h => h.elim
def fx0 (B : Nat) (tp : Value) : Fx := ⟨B + 4, B, B + 1, B + 2, B + 3, tp, 0, 0⟩
theorem Mnd.made (w : World) (tp : Value) : Mnd (fx0 w.heap.size tp) (((((w.alloc (.map #[] 0)).alloc (.map #[] 0)).alloc (.map #[] 0)).alloc (.map #[] 0)).alloc (.cells #[tp, .map (some w.heap.size), .map (some (w.heap.size + 1)), .map (some (w.heap.size + 2)), .map (some (w.heap.size + 3))] 75))
    (fun k => w.heap.size ≤ k ∧ k < w.heap.size + 4) (fun _ _ => none) MS.none := by
  have e0 := heap_alloc_new w (.map #[] 0)
  have e1 := heap_alloc2_new w (.map #[] 0) (.map #[] 0)
  have e2 := heap_alloc2_new (w.alloc (.map #[] 0)) (.map #[] 0) (.map #[] 0)
  have e3 := heap_alloc2_new ((w.alloc (.map #[] 0)).alloc (.map #[] 0)) (.map #[] 0) (.map #[] 0)
  have e4 := heap_alloc2_new (((w.alloc (.map #[] 0)).alloc (.map #[] 0)).alloc (.map #[] 0)) (.map #[] 0) (.cells #[tp, .map (some w.heap.size), .map (some (w.heap.size + 1)), .map (some (w.heap.size + 2)), .map (some (w.heap.size + 3))] 75)
  have hmap : ∀ (W : World) (k : Nat), W.heap[k]? = some (.map #[] 0) → MapG W k (fun _ => none) := fun W k hk => by
    have hm := MapG.made { w with heap := (Array.range k).map fun _ => Obj.map #[] 0 }
    have hs : ({ w with heap := (Array.range k).map fun _ => Obj.map #[] 0 } : World).heap.size = k := by simp
    rw [hs] at hm
    refine hm.keep ?_
    have h2 := heap_alloc_new { w with heap := (Array.range k).map fun _ => Obj.map #[] 0 } (.map #[] 0)
    rw [hs] at h2
    rw [hk, h2]
  simp only [World.size_alloc] at e2 e3 e4
  generalize hW : ((((w.alloc (.map #[] 0)).alloc (.map #[] 0)).alloc (.map #[] 0)).alloc (.map #[] 0)).alloc (.cells #[tp, .map (some w.heap.size), .map (some (w.heap.size + 1)), .map (some (w.heap.size + 2)), .map (some (w.heap.size + 3))] 75) = W at *
  have hsz : W.heap.size = w.heap.size + 5 := by rw [← hW]; simp
  have k0 : W.heap[w.heap.size]? = some (.map #[] 0) := by
    rw [← hW, (below_alloc _ _).block _ (by simp <;> omega), (below_alloc _ _).block _ (by simp <;> omega), (below_alloc _ _).block _ (by simp <;> omega), (below_alloc _ _).block _ (by simp)]; exact e0
  have k1 : W.heap[w.heap.size + 1]? = some (.map #[] 0) := by
    rw [← hW, (below_alloc _ _).block _ (by simp <;> omega), (below_alloc _ _).block _ (by simp <;> omega), (below_alloc _ _).block _ (by simp)]; exact e1
  have k2 : W.heap[w.heap.size + 2]? = some (.map #[] 0) := by
    rw [← hW, (below_alloc _ _).block _ (by simp <;> omega), (below_alloc _ _).block _ (by simp)]; exact e2
  have k3 : W.heap[w.heap.size + 3]? = some (.map #[] 0) := by
    rw [← hW, (below_alloc _ _).block _ (by simp)]; exact e3
  exact
  { lt := fun k hk => by omega
    cell := e4
    out := fun e => by have e' : w.heap.size ≤ w.heap.size + 4 ∧ w.heap.size + 4 < w.heap.size + 4 := e; omega
    f1 := ⟨Nat.le_refl _, by show w.heap.size < _; omega⟩, f2 := ⟨by show _ ≤ w.heap.size + 1; omega, by show w.heap.size + 1 < _; omega⟩, f3 := ⟨by show _ ≤ w.heap.size + 2; omega, by show w.heap.size + 2 < _; omega⟩, f4 := ⟨by show _ ≤ w.heap.size + 3; omega, by show w.heap.size + 3 < _; omega⟩
    ne := by
      show w.heap.size ≠ w.heap.size + 1 ∧ w.heap.size ≠ w.heap.size + 2 ∧ w.heap.size ≠ w.heap.size + 3 ∧ w.heap.size + 1 ≠ w.heap.size + 2 ∧ w.heap.size + 1 ≠ w.heap.size + 3 ∧ w.heap.size + 2 ≠ w.heap.size + 3
      omega
    states := (hmap W _ k0).congr fun k => rfl
    shown := (hmap W _ k1).congr fun k => rfl
    shut := (hmap W _ k2).congr fun k => rfl
    waits := (hmap W _ k3).congr fun k => rfl
    rows := fun b k => by
      have : lst MS.none b k = [] := by unfold lst; split <;> (try split) <;> (try split) <;> rfl
      rw [this]
      exact RowF.nil _ _
    apart := fun b k b' k' g h => by cases h }
set_option maxHeartbeats 1000000 in
set_option maxRecDepth 20000 in
theorem mnew_any {w : World} {F : Nat → Prop} {tp : Value} {N : List Nd} (hT : Tp w F tp N) : Calls Try.prog 18 #[tp] w fun e w' => e = .returned (.pointer (some ⟨(fx0 w.heap.size tp).M, 0, none⟩)) ∧ Mnd (fx0 w.heap.size tp) w' (fun k => w.heap.size ≤ k ∧ k < w.heap.size + 4) (fun _ _ => none) MS.none ∧ Below w.heap.size w w' := by
  have hmm := @run_makeMap Try.prog
  have hmade := Mnd.made w tp
  have hb : Below w.heap.size w (((((w.alloc (.map #[] 0)).alloc (.map #[] 0)).alloc (.map #[] 0)).alloc (.map #[] 0)).alloc (.cells #[tp, .map (some w.heap.size), .map (some (w.heap.size + 1)), .map (some (w.heap.size + 2)), .map (some (w.heap.size + 3))] 75)) :=
    ((((below_alloc _ _).trans ((below_alloc _ _).mono (by simp))).trans ((below_alloc _ _).mono (by simp <;> omega))).trans ((below_alloc _ _).mono (by simp <;> omega))).trans ((below_alloc _ _).mono (by simp <;> omega))
  obtain ⟨p, rfl⟩ : ∃ p : Option Addr, tp = .pointer p := by
    rcases hT with ⟨e, _⟩ | ⟨_, tb, _, _, e, _⟩
    · exact ⟨none, e⟩
    · exact ⟨some ⟨tb, 0, none⟩, e⟩
  have HM := Lib.hid hmade
  have HB := Lib.hid hb
  clear hmade hb hT
  go_enter Try.func18, Try.ntmps18
  go_wp2_with fail
  go_ret
  exact ⟨rfl, HM.out, HB.out⟩
set_option maxHeartbeats 1000000 in
set_option maxRecDepth 20000 in
theorem learnt_any {w : World} {tp : Value} {N : List Nd} (hT : Tp w (fun _ => False) tp N) (hN : Wf N) {lv : Value} {ls : List Int} (hl : Rd .i64 w lv ls) (hwf : ∀ y ∈ ls, (Lit.int .i64 y).wf = true) :
    Calls Try.prog 32 #[tp, lv] w fun e w' => ∃ (c : Fx) (F : Nat → Prop) (r : Nat → Int → Option Value) (S : MS) (pops : Int → Nat), e = .returned (.pointer (some ⟨c.M, 0, none⟩)) ∧ c.tp = tp ∧ Mnd c w' F r S ∧ Tp w' F tp N ∧ Mi N (fun y => y ∈ ls) S pops ∧ Below w.heap.size w w' := by
  have hnew := mnew_any hT
  have HT := Lib.hid hT
  have HL := Lib.hid (show OutR (fun _ => False) w lv ls from ⟨hl, fun _ _ _ _ _ h => h⟩)
  have HWF := Lib.hid hwf
  obtain ⟨p, rfl⟩ : ∃ p : Option Addr, tp = .pointer p := by
    rcases hT with ⟨e, _⟩ | ⟨_, tb, _, _, e, _⟩
    · exact ⟨none, e⟩
    · exact ⟨some ⟨tb, 0, none⟩, e⟩
  obtain ⟨la, lc, rfl⟩ : ∃ la lc, lv = .slice la ls.length lc := by obtain ⟨a, c, e, _⟩ := hl; exact ⟨a, c, e⟩
  clear hT hl hwf
  go_enter Try.func32, Try.ntmps32
  go_wp2_with (first
    | (go_at_call 18
       refine hnew.mono ?_
       rintro e w1 ⟨rfl, hm1, hb1⟩
       have hs1 : Stp (fun _ => False) w (fun k => w.heap.size ≤ k ∧ k < w.heap.size + 4) w1 := ⟨hb1.os, hb1.tape, hb1.output, hb1.size, fun k hk _ => hb1.block k hk, fun k hk => .inr hk.1⟩
       have hlearn := learn_any hm1 (HT.out.step hs1) hN (Mi.zero (N := N)) (Cs := fun y => y ∈ ls) (fun _ h => h.elim) (HL.out.step hs1) HWF.out (fun _ h => h) (fun _ h => .inr h)
       have HB1 := Lib.hid hb1
       clear hm1 hs1 hb1 hnew)
    | (go_at_call 19
       refine hlearn.mono ?_
       rintro e w2 ⟨rfl, F2, r2, S2, p2, X, NB, q1, q2, q3, q4⟩
       have Q1 := Lib.hid q1
       have Q2 := Lib.hid q2
       have Q3 := Lib.hid q3
       have Q4 := Lib.hid q4
       clear q1 q2 q3 q4 hlearn))
  go_ret
  exact ⟨(fx0 w.heap.size (.pointer p)).re X NB, F2, r2, S2, p2, rfl, rfl, Q1.out, Q2.out, Q3.out, HB1.out.trans (Q4.out.toBelow HB1.out.size fun k hk => hk.1)⟩
set_option maxHeartbeats 1000000 in
set_option maxRecDepth 20000 in
/-- What can be made of a list. -/
theorem kcan_any {w : World} {tp : Value} {N : List Nd} (hT : Tp w (fun _ => False) tp N) (hN : Wf N) {lv : Value} {ls : List Int} (hl : Rd .i64 w lv ls) (hwf : ∀ y ∈ ls, (Lit.int .i64 y).wf = true) {h : Int} (hh : (Lit.int .i64 h).wf = true) :
    Calls Try.prog 16 #[tp, lv, .int .i64 h] w fun e w' => ∃ b : Bool, e = .returned (.bool b) ∧ (b = true ↔ Der N (fun y => y ∈ ls) false h) ∧ Below w.heap.size w w' := by
  have hlearn := learnt_any hT hN hl hwf
  obtain ⟨p, rfl⟩ : ∃ p : Option Addr, tp = .pointer p := by
    rcases hT with ⟨e, _⟩ | ⟨_, tb, _, _, e, _⟩
    · exact ⟨none, e⟩
    · exact ⟨some ⟨tb, 0, none⟩, e⟩
  obtain ⟨la, lc, rfl⟩ : ∃ la lc, lv = .slice la ls.length lc := by obtain ⟨a, c, e, _⟩ := hl; exact ⟨a, c, e⟩
  clear hT hl hwf
  go_enter Try.func16, Try.ntmps16
  go_wp2_with (first
    | (go_at_call 32
       refine hlearn.mono ?_
       rintro e w1 ⟨c, F, r, S, pops, rfl, hc, q1, q2, q3, q4⟩
       have hcan := canm_any q1 (hc ▸ q2) hN hh
       have Q3 := Lib.hid q3
       have Q4 := Lib.hid q4
       clear hc q1 q2 q3 q4 hlearn)
    | (go_at_call 21
       refine hcan.mono ?_
       rintro e w2 ⟨l, hl, rfl, hb⟩
       have HL := Lib.hid hl
       have HB := Lib.hid hb
       clear hl hb hcan))
  go_ret
  exact ⟨_, rfl, Q3.out.can hN HL.out, Q4.out.trans (HB.out.mono Q4.out.size)⟩
#print axioms kcan_any
#print axioms mnew_any
#print axioms Mi.zero
end Go.Proofs.Ytinncmljffcobaa
namespace Go.Proofs.Ytinncmljffcobaa
open Go Go.RowKit Go.Maps

theorem own_len {w : World} {B : Nat} {e : TypeId} {v : Value} {n : Nat} {xs : List Value} (h : w.ownsRow B e 1 v n xs) : xs.length = n := by have := h.1; omega
/-- slices.Sort of a row of the call's own. -/
theorem sort_call {w : World} {v : Value} {l : List Int} (h : w.ownsRow 0 42 1 v l.length (cs .i64 l)) (hs : l.length < 4611686018427387904) :
    Calls Try.prog 35 #[v] w fun e w' => e = .returned (.tuple #[]) ∧ ∃ l' : List Int, l'.Perm l ∧ l'.Pairwise (· ≤ ·) ∧ w'.ownsRow 0 42 1 v l'.length (cs .i64 l') ∧ w.grownBy w' v.ownBlock := by
  have h0 := h
  rcases h.2 with ⟨rfl, hn⟩ | ⟨g, cap, cur, rfl, _, hb, h1, h2, h3, h4⟩
  · obtain rfl : l = [] := List.length_eq_zero_iff.1 hn
    refine (AnyM.slices_Sort_int_none sortA none 0 w).mono ?_
    rintro e w' ⟨rfl, rfl⟩
    exact ⟨rfl, [], .refl _, .nil, h0, ⟨rfl, rfl, rfl, Nat.le_refl _, fun _ _ _ => rfl⟩⟩
  · have h5 : cur.toList.take l.length = l.map (Value.int .i64) := by simpa [cs] using h4
    refine (AnyM.slices_Sort_int sortA g 0 cap l w (holds_of_blockI hb h5) (blk_lt hb) hs).mono ?_
    rintro e w' ⟨rfl, n, os, rfl⟩
    have hp := List.mergeSort_perm l (fun x y => decide (x ≤ y))
    refine ⟨rfl, _, hp, ?_, ?_, grownBy_sortedI _⟩
    · exact (List.pairwise_mergeSort (le := fun (x y : Int) => decide (x ≤ y)) (fun a b c h1 h2 => by simp at h1 h2 ⊢; omega) (fun a b => by simp; omega) l).imp fun {a b} h => by simpa using h
    · have := ownsRow_sortedI (n := n) (os := os) (ts := l.mergeSort fun x y => decide (x ≤ y)) hp.length_eq (Nat.zero_le g) hb h1 h2 h3
      rw [← hp.length_eq] at this
      simpa [cs, hp.length_eq] using this
set_option maxHeartbeats 4000000 in
set_option maxRecDepth 20000 in
theorem knows_any {c : Fx} {w : World} {F : Nat → Prop} {r : Nat → Int → Option Value} {S : MS} (h : Mnd c w F r S) {n : Nat} (hi : Inr n S) (hn : n ≤ 65536) :
    Calls Try.prog 20 #[.pointer (some ⟨c.M, 0, none⟩)] w fun e w' => ∃ (v : Value) (l : List Int), e = .returned v ∧ l.Pairwise (· < ·) ∧ (∀ x, x ∈ l ↔ S.st x = 3) ∧ Rd .i64 w' v l ∧ (∀ g, v.ownBlock = some g → w.heap.size ≤ g) ∧ Below w.heap.size w w' := by
  obtain ⟨D, hown, hsays⟩ := h.states.ex
  have hm0 : w.cell? ⟨c.M, 1, none⟩ = some (.map (some c.m1)) := h.fields.2.1
  have hwf : ∀ x, S.st x ≠ 0 → (Lit.int .i64 x).wf = true := fun x hx => by have := hi.st0 x hx; exact wfT this.1 (by omega)
  have hhas : ∀ x, S.st x = 3 → Maps.has D (.int .i64 x) = true := fun x hx => ((hsays x (hwf x (by omega))).2 (.int .i64 (S.st x)) (by simp [hx])).1
  have hm1 : c.m1 < w.heap.size := h.states.lt
  have HS := Lib.hid hsays
  have HW := Lib.hid hwf
  have HH := Lib.hid hhas
  have HI := Lib.hid hi
  clear h hsays hwf hhas hi
  go_enter Try.func20, Try.ntmps20
  go_wp2_with (at_range; refine wpList_range_own _ rfl _ 71 rfl 42 76 keyT Try.underlying71 hR c.m1 65536 D rfl hown ?_; intro w0 hrg0 hg0 hs0)
  go_frame
  go_loopw [3] (fun v wr => ∃ (left : Lit → Bool) (cnt : Nat) (l : List Int), wr.ranges Try.prog 42 hR c.m1 w.heap.size 65536 D left cnt ∧ wr.ownsRow 0 42 1 v l.length (cs .i64 l) ∧ (∀ g, v.ownBlock = some g → w.heap.size < g) ∧ Below w.heap.size w wr ∧ l.Nodup ∧
      (∀ x ∈ l, S.st x = 3 ∧ left (.int .i64 x) = false) ∧ (∀ x, S.st x = 3 → x ∈ l ∨ left (.int .i64 x) = true) ∧ ∀ kl, left kl = true → Maps.has D kl = true) (fun _ wr => wr.rangeLeft c.m1 w.heap.size)
  case atStart => exact ⟨_, _, [], hrg0, World.ownsRow_nil _ _ _ _, fun g e => (by cases e), (Below.refl w.heap.size w).grown hg0 (Nat.le_refl _) (fun k e => by cases e), .nil, fun x e => (by cases e), fun x e => .inr (HH.out x e), fun _ e => e⟩
  case round =>
    obtain ⟨left, cnt, l, hrg, hrow, hfar, hbl, hnd, hl3, hall, hhas⟩ := hrel
    have hll : l.length ≤ 65536 := by
      have := Go.Proofs.Ytinncmljffcobaa.few n l hnd (fun x hx => HI.out.st0 x (by have := (hl3 x hx).1; omega))
      omega
    have HRG := Lib.hid hrg
    have HROW := Lib.hid hrow
    have HFAR := Lib.hid hfar
    have HBL := Lib.hid hbl
    have HND := Lib.hid hnd
    have HL3 := Lib.hid hl3
    have HALL := Lib.hid hall
    have HHAS := Lib.hid hhas
    clear hrow hfar hbl hnd hl3 hall hhas
    go_wp2_with (first
      | (at_next
         refine wpList_next_ranges (α := Int) (β := Value) _ rfl _ rfl 42 keyT hR (Value.int .i64) id (fun key kl hkey => by obtain ⟨x, rfl, _⟩ := Maps.keyOf_int_inv Try.underlying42 hkey; exact ⟨x, rfl⟩) (fun v y _ => ⟨v, rfl⟩) c.m1 w.heap.size 65536 _ _ _ rfl hrg ?_ ?_))
    · intro _ hl0
      have hsort := sort_call HROW.out (by omega)
      have HL0 := Lib.hid hl0
      clear hl0 hrg
      obtain ⟨a3, p3, rfl, _⟩ := own_shape HROW.out
      go_wp2_with (go_at_call 35; refine hsort.mono ?_; rintro e w2 ⟨rfl, l2, hp2, ho2, hr2, hg2⟩)
      go_ret
      have hnd2 : l2.Nodup := (hp2.nodup_iff).2 HND.out
      refine ⟨_, l2, rfl, ?_, fun x => ?_, (Rd.of_own hr2).1, fun g hg => Nat.le_of_lt (HFAR.out g hg), HBL.out.grown hg2 HBL.out.size (fun k hk => Nat.le_of_lt (HFAR.out k hk))⟩
      · have : l2.Pairwise (fun a b => a ≤ b ∧ a ≠ b) := List.pairwise_and_iff.2 ⟨ho2, hnd2⟩
        exact this.imp fun {a b} h => by omega
      · rw [hp2.mem_iff]
        refine ⟨fun hx => (HL3.out x hx).1, fun hx => ?_⟩
        rcases HALL.out x hx with e | e
        · exact e
        · rw [HL0.out] at e; cases e
    · intro x cv kl y ps w1 cnt1 hkey hlk hRy hat hrg1 hlt hg1 hs1 hen
      obtain ⟨x', ex, rfl, hwx⟩ := Maps.keyOf_int_inv Try.underlying42 hkey
      cases ex
      have hhd := HHAS.out _ hlk
      have hst0 : S.st x ≠ 0 := fun e => by
        have := (HS.out x hwx).1 (by simp [e])
        rw [hhd] at this; cases this
      have hcv : cv = .int .i64 (S.st x) := by
        have h1 := ((HS.out x hwx).2 (.int .i64 (S.st x)) (by simp [hst0])).2 (.held cv)
        have h2 := hat (.held cv)
        have h3 : y = .held cv := by unfold hR at hRy; simp at hRy; exact hRy.1.symm
        rw [h1, h3] at h2
        injection h2 with h2
        exact h2.symm
      subst hcv
      have hb1 : Below w.heap.size w w1 := HBL.out.grown hg1 HBL.out.size (fun k hk => by cases hk; exact Nat.le_refl _)
      have hrow1 : w1.ownsRow 0 42 1 u3 l.length (cs .i64 l) := own_keep HROW.out fun g hg => hg1.block g (HROW.out.lt g hg).2 (fun e => by cases e; have := HFAR.out _ hg; omega)
      have hstr : ∀ z : Int, left (.int .i64 z) = true → z ≠ x → (left (.int .i64 z) && !(Lit.int .i64 z).sameKey (.int .i64 x)) = true := fun z hz hne => by
        simp [hz, Lit.sameKey, hne]
      have hstx : (left (.int .i64 x) && !(Lit.int .i64 x).sameKey (.int .i64 x)) = false := by simp [Lit.sameKey]
      have HB1 := Lib.hid hb1
      have HR1 := Lib.hid hrow1
      have HSTR := Lib.hid hstr
      have HSTX := Lib.hid hstx
      have HG1 := Lib.hid hrg1
      have HLT := Lib.hid (And.intro hlt (And.intro hrg1.left_eq hrg.left_eq))
      have hxl : x ∉ l := fun e => by have := (HL3.out x e).2; rw [hlk] at this; cases this
      have HXL := Lib.hid hxl
      clear hb1 hrow1 hstr hstx hrg1 hlt hrg hxl hat hRy hkey hhd hg1 hs1
      by_cases h3 : S.st x = 3
      · rw [h3] at hen
        rw [h3]
        go_wp2_with (first
          | (at_builtin; refine wpList_append_far (.tmp 20) (.tmp 22) rfl rfl u3 l.length l rfl (own_alloc HR1.out _) ⟨w1.heap.size, 0, none⟩ 1 x rfl (by simp) (by omega) ?_; intro v2 w2 ho2 hg2 hl2))
        go_roundw
        case rel =>
          refine ⟨_, cnt1, l ++ [x], (HG1.out.alloc _).kept hg2 (fun e => by have := HFAR.out _ e.symm; omega) (fun e => by have := HFAR.out _ e.symm; omega), ?_, fun g hg => ?_, ?_, ?_, fun z hz => ?_, fun z hz => ?_, fun q hq => HHAS.out q (Bool.and_eq_true_iff.1 hq).1⟩
          · simpa using ho2
          · rcases hl2 with e | e
            · exact HFAR.out g (e ▸ hg)
            · rw [e] at hg
              have h5 := Option.some.inj hg
              have h6 := HB1.out.size
              simp at h5
              omega
          · exact (HB1.out.trans ((below_alloc w1 _).mono HB1.out.size)).grown hg2 (by have := HB1.out.size; simp; omega) (fun k hk => Nat.le_of_lt (HFAR.out k hk))
          · refine List.nodup_append.2 ⟨HND.out, by simp, fun a ha b hb e => ?_⟩
            rw [List.mem_singleton] at hb
            subst hb; subst e
            exact HXL.out ha
          · rcases List.mem_append.1 hz with e | e
            · exact ⟨(HL3.out z e).1, by rw [(HL3.out z e).2]; rfl⟩
            · rw [List.mem_singleton] at e
              subst e
              exact ⟨h3, HSTX.out⟩
          · by_cases e : z = x
            · exact .inl (by simp [e])
            · rcases HALL.out z hz with e2 | e2
              · exact .inl (by simp [e2])
              · exact .inr (HSTR.out z e2 e)
        case measure =>
          have r2 := ((HG1.out.alloc (.cells #[.int .i64 x] 42)).kept hg2 (fun e => by have := HFAR.out _ e.symm; omega) (fun e => by have := HFAR.out _ e.symm; omega)).left_eq
          have := HLT.out
          omega
      · have h3' : (S.st x == 3) = false := by simpa using h3
        go_wp2_with fail
        go_roundw
        case rel =>
          refine ⟨_, cnt1, l, HG1.out, HR1.out, HFAR.out, HB1.out, HND.out, fun z hz => ⟨(HL3.out z hz).1, by rw [(HL3.out z hz).2]; rfl⟩, fun z hz => ?_, fun q hq => HHAS.out q (Bool.and_eq_true_iff.1 hq).1⟩
          rcases HALL.out z hz with e2 | e2
          · exact .inl e2
          · exact .inr (HSTR.out z e2 fun e => h3 (e ▸ hz))
        case measure =>
          have := HLT.out
          omega
#print axioms knows_any
end Go.Proofs.Ytinncmljffcobaa
namespace Go.Proofs.Ytinncmljffcobaa
open Go Go.RowKit

set_option maxHeartbeats 1000000 in
set_option maxRecDepth 20000 in
/-- What follows of a list. -/
theorem closed_any {w : World} {tp : Value} {N : List Nd} (hT : Tp w (fun _ => False) tp N) (hN : Wf N) {lv : Value} {ls : List Int} (hl : Rd .i64 w lv ls) (hwf : ∀ y ∈ ls, (Lit.int .i64 y).wf = true) :
    Calls Try.prog 15 #[tp, lv] w fun e w' => ∃ (v : Value) (l : List Int), e = .returned v ∧ l.Pairwise (· < ·) ∧ (∀ x, x ∈ l ↔ Der N (fun y => y ∈ ls) true x) ∧ Rd .i64 w' v l ∧ (∀ g, v.ownBlock = some g → w.heap.size ≤ g) ∧ Below w.heap.size w w' := by
  have hlearn := learnt_any hT hN hl hwf
  obtain ⟨p, rfl⟩ : ∃ p : Option Addr, tp = .pointer p := by
    rcases hT with ⟨e, _⟩ | ⟨_, tb, _, _, e, _⟩
    · exact ⟨none, e⟩
    · exact ⟨some ⟨tb, 0, none⟩, e⟩
  obtain ⟨la, lc, rfl⟩ : ∃ la lc, lv = .slice la ls.length lc := by obtain ⟨a, c, e, _⟩ := hl; exact ⟨a, c, e⟩
  clear hT hl hwf
  go_enter Try.func15, Try.ntmps15
  go_wp2_with (first
    | (go_at_call 32
       refine hlearn.mono ?_
       rintro e w1 ⟨c, F, r, S, pops, rfl, hc, q1, q2, q3, q4⟩
       have hkn := knows_any q1 q3.inr hN.few
       have Q3 := Lib.hid q3
       have Q4 := Lib.hid q4
       clear hc q1 q2 q3 q4 hlearn)
    | (go_at_call 20
       refine hkn.mono ?_
       rintro e w2 ⟨v, l, rfl, h1, h2, h3, h4, h5⟩
       obtain ⟨va, vc, rfl⟩ : ∃ va vc, v = .slice va l.length vc := by obtain ⟨a, c, e, _⟩ := h3; exact ⟨a, c, e⟩
       have HH := Lib.hid (And.intro h1 (And.intro h2 (And.intro h3 (And.intro h4 h5))))
       clear h1 h2 h3 h4 h5 hkn))
  go_ret
  obtain ⟨h1, h2, h3, h4, h5⟩ := HH.out
  exact ⟨_, l, rfl, h1, fun x => (h2 x).trans (Q3.out.knows hN x), h3, fun g hg => Nat.le_trans Q4.out.size (h4 g hg), Q4.out.trans (h5.mono Q4.out.size)⟩
set_option maxRecDepth 20000 in
theorem learn_nil {w : World} {la : Option Addr} {n cap : Nat} : Calls Try.prog 19 #[.pointer none, .slice la n cap] w fun e w' => e = .returned (.tuple #[]) ∧ Below w.heap.size w w' := by
  have bb := below_alloc w (.cells #[.pointer none] 44)
  go_enter Try.func19, Try.ntmps19
  go_wp2_with fail
  first
    | (go_ret; exact ⟨rfl, bb⟩)
    | (refine ⟨rfl, _, results_none rfl _ _ _, ?_⟩; exact ⟨rfl, bb⟩)
set_option maxRecDepth 20000 in
theorem knows_nil {w : World} : Calls Try.prog 20 #[.pointer none] w fun e w' => e = .returned (.slice none 0 0) ∧ w' = w := by
  go_enter Try.func20, Try.ntmps20
  go_wp2_with fail
  go_ret
  exact ⟨rfl, rfl⟩
theorem Wf.nil : Wf ([] : List Nd) where
  low := fun x h1 h2 => by simp at h2; omega
  two := fun x h => by have := kind_in (N := []) (x := x) (by rw [h]; decide); simp at this; omega
  one := fun x h => by have := kind_in (N := []) (x := x) (by rw [h]; decide); simp at this; omega
  sig := fun x h => by have := kind_in (N := []) (x := x) (by rw [h]; decide); simp at this; omega
  sea := fun x h => by have := kind_in (N := []) (x := x) (by rw [h]; decide); simp at this; omega
  sixteen := fun x => by simp [partsN]
  pub := fun x y h => by have := kind_in (N := []) (x := x) (by rw [h]; decide); simp at this; omega
  few := by simp
theorem der_nil {Bs : Int → Prop} {b : Bool} {x : Int} (h : Der [] Bs b x) : False := by have := der_in Wf.nil h; simp at this; omega
#print axioms closed_any
#print axioms der_nil
end Go.Proofs.Ytinncmljffcobaa
