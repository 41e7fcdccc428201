/- What a mind knows, as a list. -/
import Derived.Test.YtcjgpiffdeedeaaMgN
import Derived.Sort.OwnSortedInts
import Derived.Maps.RangeWalk
namespace Go.Proofs.Ytcjgpiffdeedeaa
open Go Go.RowKit Go.Maps

theorem own_len {w : World} {B : Nat} {e : TypeId} {v : Value} {n : Nat} {xs : List Value} (h : w.ownsRow B e 1 v n xs) : xs.length = n := by have := h.1; omega
/-- slices.Sort of a row of the call's own. -/
theorem sort_call {w : World} {v : Value} {l : List Int} (h : w.ownsRow 0 42 1 v l.length (cs .i64 l)) (hs : l.length < 4611686018427387904) :
    Calls Try.prog 35 #[v] w fun e w' => e = .returned (.tuple #[]) ∧ ∃ l' : List Int, l'.Perm l ∧ l'.Pairwise (· ≤ ·) ∧ w'.ownsRow 0 42 1 v l'.length (cs .i64 l') ∧ w.grownBy w' v.ownBlock := by
  have h0 := h
  rcases h.2 with ⟨rfl, hn⟩ | ⟨g, cap, cur, rfl, _, hb, h1, h2, h3, h4⟩
  · obtain rfl : l = [] := List.length_eq_zero_iff.1 hn
    refine (AnyM.slices_Sort_int_none sortA none 0 w).mono ?_
    rintro e w' ⟨rfl, rfl⟩
    exact ⟨rfl, [], .refl _, .nil, h0, ⟨rfl, rfl, rfl, Nat.le_refl _, fun _ _ _ => rfl⟩⟩
  · have h5 : cur.toList.take l.length = l.map (Value.int .i64) := by simpa [cs] using h4
    refine (AnyM.slices_Sort_int sortA g 0 cap l w (holds_of_blockI hb h5) (blk_lt hb) hs).mono ?_
    rintro e w' ⟨rfl, n, os, rfl⟩
    have hp := List.mergeSort_perm l (fun x y => decide (x ≤ y))
    refine ⟨rfl, _, hp, ?_, ?_, grownBy_sortedI _⟩
    · exact (List.pairwise_mergeSort (le := fun (x y : Int) => decide (x ≤ y)) (fun a b c h1 h2 => by simp at h1 h2 ⊢; omega) (fun a b => by simp; omega) l).imp fun {a b} h => by simpa using h
    · have := ownsRow_sortedI (n := n) (os := os) (ts := l.mergeSort fun x y => decide (x ≤ y)) hp.length_eq (Nat.zero_le g) hb h1 h2 h3
      rw [← hp.length_eq] at this
      simpa [cs, hp.length_eq] using this
set_option maxHeartbeats 4000000 in
set_option maxRecDepth 20000 in
theorem knows_any {c : Fx} {w : World} {F : Nat → Prop} {r : Nat → Int → Option Value} {S : MS} (h : Mnd c w F r S) {n : Nat} (hi : Inr n S) (hn : n ≤ 65536) :
    Calls Try.prog 20 #[.pointer (some ⟨c.M, 0, none⟩)] w fun e w' => ∃ (v : Value) (l : List Int), e = .returned v ∧ l.Pairwise (· < ·) ∧ (∀ x, x ∈ l ↔ S.st x = 3) ∧ Rd .i64 w' v l ∧ (∀ g, v.ownBlock = some g → w.heap.size ≤ g) ∧ Below w.heap.size w w' := by
  obtain ⟨D, hown, hsays⟩ := h.states.ex
  have hm0 : w.cell? ⟨c.M, 1, none⟩ = some (.map (some c.m1)) := h.fields.2.1
  have hwf : ∀ x, S.st x ≠ 0 → (Lit.int .i64 x).wf = true := fun x hx => by have := hi.st0 x hx; exact wfT this.1 (by omega)
  have hhas : ∀ x, S.st x = 3 → Maps.has D (.int .i64 x) = true := fun x hx => ((hsays x (hwf x (by omega))).2 (.int .i64 (S.st x)) (by simp [hx])).1
  have hm1 : c.m1 < w.heap.size := h.states.lt
  have HS := Lib.hid hsays
  have HW := Lib.hid hwf
  have HH := Lib.hid hhas
  have HI := Lib.hid hi
  clear h hsays hwf hhas hi
  go_enter Try.func20, Try.ntmps20
  go_wp2_with (at_range; refine wpList_range_own _ rfl _ 71 rfl 42 76 keyT Try.underlying71 hR c.m1 65536 D rfl hown ?_; intro w0 hrg0 hg0 hs0)
  go_frame
  go_loopw [3] (fun v wr => ∃ (left : Lit → Bool) (cnt : Nat) (l : List Int), wr.ranges Try.prog 42 hR c.m1 w.heap.size 65536 D left cnt ∧ wr.ownsRow 0 42 1 v l.length (cs .i64 l) ∧ (∀ g, v.ownBlock = some g → w.heap.size < g) ∧ Below w.heap.size w wr ∧ l.Nodup ∧
      (∀ x ∈ l, S.st x = 3 ∧ left (.int .i64 x) = false) ∧ (∀ x, S.st x = 3 → x ∈ l ∨ left (.int .i64 x) = true) ∧ ∀ kl, left kl = true → Maps.has D kl = true) (fun _ wr => wr.rangeLeft c.m1 w.heap.size)
  case atStart => exact ⟨_, _, [], hrg0, World.ownsRow_nil _ _ _ _, fun g e => (by cases e), (Below.refl w.heap.size w).grown hg0 (Nat.le_refl _) (fun k e => by cases e), .nil, fun x e => (by cases e), fun x e => .inr (HH.out x e), fun _ e => e⟩
  case round =>
    obtain ⟨left, cnt, l, hrg, hrow, hfar, hbl, hnd, hl3, hall, hhas⟩ := hrel
    have hll : l.length ≤ 65536 := by
      have := Go.Proofs.Ytcjgpiffdeedeaa.few n l hnd (fun x hx => HI.out.st0 x (by have := (hl3 x hx).1; omega))
      omega
    have HRG := Lib.hid hrg
    have HROW := Lib.hid hrow
    have HFAR := Lib.hid hfar
    have HBL := Lib.hid hbl
    have HND := Lib.hid hnd
    have HL3 := Lib.hid hl3
    have HALL := Lib.hid hall
    have HHAS := Lib.hid hhas
    clear hrow hfar hbl hnd hl3 hall hhas
    go_wp2_with (first
      | (at_next
         refine wpList_next_ranges (α := Int) (β := Value) _ rfl _ rfl 42 keyT hR (Value.int .i64) id (fun key kl hkey => by obtain ⟨x, rfl, _⟩ := Maps.keyOf_int_inv Try.underlying42 hkey; exact ⟨x, rfl⟩) (fun v y _ => ⟨v, rfl⟩) c.m1 w.heap.size 65536 _ _ _ rfl hrg ?_ ?_))
    · intro _ hl0
      have hsort := sort_call HROW.out (by omega)
      have HL0 := Lib.hid hl0
      clear hl0 hrg
      obtain ⟨a3, p3, rfl, _⟩ := own_shape HROW.out
      go_wp2_with (go_at_call 35; refine hsort.mono ?_; rintro e w2 ⟨rfl, l2, hp2, ho2, hr2, hg2⟩)
      go_ret
      have hnd2 : l2.Nodup := (hp2.nodup_iff).2 HND.out
      refine ⟨_, l2, rfl, ?_, fun x => ?_, (Rd.of_own hr2).1, fun g hg => Nat.le_of_lt (HFAR.out g hg), HBL.out.grown hg2 HBL.out.size (fun k hk => Nat.le_of_lt (HFAR.out k hk))⟩
      · have : l2.Pairwise (fun a b => a ≤ b ∧ a ≠ b) := List.pairwise_and_iff.2 ⟨ho2, hnd2⟩
        exact this.imp fun {a b} h => by omega
      · rw [hp2.mem_iff]
        refine ⟨fun hx => (HL3.out x hx).1, fun hx => ?_⟩
        rcases HALL.out x hx with e | e
        · exact e
        · rw [HL0.out] at e; cases e
    · intro x cv kl y ps w1 cnt1 hkey hlk hRy hat hrg1 hlt hg1 hs1 hen
      obtain ⟨x', ex, rfl, hwx⟩ := Maps.keyOf_int_inv Try.underlying42 hkey
      cases ex
      have hhd := HHAS.out _ hlk
      have hst0 : S.st x ≠ 0 := fun e => by
        have := (HS.out x hwx).1 (by simp [e])
        rw [hhd] at this; cases this
      have hcv : cv = .int .i64 (S.st x) := by
        have h1 := ((HS.out x hwx).2 (.int .i64 (S.st x)) (by simp [hst0])).2 (.held cv)
        have h2 := hat (.held cv)
        have h3 : y = .held cv := by unfold hR at hRy; simp at hRy; exact hRy.1.symm
        rw [h1, h3] at h2
        injection h2 with h2
        exact h2.symm
      subst hcv
      have hb1 : Below w.heap.size w w1 := HBL.out.grown hg1 HBL.out.size (fun k hk => by cases hk; exact Nat.le_refl _)
      have hrow1 : w1.ownsRow 0 42 1 u3 l.length (cs .i64 l) := own_keep HROW.out fun g hg => hg1.block g (HROW.out.lt g hg).2 (fun e => by cases e; have := HFAR.out _ hg; omega)
      have hstr : ∀ z : Int, left (.int .i64 z) = true → z ≠ x → (left (.int .i64 z) && !(Lit.int .i64 z).sameKey (.int .i64 x)) = true := fun z hz hne => by
        simp [hz, Lit.sameKey, hne]
      have hstx : (left (.int .i64 x) && !(Lit.int .i64 x).sameKey (.int .i64 x)) = false := by simp [Lit.sameKey]
      have HB1 := Lib.hid hb1
      have HR1 := Lib.hid hrow1
      have HSTR := Lib.hid hstr
      have HSTX := Lib.hid hstx
      have HG1 := Lib.hid hrg1
      have HLT := Lib.hid (And.intro hlt (And.intro hrg1.left_eq hrg.left_eq))
      have hxl : x ∉ l := fun e => by have := (HL3.out x e).2; rw [hlk] at this; cases this
      have HXL := Lib.hid hxl
      clear hb1 hrow1 hstr hstx hrg1 hlt hrg hxl hat hRy hkey hhd hg1 hs1
      by_cases h3 : S.st x = 3
      · rw [h3] at hen
        rw [h3]
        go_wp2_with (first
          | (at_builtin; refine wpList_append_far (.tmp 20) (.tmp 22) rfl rfl u3 l.length l rfl (own_alloc HR1.out _) ⟨w1.heap.size, 0, none⟩ 1 x rfl (by simp) (by omega) ?_; intro v2 w2 ho2 hg2 hl2))
        go_roundw
        case rel =>
          refine ⟨_, cnt1, l ++ [x], (HG1.out.alloc _).kept hg2 (fun e => by have := HFAR.out _ e.symm; omega) (fun e => by have := HFAR.out _ e.symm; omega), ?_, fun g hg => ?_, ?_, ?_, fun z hz => ?_, fun z hz => ?_, fun q hq => HHAS.out q (Bool.and_eq_true_iff.1 hq).1⟩
          · simpa using ho2
          · rcases hl2 with e | e
            · exact HFAR.out g (e ▸ hg)
            · rw [e] at hg
              have h5 := Option.some.inj hg
              have h6 := HB1.out.size
              simp at h5
              omega
          · exact (HB1.out.trans ((below_alloc w1 _).mono HB1.out.size)).grown hg2 (by have := HB1.out.size; simp; omega) (fun k hk => Nat.le_of_lt (HFAR.out k hk))
          · refine List.nodup_append.2 ⟨HND.out, by simp, fun a ha b hb e => ?_⟩
            rw [List.mem_singleton] at hb
            subst hb; subst e
            exact HXL.out ha
          · rcases List.mem_append.1 hz with e | e
            · exact ⟨(HL3.out z e).1, by rw [(HL3.out z e).2]; rfl⟩
            · rw [List.mem_singleton] at e
              subst e
              exact ⟨h3, HSTX.out⟩
          · by_cases e : z = x
            · exact .inl (by simp [e])
            · rcases HALL.out z hz with e2 | e2
              · exact .inl (by simp [e2])
              · exact .inr (HSTR.out z e2 e)
        case measure =>
          have r2 := ((HG1.out.alloc (.cells #[.int .i64 x] 42)).kept hg2 (fun e => by have := HFAR.out _ e.symm; omega) (fun e => by have := HFAR.out _ e.symm; omega)).left_eq
          have := HLT.out
          omega
      · have h3' : (S.st x == 3) = false := by simpa using h3
        go_wp2_with fail
        go_roundw
        case rel =>
          refine ⟨_, cnt1, l, HG1.out, HR1.out, HFAR.out, HB1.out, HND.out, fun z hz => ⟨(HL3.out z hz).1, by rw [(HL3.out z hz).2]; rfl⟩, fun z hz => ?_, fun q hq => HHAS.out q (Bool.and_eq_true_iff.1 hq).1⟩
          rcases HALL.out z hz with e2 | e2
          · exact .inl e2
          · exact .inr (HSTR.out z e2 fun e => h3 (e ▸ hz))
        case measure =>
          have := HLT.out
          omega
#print axioms knows_any
end Go.Proofs.Ytcjgpiffdeedeaa
