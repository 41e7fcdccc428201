/- The statement's own function parts: a step's parts, in a table of so many, counted round if the step says so. -/
import Derived.Test.YtbhfilmbokaboaaTerms
namespace Go.Proofs.Ytbhfilmbokaboaa
open Go Go.RowKit

theorem info3' : (Try.prog.info? 3).map (fun i => (i.zero, i.size, i.bytes)) = some (some (.int .i64 0), 1, 8) := by kernel_rfl
theorem own_empty (W : World) {base : Nat} (h : base ≤ W.heap.size) : (W.alloc (.cells #[] 3)).ownsRow base 3 1 (.slice (some ⟨W.heap.size, 0, none⟩) 0 0) 0 (cs .i64 []) :=
  ⟨rfl, .inr ⟨_, 0, #[], rfl, h, heap_alloc_new W _, Nat.le_refl _, Nat.zero_le _, rfl, rfl⟩⟩
theorem own_cell_of {w : World} {base e n : Nat} {v : Value} {xs : List Int} (h : w.ownsRow base e 1 v n (cs .i64 xs)) (hn : 0 < n) :
    ∃ g cap, v = .slice (some ⟨g, 0, none⟩) n cap ∧ base ≤ g ∧ n ≤ cap ∧ cap ≤ 9223372036854775807 ∧ g < w.heap.size ∧ (∀ j, w.frozen? ⟨g, j, none⟩ = false) ∧ ∀ j, j < n → w.cell? ⟨g, j, none⟩ = some (.int .i64 (xs.getD j 0)) := by
  obtain ⟨hr, hx⟩ := Rd.of_own h
  rcases h.2 with ⟨_, h0⟩ | ⟨g, cap, cur, rfl, hg, hh, h1, h2, h3, h4⟩
  · omega
  · unfold maxLen at h2
    refine ⟨g, cap, rfl, hg, h1, by omega, blk_lt hh, (fun j => by simp [World.frozen?, hh]), fun j hj => ?_⟩
    obtain ⟨ao, cp, hv, _, _, _, hc⟩ := hr
    cases hv
    have := hc ⟨g, 0, none⟩ rfl j (by omega)
    rw [Addr.add_lit, Nat.zero_add] at this
    exact this
theorem own_set {w : World} {base g n c : Nat} {ys : List Int} (h : w.ownsRow base 3 1 (.slice (some ⟨g, 0, none⟩) n c) n (cs .i64 ys)) (j : Nat) (z : Int) :
    (w.setCell ⟨g, j, none⟩ (.int .i64 z)).ownsRow base 3 1 (.slice (some ⟨g, 0, none⟩) n c) n (cs .i64 (ys.set j z)) := by
  obtain ⟨hx, h2⟩ := h
  refine ⟨by simpa [cs_len] using hx, .inr ?_⟩
  rcases h2 with ⟨e, _⟩ | ⟨g2, c2, cur, e, hg, hh, h1, h3, h4, h5⟩
  · cases e
  · cases e
    refine ⟨g, c, cur.set! j (.int .i64 z), rfl, hg, heap_setCell_same w g j cur 3 _ hh, h1, h3, by simpa using h4, ?_⟩
    have e1 : cs .i64 (ys.set j z) = (cs .i64 ys).set j (.int .i64 z) := by simp [cs, List.map_set]
    rw [e1, ← h5]
    simp [List.take_set]
/-- A number, counted round. -/
def round1 (s x : Int) : Int := Int.tmod (Int.tmod x s + s) s + 1
/-- A step's parts. -/
def stepParts (near : Bool) (s : Int) (xs : List Int) : List Int := if near && decide (0 < s) then xs.map (round1 s) else xs

def mixed (s : Int) (xs : List Int) (j : Nat) : List Int := (xs.map (round1 s)).take j ++ xs.drop j
theorem mixed_zero (s : Int) (xs : List Int) : mixed s xs 0 = xs := by simp [mixed]
theorem mixed_all (s : Int) (xs : List Int) : mixed s xs xs.length = xs.map (round1 s) := by simp [mixed, List.take_of_length_le]
theorem mixed_len (s : Int) (xs : List Int) (j : Nat) (hj : j ≤ xs.length) : (mixed s xs j).length = xs.length := by simp [mixed]; omega
theorem mixed_get (s : Int) (xs : List Int) (j : Nat) (hj : j < xs.length) : (mixed s xs j).getD j 0 = xs.getD j 0 := by
  have hm : min j xs.length = j := by omega
  simp [mixed, List.getD_eq_getElem?_getD, List.getElem?_append, hj, hm]
theorem mixed_set (s : Int) (xs : List Int) (j : Nat) (hj : j < xs.length) : (mixed s xs j).set j (round1 s (xs.getD j 0)) = mixed s xs (j + 1) := by
  have h1 : ((xs.map (round1 s)).take j).length = j := by simp; omega
  unfold mixed
  rw [List.set_append, if_neg (by omega), h1, Nat.sub_self, List.drop_eq_getElem_cons hj, List.set_cons_zero, List.take_succ_eq_append_getElem (by simpa using hj)]
  simp [hj]
set_option maxHeartbeats 2000000 in
set_option maxRecDepth 20000 in
theorem parts_any {w : World} {k : Int} {t : ByteArray} {v : Value} {near : Bool} {xs : List Int} (s : Int) (h : Rd .i64 w v xs) (hl : xs.length ≤ 1000000) (hs0 : 0 ≤ s) (hs1 : s ≤ 1000000) :
    Calls Try.prog 24 #[.agg #[.int .i64 k, .string t, v, .bool near], .int .i64 s] w fun e w' => ∃ u, e = .returned u ∧ w'.ownsRow w.heap.size 3 1 u xs.length (cs .i64 (stepParts near s xs)) ∧ Below w.heap.size w w' := by
  have h' := h
  obtain ⟨ao, cap, rfl, _, _, _, _⟩ := h'
  have HL := Lib.hid hl
  clear hl
  go_enter Try.func24, Try.ntmps24
  have hO := own_empty (w.alloc (.cells #[.int .i64 k, .string t, .slice ao xs.length cap, .bool near] 31)) (base := w.heap.size + 1) (by simp)
  rw [show (w.alloc (.cells #[.int .i64 k, .string t, .slice ao xs.length cap, .bool near] 31)).heap.size = w.heap.size + 1 from by simp] at hO
  have hR := (h.alloc (.cells #[.int .i64 k, .string t, .slice ao xs.length cap, .bool near] 31)).alloc (.cells #[] 3)
  have hX := heap_alloc2_old w (.cells #[.int .i64 k, .string t, .slice ao xs.length cap, .bool near] 31) (.cells #[] 3)
  have hS : w.heap.size + 1 ≤ ((w.alloc (.cells #[.int .i64 k, .string t, .slice ao xs.length cap, .bool near] 31)).alloc (.cells #[] 3)).heap.size := by simp
  have hB := (below_alloc w (.cells #[.int .i64 k, .string t, .slice ao xs.length cap, .bool near] 31)).trans ((below_alloc _ (.cells #[] 3)).mono (by simp))
  go_wp2_with (at_builtin; refine wpList_append_ints .i64 3 8 (.tmp 7) (.tmp 9) 29 rfl rfl info3' Try.underlying29 (w.heap.size + 1) _ 0 [] rfl hO _ xs rfl hR (by have := HL.out; omega) (by have := HL.out; omega) hS ?_; intro u w2 hown2 hb2 _)
  rw [Nat.zero_add, List.nil_append] at hown2
  have hX2 : w2.heap[w.heap.size]? = some (.cells #[.int .i64 k, .string t, .slice ao xs.length cap, .bool near] 31 (0, 0)) := by rw [hb2.block _ (by omega)]; exact hX
  have B2 : Below w.heap.size w w2 := hB.trans (hb2.mono (by omega))
  obtain ⟨au, cu, rfl, hu1, hu2⟩ := own_shape hown2
  rw [← mixed_zero s xs] at hown2
  clear hO hR hX hS hB hb2
  go_loopw [6] (fun i wr => ∃ j : Nat, j ≤ xs.length ∧ i = .int .i64 j ∧ (j = 0 ∨ (near && decide (0 < s)) = true) ∧ wr.ownsRow (w.heap.size + 1) 3 1 (.slice au xs.length cu) xs.length (cs .i64 (mixed s xs j)) ∧ wr.heap[w.heap.size]? = some (.cells #[.int .i64 k, .string t, .slice ao xs.length cap, .bool near] 31 (0, 0)) ∧ Below w.heap.size w wr) (fun i _ => xs.length - (intOf i).toNat)
  case atStart => exact ⟨0, Nat.zero_le _, rfl, .inl rfl, hown2, hX2, B2⟩
  case round =>
    obtain ⟨j, hj, rfl, hj0, hown, hX, hb⟩ := hrel
    have x3 : wr.cell? ⟨w.heap.size, 3, none⟩ = some (.bool near) := by simp [World.cell?, hX]
    have HX := Lib.hid hX
    clear hX hX2 hown2 B2
    by_cases hlt : j < xs.length
    · have hlt' : (j : Int) < (xs.length : Int) := by omega
      cases near with
      | false =>
        obtain rfl : j = 0 := by rcases hj0 with h | h; exact h; cases h
        rw [mixed_zero] at hown
        go_wp2_with fail
        go_ret
        exact ⟨_, rfl, own_mono hown (by omega), hb⟩
      | true =>
        by_cases hs : 0 < s
        · obtain ⟨g, c, e, hg, _, _, hgl, hfz, hc⟩ := own_cell_of hown (by omega)
          cases e
          have hcj := hc j hlt
          have hfj := hfz j
          rw [mixed_get s xs j hlt] at hcj
          have HM := Lib.hid (mixed_set s xs j hlt)
          have hown' := own_set hown j (round1 s (xs.getD j 0))
          rw [HM.out] at hown'
          generalize xs.getD j 0 = x at *
          have hw : wrap64 (Int.tmod (wrap64 (Int.tmod x s + s)) s + 1) = round1 s x := by
            have t1 := Int.lt_tmod_of_pos x hs
            have t2 := Int.tmod_lt_of_pos x hs
            have t3 := Int.lt_tmod_of_pos (Int.tmod x s + s) hs
            have t4 := Int.tmod_lt_of_pos (Int.tmod x s + s) hs
            have w1 : wrap64 (Int.tmod x s + s) = Int.tmod x s + s := by unfold wrap64; omega
            rw [w1]
            show wrap64 (Int.tmod (Int.tmod x s + s) s + 1) = Int.tmod (Int.tmod x s + s) s + 1
            unfold wrap64
            omega
          have HO := Lib.hid hown'
          have HW := Lib.hid hw
          clear hown' hc hfz hown HM h hw
          go_wp2_with fail
          rw [HW.out]
          go_roundw
          case rel =>
            refine ⟨j + 1, by omega, by go_num, .inr (by simp [hs]), HO.out, ?_, hb.setCell (by simp only; omega) _⟩
            rw [heap_setCell_other _ _ _ _ (by simp only; omega)]
            exact HX.out
          case measure => simp [intOf]; omega
        · obtain rfl : j = 0 := by
            rcases hj0 with h | h
            · exact h
            · exact absurd (by simpa using h) hs
          rw [mixed_zero] at hown
          go_wp2_with fail
          go_ret
          refine ⟨_, rfl, ?_, hb⟩
          rw [show stepParts true s xs = xs from by unfold stepParts; rw [decide_eq_false (by omega)]; rfl]
          exact own_mono hown (by omega)
    · obtain rfl : j = xs.length := by omega
      go_wp2_with fail
      go_ret
      refine ⟨_, rfl, ?_, hb⟩
      have : stepParts near s xs = mixed s xs xs.length := by
        unfold stepParts
        rcases hj0 with h | h
        · have : xs = [] := List.eq_nil_of_length_eq_zero h
          subst this; simp [mixed]
        · rw [if_pos h, mixed_all]
      rw [this]
      exact own_mono hown (by omega)
#print axioms parts_any
end Go.Proofs.Ytbhfilmbokaboaa
