/- The reference's table: what it holds; the kind of a number. -/
import Derived.Test.YtinncmljffcobaaZLookNo
import Derived.Deep.QuietTactic
import Derived.BigQuiet
import Derived.Laws.Strings
namespace Go.Proofs.Ytinncmljffcobaa
open Go Go.RowKit

theorem take_succ_getD (xs : List Int) (j : Nat) (h : j < xs.length) : xs.take (j + 1) = xs.take j ++ [xs.getD j 0] := by
  rw [List.take_succ_eq_append_getElem h]; simp [h]
end Go.Proofs.Ytinncmljffcobaa
namespace Go.Proofs.Ytinncmljffcobaa
open Go Go.RowKit

theorem info3' : (Try.prog.info? 3).map (fun i => (i.zero, i.size, i.bytes)) = some (some (.int .i64 0), 1, 8) := by kernel_rfl
theorem own_empty (W : World) {base : Nat} (h : base ≤ W.heap.size) : (W.alloc (.cells #[] 3)).ownsRow base 3 1 (.slice (some ⟨W.heap.size, 0, none⟩) 0 0) 0 (cs .i64 []) :=
  ⟨rfl, .inr ⟨_, 0, #[], rfl, h, heap_alloc_new W _, Nat.le_refl _, Nat.zero_le _, rfl, rfl⟩⟩
theorem own_cell_of {w : World} {base e n : Nat} {v : Value} {xs : List Int} (h : w.ownsRow base e 1 v n (cs .i64 xs)) (hn : 0 < n) :
    ∃ g cap, v = .slice (some ⟨g, 0, none⟩) n cap ∧ base ≤ g ∧ n ≤ cap ∧ cap ≤ 9223372036854775807 ∧ g < w.heap.size ∧ (∀ j, w.frozen? ⟨g, j, none⟩ = false) ∧ ∀ j, j < n → w.cell? ⟨g, j, none⟩ = some (.int .i64 (xs.getD j 0)) := by
  obtain ⟨hr, hx⟩ := Rd.of_own h
  rcases h.2 with ⟨_, h0⟩ | ⟨g, cap, cur, rfl, hg, hh, h1, h2, h3, h4⟩
  · omega
  · unfold maxLen at h2
    refine ⟨g, cap, rfl, hg, h1, by omega, blk_lt hh, (fun j => by simp [World.frozen?, hh]), fun j hj => ?_⟩
    obtain ⟨ao, cp, hv, _, _, _, hc⟩ := hr
    cases hv
    have := hc ⟨g, 0, none⟩ rfl j (by omega)
    rw [Addr.add_lit, Nat.zero_add] at this
    exact this
theorem own_set {w : World} {base g n c : Nat} {ys : List Int} (h : w.ownsRow base 3 1 (.slice (some ⟨g, 0, none⟩) n c) n (cs .i64 ys)) (j : Nat) (z : Int) :
    (w.setCell ⟨g, j, none⟩ (.int .i64 z)).ownsRow base 3 1 (.slice (some ⟨g, 0, none⟩) n c) n (cs .i64 (ys.set j z)) := by
  obtain ⟨hx, h2⟩ := h
  refine ⟨by simpa [cs_len] using hx, .inr ?_⟩
  rcases h2 with ⟨e, _⟩ | ⟨g2, c2, cur, e, hg, hh, h1, h3, h4, h5⟩
  · cases e
  · cases e
    refine ⟨g, c, cur.set! j (.int .i64 z), rfl, hg, heap_setCell_same w g j cur 3 _ hh, h1, h3, by simpa using h4, ?_⟩
    have e1 : cs .i64 (ys.set j z) = (cs .i64 ys).set j (.int .i64 z) := by simp [cs, List.map_set]
    rw [e1, ← h5]
    simp [List.take_set]
/-- A number, counted round. -/
def round1 (s x : Int) : Int := Int.tmod (Int.tmod x s + s) s + 1
/-- A step's parts. -/
def stepParts (near : Bool) (s : Int) (xs : List Int) : List Int := if near && decide (0 < s) then xs.map (round1 s) else xs

def mixed (s : Int) (xs : List Int) (j : Nat) : List Int := (xs.map (round1 s)).take j ++ xs.drop j
theorem mixed_zero (s : Int) (xs : List Int) : mixed s xs 0 = xs := by simp [mixed]
theorem mixed_all (s : Int) (xs : List Int) : mixed s xs xs.length = xs.map (round1 s) := by simp [mixed, List.take_of_length_le]
theorem mixed_len (s : Int) (xs : List Int) (j : Nat) (hj : j ≤ xs.length) : (mixed s xs j).length = xs.length := by simp [mixed]; omega
theorem mixed_get (s : Int) (xs : List Int) (j : Nat) (hj : j < xs.length) : (mixed s xs j).getD j 0 = xs.getD j 0 := by
  have hm : min j xs.length = j := by omega
  simp [mixed, List.getD_eq_getElem?_getD, List.getElem?_append, hj, hm]
theorem mixed_set (s : Int) (xs : List Int) (j : Nat) (hj : j < xs.length) : (mixed s xs j).set j (round1 s (xs.getD j 0)) = mixed s xs (j + 1) := by
  have h1 : ((xs.map (round1 s)).take j).length = j := by simp; omega
  unfold mixed
  rw [List.set_append, if_neg (by omega), h1, Nat.sub_self, List.drop_eq_getElem_cons hj, List.set_cons_zero, List.take_succ_eq_append_getElem (by simpa using hj)]
  simp [hj]
end Go.Proofs.Ytinncmljffcobaa
namespace Go.Proofs.Ytinncmljffcobaa
open Go Go.RowKit

def sameN (n m : Nd) : Bool := !decide (n.1 = 2) && decide (n.1 = m.1) && decide (n.2.1 = m.2.1) && decide (n.2.2 = m.2.2)

theorem bytes_inj {a b : ByteArray} (h : a.toList = b.toList) : a = b := by
  rw [Go.ByteArray.toList_eq, Go.ByteArray.toList_eq] at h
  cases a; cases b
  simpa using h
set_option maxHeartbeats 2000000 in
set_option maxRecDepth 20000 in
theorem same_any {w : World} {k1 k2 : Int} {t1 t2 : ByteArray} {v1 v2 : Value} {xs ys : List Int} (h1 : Rd .i64 w v1 xs) (h2 : Rd .i64 w v2 ys) :
    Calls Try.prog 58 #[.agg #[.int .i64 k1, .string t1, v1], .agg #[.int .i64 k2, .string t2, v2]] w fun e w' => e = .returned (.bool (sameN (k1, t1, xs) (k2, t2, ys))) ∧ Below w.heap.size w w' := by
  have h1' := h1
  have h2' := h2
  obtain ⟨ao1, cap1, rfl, _, _, _, _⟩ := h1'
  obtain ⟨ao2, cap2, rfl, _, _, _, _⟩ := h2'
  have hX := heap_alloc2_old w (.cells #[.int .i64 k1, .string t1, .slice ao1 xs.length cap1] 69) (.cells #[.int .i64 k2, .string t2, .slice ao2 ys.length cap2] 69)
  have hY := heap_alloc2_new w (.cells #[.int .i64 k1, .string t1, .slice ao1 xs.length cap1] 69) (.cells #[.int .i64 k2, .string t2, .slice ao2 ys.length cap2] 69)
  have hB := (below_alloc w (.cells #[.int .i64 k1, .string t1, .slice ao1 xs.length cap1] 69)).trans ((below_alloc _ (.cells #[.int .i64 k2, .string t2, .slice ao2 ys.length cap2] 69)).mono (by simp))
  have HX := Lib.hid hX
  have HY := Lib.hid hY
  clear hX hY
  have fin : ∀ b, sameN (k1, t1, xs) (k2, t2, ys) = b → ∀ w', Below w.heap.size w w' → (Ending.returned (.bool b) = .returned (.bool (sameN (k1, t1, xs) (k2, t2, ys))) ∧ Below w.heap.size w w') := fun b e w' hb => ⟨by rw [e], hb⟩
  by_cases c1 : k1 = 2
  · subst c1
    go_enter Try.func58, Try.ntmps58
    go_wp2_with fail
    go_ret
    exact fin _ (by simp [sameN]) _ hB
  · have c1' : (k1 == 2) = false := beq_eq_false_iff_ne.2 c1
    have HC1 := Lib.hid c1
    clear c1
    by_cases c2 : k1 = k2
    · subst c2
      by_cases c3 : t1 = t2
      · subst c3
        by_cases c4 : xs.length = ys.length
        · have c4' : ((xs.length : Int) != (ys.length : Int)) = false := by simp [c4]
          have HC4 := Lib.hid c4
          clear c4
          have g1 := (h1.alloc (.cells #[.int .i64 k1, .string t1, .slice ao1 xs.length cap1] 69)).alloc (.cells #[.int .i64 k1, .string t1, .slice ao2 ys.length cap2] 69)
          have g2 := (h2.alloc (.cells #[.int .i64 k1, .string t1, .slice ao1 xs.length cap1] 69)).alloc (.cells #[.int .i64 k1, .string t1, .slice ao2 ys.length cap2] 69)
          have hS : ((w.alloc (.cells #[.int .i64 k1, .string t1, .slice ao1 xs.length cap1] 69)).alloc (.cells #[.int .i64 k1, .string t1, .slice ao2 ys.length cap2] 69)).heap.size = w.heap.size + 2 := by simp
          go_enter Try.func58, Try.ntmps58
          go_wp2_with fail
          generalize ((w.alloc (.cells #[.int .i64 k1, .string t1, .slice ao1 xs.length cap1] 69)).alloc (.cells #[.int .i64 k1, .string t1, .slice ao2 ys.length cap2] 69)) = W at *
          go_loopw [5] (fun i wr => ∃ j : Nat, j ≤ xs.length ∧ i = .int .i64 j ∧ xs.take j = ys.take j ∧ Below W.heap.size W wr) (fun i _ => xs.length - (intOf i).toNat)
          case atStart => exact ⟨0, Nat.zero_le _, rfl, rfl, Below.refl _ _⟩
          case round =>
            obtain ⟨j, hj, rfl, hT, hb⟩ := hrel
            have hX : wr.heap[w.heap.size]? = _ := (hb.block _ (by omega)).trans HX.out
            have hY : wr.heap[w.heap.size + 1]? = _ := (hb.block _ (by omega)).trans HY.out
            have x2 : wr.cell? ⟨w.heap.size, 2, none⟩ = some (.slice ao1 xs.length cap1) := by simp [World.cell?, hX]
            have y2 : wr.cell? ⟨w.heap.size + 1, 2, none⟩ = some (.slice ao2 ys.length cap2) := by simp [World.cell?, hY]
            clear hX hY
            have hBr := hB.trans (hb.mono (by omega))
            have HT := Lib.hid hT
            clear hT
            by_cases hlt : j < xs.length
            · have hlt' : (j : Int) < (xs.length : Int) := by omega
              have hlu' : (j : Int) < (ys.length : Int) := by have := HC4.out; omega
              have hlu : j < ys.length := by omega
              rcases (g1.below hb).cases with ⟨h0, _⟩ | ⟨b1, off1, e1, e, _, _, _, _, hc1⟩
              · rw [h0] at hlt; simp at hlt
              · cases e
                rcases (g2.below hb).cases with ⟨h0, _⟩ | ⟨b2, off2, e2, e, _, _, _, _, hc2⟩
                · rw [h0] at hlu; simp at hlu
                · cases e
                  have hx := hc1 j hlt
                  have hy := hc2 j hlu
                  have TX := Lib.hid (take_succ_getD xs j hlt)
                  have TY := Lib.hid (take_succ_getD ys j hlu)
                  have HF := Lib.hid fin
                  clear hc1 hc2 g1 g2 h1 h2 fin
                  generalize xs.getD j 0 = x at *
                  generalize ys.getD j 0 = y at *
                  by_cases hxy : x = y
                  · have hne : (x != y) = false := by simp [hxy]
                    have HXY := Lib.hid hxy
                    clear hxy
                    go_wp2_with fail
                    go_quiet (fail)
                    go_wp2_with fail
                    go_roundw
                    case rel => exact ⟨j + 1, by omega, by go_num, (by rw [TX.out, TY.out, HT.out, HXY.out]), below_drewN hb nq⟩
                    case measure => simp [intOf]; omega
                  · have hne : (x != y) = true := by simp [hxy]
                    have HXY := Lib.hid hxy
                    clear hxy
                    go_wp2_with fail
                    go_quiet (fail)
                    go_wp2_with fail
                    go_ret
                    refine HF.out false ?_ _ (below_drewN hBr nq)
                    have hne2 : xs ≠ ys := fun e => by
                      have e2 := TX.out
                      rw [e, TY.out, ← HT.out, e] at e2
                      exact HXY.out (List.singleton_inj.1 (List.append_cancel_left e2)).symm
                    simp [sameN, hne2]
            · obtain rfl : j = xs.length := by omega
              have hT : xs = ys := by
                have h3 := HT.out
                rw [List.take_length, HC4.out, List.take_length] at h3
                exact h3
              have hgo := fin true (by simp [sameN, hT, HC1.out]) wr hBr
              clear hT
              go_wp2_with fail
              go_ret
              exact hgo
        · have c4' : ((xs.length : Int) != (ys.length : Int)) = true := by simp; omega
          go_enter Try.func58, Try.ntmps58
          go_wp2_with fail
          go_ret
          exact fin _ (by simp [sameN]; intro _ e; rw [e] at c4; exact c4 rfl) _ hB
      · have c3' : ¬ t1.toList = t2.toList := fun e => c3 (bytes_inj e)
        have hf := fin false (by simp [sameN, c3]) _ hB
        clear c3 fin
        go_enter Try.func58, Try.ntmps58
        go_wp2_with fail
        go_ret
        exact hf
    · have c2' : (k1 != k2) = true := by simp [c2]
      go_enter Try.func58, Try.ntmps58
      go_wp2_with fail
      go_ret
      exact fin _ (by simp [sameN, c2]) _ hB
#print axioms same_any
end Go.Proofs.Ytinncmljffcobaa
namespace Go.Proofs.Ytinncmljffcobaa
open Go Go.RowKit

/-- The reference's table lies at block rb; the blocks from B on hold it; its nodes are L's. -/
structure RTbl (w : World) (B rb : Nat) (nv : Value) (L : List (Nd × Value)) : Prop where
  brb : B ≤ rb
  tab : w.heap[rb]? = some (.cells #[nv] 30 (0, 0))
  nodes : w.ownsRow B 69 3 nv L.length (ncells L)
  parts : ∀ p ∈ L, w.ownsRow B 3 1 p.2 p.1.2.2.length (cs .i64 p.1.2.2)
  small : L.length ≤ 65536

theorem RTbl.same {w w' : World} {B rb : Nat} {nv : Value} {L : List (Nd × Value)} (h : RTbl w B rb nv L)
    (hk : ∀ k, k = rb ∨ nv.ownBlock = some k ∨ (∃ p ∈ L, p.2.ownBlock = some k) → w'.heap[k]? = w.heap[k]?) : RTbl w' B rb nv L :=
  { h with
    tab := by rw [hk rb (.inl rfl)]; exact h.tab
    nodes := own_keep h.nodes fun g hg => hk g (.inr (.inl hg))
    parts := fun p hp => own_keep (h.parts p hp) fun g hg => hk g (.inr (.inr ⟨p, hp, hg⟩)) }
theorem RTbl.keep {w w' : World} {B rb : Nat} {nv : Value} {L : List (Nd × Value)} (h : RTbl w B rb nv L) (hb : Below w.heap.size w w') : RTbl w' B rb nv L :=
  h.same fun k hk => hb.block k (by
    rcases hk with rfl | hk | ⟨p, hp, hk⟩
    · exact blk_lt h.tab
    · exact (h.nodes.lt k hk).2
    · exact ((h.parts p hp).lt k hk).2)

theorem row_cell {w : World} {B e : Nat} {nv : Value} {L : List (Nd × Value)} (h : w.ownsRow B e 3 nv L.length (ncells L)) (q : Nat) (hq : q < L.length) :
    ∃ g cap, nv = .slice (some ⟨g, 0, none⟩) L.length cap ∧ cap ≤ 9223372036854775807 ∧ L.length ≤ cap ∧ w.cell? ⟨g, q * 3, none⟩ = some (.int .i64 L[q].1.1) ∧ w.cell? ⟨g, q * 3 + 1, none⟩ = some (.string L[q].1.2.1) ∧ w.cell? ⟨g, q * 3 + 2, none⟩ = some L[q].2 := by
  have hn := h
  rcases h.2 with ⟨_, h0⟩ | ⟨g, cap, cur, rfl, _, _, h1, h2, _⟩
  · omega
  · obtain ⟨e1, e2, e3⟩ := ncells_get L q L[q] (List.getElem?_eq_getElem hq)
    refine ⟨g, cap, rfl, by unfold maxLen at h2; omega, h1, ?_, ?_, ?_⟩
    · rw [hn.cellAt _ (by omega)]; exact e1
    · rw [hn.cellAt _ (by omega)]; exact e2
    · rw [hn.cellAt _ (by omega)]; exact e3

theorem kindN_out (N : List Nd) (t : Int) (h : t < 1 ∨ (N.length : Int) < t) : kindN N t = 0 := by
  unfold kindN
  by_cases h1 : t < 1
  · rw [if_pos h1]
  · rw [if_neg h1, List.getElem?_eq_none (by omega)]
theorem kindN_in (L : List (Nd × Value)) (q : Nat) (hq : q < L.length) : kindN (nds L) ((q : Int) + 1) = L[q].1.1 := by
  unfold kindN nds
  rw [if_neg (by omega), show ((q : Int) + 1 - 1).toNat = q from by omega, List.getElem?_map, List.getElem?_eq_getElem hq]
  rfl

set_option maxHeartbeats 1000000 in
set_option maxRecDepth 20000 in
theorem kind_any {w : World} {B rb : Nat} {nv : Value} {L : List (Nd × Value)} (h : RTbl w B rb nv L) (t : Int) :
    Calls Try.prog 47 #[.pointer (some ⟨rb, 0, none⟩), .int .i64 t] w fun e w' => e = .returned (.int .i64 (kindN (nds L) t)) ∧ w = w' := by
  have hc0 : w.cell? ⟨rb, 0, none⟩ = some nv := by simp [World.cell?, h.tab]
  obtain ⟨ao, cap, hnv, _, hcm⟩ := own_shape h.nodes
  have hsm := h.small
  by_cases h1 : t < 1
  · have hk := kindN_out (nds L) t (.inl h1)
    rw [hk]
    clear h hk hsm
    go_enter Try.func47, Try.ntmps47
    go_wp2_with fail
    go_ret
    exact ⟨rfl, rfl⟩
  · by_cases h2 : (L.length : Int) < t
    · have hk := kindN_out (nds L) t (.inr (by rw [nds_len]; exact h2))
      rw [hk]
      subst hnv
      clear h hk hsm
      go_enter Try.func47, Try.ntmps47
      go_wp2_with fail
      go_ret
      exact ⟨rfl, rfl⟩
    · obtain ⟨q, rfl⟩ : ∃ q : Nat, t = (q : Int) + 1 := ⟨(t - 1).toNat, by omega⟩
      have hq : q < L.length := by omega
      obtain ⟨g, c, hnv', hc9, hLc, hcell0, _, _⟩ := row_cell h.nodes q hq
      rw [kindN_in L q hq]
      have hqI : (q : Int) < (L.length : Int) := by omega
      have HSM := Lib.hid hsm
      subst hnv'
      generalize L[q].1.1 = K at *
      clear h hnv hcm hsm
      go_enter Try.func47, Try.ntmps47
      go_wp2_with fail
      go_ret
      exact ⟨rfl, rfl⟩
#print axioms kind_any
end Go.Proofs.Ytinncmljffcobaa
