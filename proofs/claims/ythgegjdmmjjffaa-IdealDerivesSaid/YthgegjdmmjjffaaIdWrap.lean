/- A sealed thing's bytes, as both sides write them. -/
import Derived.Test.YthgegjdmmjjffaaIdUnwrap
import Derived.Lib.AppendZerosOnto
import Derived.Deep.DeepMust
namespace Go.Proofs.Ythgegjdmmjjffaa
open Go Go.RowKit

def Fine (h n : Int) : Prop := (1 ≤ h ∧ h ≤ 65536) ∧ 0 ≤ n ∧ n ≤ 1200
/-- The bytes of a sealed thing; none, if they may not be. -/
def wrapB (h n : Int) : List Int := if (1 ≤ h ∧ h ≤ 65536) ∧ 0 ≤ n ∧ n ≤ 1200 then numB h ++ List.replicate (12 + n.toNat) 0 else []
theorem wrapB_yes {h n : Int} (e : Fine h n) : wrapB h n = numB h ++ List.replicate (12 + n.toNat) 0 := if_pos e
theorem wrapB_no {h n : Int} (e : ¬ Fine h n) : wrapB h n = [] := if_neg e
theorem info5' : (Try.prog.info? 5).map (fun i => (i.zero, i.size, i.bytes)) = some (some (.int .u8 0), 1, 1) := by kernel_rfl

set_option maxRecDepth 20000 in
set_option maxHeartbeats 800000 in
theorem wrap_no {h n : Int} (e : ¬ Fine h n) (w : World) : Calls Try.prog 49 #[.int .i64 h, .int .i64 n] w fun e w' => e = .returned (.slice none 0 0) ∧ w' = w := by
  by_cases h1 : 1 ≤ h ∧ h ≤ 65536
  · have hc := isnum_yes h1 w
    by_cases h2 : n < 0
    · have t1 : decide (n < 0) = true := decide_eq_true h2
      clear h1 h2 e
      go_enter Try.func49, Try.ntmps49
      go_wp2_with (go_at_call 75; refine hc.mono ?_; rintro e w' ⟨rfl, rfl⟩)
      go_ret
      exact ⟨rfl, rfl⟩
    · have t1 : decide (n < 0) = false := decide_eq_false h2
      have t2 : decide ((1200 : Int) < n) = true := decide_eq_true (Int.lt_of_not_ge fun h3 => e ⟨h1, by omega, h3⟩)
      clear h1 h2 e
      go_enter Try.func49, Try.ntmps49
      go_wp2_with (go_at_call 75; refine hc.mono ?_; rintro e w' ⟨rfl, rfl⟩)
      go_ret
      exact ⟨rfl, rfl⟩
  · have hc := isnum_no h1 w
    clear h1 e
    go_enter Try.func49, Try.ntmps49
    go_wp2_with (go_at_call 75; refine hc.mono ?_; rintro e w' ⟨rfl, rfl⟩)
    go_ret
    exact ⟨rfl, rfl⟩

theorem zero_cells (n : Nat) : (Builtin.zeroCells (Value.int .u8 0).cells n).toList = cs .u8 (List.replicate n 0) := by
  apply List.ext_getElem
  · simp [Builtin.zeroCells, Value.cells, cs]
  · intro i h1 h2
    simp [Builtin.zeroCells, Value.cells, cs, Nat.mod_one]
/-- append of n zeros to a row of four that has no room. -/
theorem zeros_run (w : World) (b : Nat) (zs : List Int) (hl : zs.length = 4) (hb : w.heap[b]? = some (.cells (cs .u8 zs).toArray 121 (0, 0))) (m : Nat) (hm : m ≤ 1200) (ty : TypeId) (z : Int) (hz : z = 12 + (m : Int)) :
    ∃ v w', (Builtin.append_ #[48, 3] ty #[.slice (some ⟨b, 0, none⟩) 4 4, .int .i64 z]).run Try.prog w = .ok v w' ∧
      w'.ownsRow w.heap.size 5 1 v (zs ++ List.replicate (12 + m) 0).length (cs .u8 (zs ++ List.replicate (12 + m) 0)) ∧ Below w.heap.size w w' := by
  subst hz
  obtain ⟨i, hi, hz0, hz1, hz2⟩ := info_parts info5'
  have hold : (Builtin.firstCells i.size 4 (.slice (some ⟨b, 0, none⟩) 4 4)).run Try.prog w.drew = .ok (cs .u8 zs).toArray w.drew := by
    refine run_firstCells_some _ i.size 4 ⟨b, 0, none⟩ 4 4 (cs .u8 zs) (by rw [cs_len, hl, hz1]) fun j v hj => ?_
    rw [Addr.add_lit, Nat.zero_add]
    show w.cell? _ = _
    simp [World.cell?, hb]
    simpa using hj
  have hr := Lib.run_append_grow_zeros (P := Try.prog) w 48 3 ty 5 i (.int .u8 0) .i64 .i64 Try.underlying48 Try.underlying3 hi hz0 (some ⟨b, 0, none⟩) 4 4 (cs .u8 zs) hold (12 + m) (by omega) (by omega) (by omega) (by omega) (by rw [hz2]; omega) (by rw [hz2]; unfold Builtin.nextslicecap; rw [if_pos (by omega)]; omega)
  have hk : ((12 + m : Nat) : Int) = 12 + (m : Int) := by omega
  rw [hk] at hr
  have hbel : Below w.heap.size w (w.drew.alloc (.cells ((cs .u8 zs).toArray ++ Builtin.zeroCells (Value.int .u8 0).cells (12 + m) ++ Builtin.zeroCells (Value.int .u8 0).cells (grownCap w (4 + (12 + m)) 4 5 - (4 + (12 + m)))) 5)) := (Below.refl _ _).drew.alloc (Nat.le_refl _) _
  refine ⟨_, _, hr, ?_, hbel⟩
  have hge := grownCap_ge w (4 + (12 + m)) 4 5
  have hle := grownCap_le_maxLen w (4 + (12 + m)) 4 5 (by unfold maxLen; omega)
  have hn : (zs ++ List.replicate (12 + m) (0 : Int)).length = 4 + (12 + m) := by simp [hl]
  rw [hn]
  refine ⟨by rw [cs_len, hn]; omega, .inr ⟨w.heap.size, grownCap w (4 + (12 + m)) 4 5, _, rfl, Nat.le_refl _, heap_alloc_new _ _, hge, hle, ?_, ?_⟩⟩
  · simp [Array.size_append, size_zeroCells, cs_len, hl, Value.cells]
    omega
  · rw [Array.toList_append, Array.toList_append, zero_cells, zero_cells, cs_app]
    rw [List.take_append_of_le_length (by simp [cs_len, hl])]
    exact List.take_of_length_le (by simp [cs_len, hl])

set_option maxRecDepth 20000 in
set_option maxHeartbeats 800000 in
theorem wrap_yes {h n : Int} (e : Fine h n) (w : World) : Calls Try.prog 49 #[.int .i64 h, .int .i64 n] w fun e w' => ∃ v, e = .returned v ∧ w'.ownsRow w.heap.size 5 1 v (wrapB h n).length (cs .u8 (wrapB h n)) ∧ Below w.heap.size w w' := by
  have hc := isnum_yes e.1 w
  have hn := number_yes e.1 w
  obtain ⟨m, rfl⟩ := Int.eq_ofNat_of_zero_le e.2.1
  have t1 : decide ((m : Int) < 0) = false := decide_eq_false (by omega)
  have t2 : decide ((1200 : Int) < (m : Int)) = false := decide_eq_false (by have := e.2.2; omega)
  rw [wrapB_yes e, Int.toNat_natCast]
  obtain ⟨v, w', hr, ho, hb⟩ := zeros_run (w.alloc (.cells (cs .u8 (numB h)).toArray 121)) w.heap.size (numB h) (by rw [numB_yes e.1]; rfl) (heap_alloc_new _ _) m (by have := e.2.2; omega) 48 (wrap64 (12 + (m : Int))) (by have := e.2; unfold wrap64; omega)
  have HO := Lib.hid ho
  have HB := Lib.hid hb
  clear e ho hb
  go_enter Try.func49, Try.ntmps49
  go_wp2_with (first | (go_at_call 75; refine hc.mono ?_; rintro e w' ⟨rfl, rfl⟩) | (go_at_call 47; refine hn.mono ?_; rintro e w' ⟨rfl, rfl⟩) | (at_builtin; refine Lib.wpList_append_run _ rfl _ _ _ _ rfl _ _ rfl rfl _ _ hr ?_))
  go_ret
  refine ⟨_, rfl, own_mono HO.out (by simp), ?_⟩
  exact (below_alloc w _).trans (HB.out.mono (by simp))

/-- What the program's Wrap tells. -/
theorem wrap_any (h n : Int) (w : World) : Calls Try.prog 49 #[.int .i64 h, .int .i64 n] w fun e w' => ∃ v, e = .returned v ∧ w'.ownsRow w.heap.size 5 1 v (wrapB h n).length (cs .u8 (wrapB h n)) ∧ Below w.heap.size w w' := by
  by_cases e : Fine h n
  · exact wrap_yes e w
  · refine (wrap_no e w).mono ?_
    rintro e' w' ⟨rfl, rfl⟩
    rw [wrapB_no e]
    exact ⟨_, rfl, World.ownsRow_nil _ _ _ _, Below.refl _ _⟩

set_option maxRecDepth 20000 in
set_option maxHeartbeats 800000 in
/-- What the document's Wrap tells. -/
theorem rwrap_any (h n : Int) (w : World) : Calls Try.prog 50 #[.int .i64 h, .int .i64 n] w fun e w' => ∃ v, e = .returned v ∧ w'.ownsRow w.heap.size 5 1 v (wrapB h n).length (cs .u8 (wrapB h n)) ∧ Below w.heap.size w w' := by
  by_cases h1 : 1 ≤ h ∧ h ≤ 65536
  · have hn := rnumber_yes h1 w
    by_cases h2 : n < 0
    · have t1 : decide (n < 0) = true := decide_eq_true h2
      rw [wrapB_no (fun e => by have := e.2.1; omega)]
      clear h1 h2
      go_enter Try.func50, Try.ntmps50
      go_wp2_with (go_at_call 48; refine hn.mono ?_; rintro e w' ⟨rfl, rfl⟩)
      go_ret
      exact ⟨_, rfl, World.ownsRow_nil _ _ _ _, below_alloc w _⟩
    · have t1 : decide (n < 0) = false := decide_eq_false h2
      by_cases h3 : 1200 < n
      · have t2 : decide ((1200 : Int) < n) = true := decide_eq_true h3
        rw [wrapB_no (fun e => by have := e.2.2; omega)]
        clear h1 h2 h3
        go_enter Try.func50, Try.ntmps50
        go_wp2_with (go_at_call 48; refine hn.mono ?_; rintro e w' ⟨rfl, rfl⟩)
        go_ret
        exact ⟨_, rfl, World.ownsRow_nil _ _ _ _, below_alloc w _⟩
      · have t2 : decide ((1200 : Int) < n) = false := decide_eq_false h3
        obtain ⟨m, rfl⟩ := Int.eq_ofNat_of_zero_le (show 0 ≤ n by omega)
        have hm : m ≤ 1200 := by omega
        rw [wrapB_yes ⟨h1, by omega, by omega⟩, Int.toNat_natCast]
        have hl4 : (numB h).length = 4 := by rw [numB_yes h1]; rfl
        have ho4 := own_lit .u8 5 w (numB h) (by omega)
        rw [hl4] at ho4
        have e1 : wrap64 ((m : Int) + 12) = (m : Int) + 12 := by unfold wrap64; omega
        have HL := Lib.hid hl4
        have HO := Lib.hid ho4
        have HM := Lib.hid hm
        clear h1 h2 h3 hl4 ho4
        go_enter Try.func50, Try.ntmps50
        go_wp2_with (go_at_call 48; refine hn.mono ?_; rintro e w' ⟨rfl, rfl⟩)
        go_loopw [5, 6] (fun v i wr => ∃ j : Nat, j ≤ m + 12 ∧ i = .int .i64 j ∧ wr.ownsRow w.heap.size 5 1 v (4 + j) (cs .u8 (numB h ++ List.replicate j 0)) ∧ Below w.heap.size w wr) (fun _ i _ => m + 12 - (intOf i).toNat)
        case atStart => exact ⟨0, Nat.zero_le _, rfl, by simpa using HO.out, below_alloc w _⟩
        case round =>
          obtain ⟨j, hj, rfl, hown, hb⟩ := hrel
          have hsw := hb.size
          have hlen : (4 + j : Nat) = (numB h ++ List.replicate j (0 : Int)).length := by simp [HL.out]
          by_cases hlt : j < m + 12
          · have hlt' : (j : Int) < (m : Int) + 12 := by omega
            have HJ : Hid (numB h ++ List.replicate (j + 1) 0 = (numB h ++ List.replicate j 0) ++ [0]) := Lib.hid (by rw [List.replicate_succ', List.append_assoc])
            clear hlen
            go_wp2_with (at_builtin; refine wpList_append_ints .u8 5 1 (.tmp 26) (.tmp 27) 48 rfl rfl info5' Try.underlying48 w.heap.size _ (4 + j) (numB h ++ List.replicate j 0) rfl (own_alloc hown _) _ [0] rfl (Rd.lit .u8 5 wr [0] (by simp)) (by simp; omega) (by simp; omega) (by simp; omega) ?_; intro v5 w5 hown5 hb5 _)
            go_roundw
            case rel => exact ⟨j + 1, by omega, by go_num, (by rw [HJ.out]; exact hown5), hb.trans (((below_alloc _ _).mono hsw).trans hb5)⟩
            case measure => simp [intOf]; omega
          · obtain rfl : j = m + 12 := by omega
            have HC : Hid (numB h ++ List.replicate (12 + m) (0 : Int) = numB h ++ List.replicate (m + 12) 0) := Lib.hid (by rw [Nat.add_comm 12 m])
            have HLN := Lib.hid hlen
            clear hlen
            go_wp2
            go_ret
            refine ⟨_, rfl, ?_, hb⟩
            rw [HC.out, ← HLN.out]
            exact hown
  · have hn := rnumber_no h1 w
    rw [wrapB_no (fun e => h1 e.1)]
    clear h1
    go_enter Try.func50, Try.ntmps50
    go_wp2_with (go_at_call 48; refine hn.mono ?_; rintro e w' ⟨rfl, rfl⟩)
    go_ret
    exact ⟨_, rfl, World.ownsRow_nil _ _ _ _, Below.refl _ _⟩
#print axioms wrap_any
#print axioms rwrap_any
end Go.Proofs.Ythgegjdmmjjffaa
