/- TermMakes' walk: whatever the steps, both tables tell the same numbers, and hold the same terms. -/
import Derived.Test.YtbhfilmbokaboaaDo
import Derived.Test.YtbhfilmbokaboaaStepsIn
import Derived.Test.YtbhfilmbokaboaaTold
import Derived.Test.YtbhfilmbokaboaaLookNo
import Derived.Test.YtbhfilmbokaboaaAwake
import Derived.Deep.RegionHeld3
import Derived.IntWalk
import Derived.Deep.DrawnRows
namespace Go.Proofs.Ytbhfilmbokaboaa
open Go Go.RowKit

theorem w_less (q : Nat) (h : q ≤ 1000) : wrap64 ((q : Int) + 1 - 1) = (q : Int) := by unfold wrap64; omega
theorem w_len (n : Nat) (h : n ≤ 1000) : wrap64 ((n : Int) + 1) = (n : Int) + 1 := by unfold wrap64; omega
theorem w_len2 (q : Nat) (h : q ≤ 1000) : wrap64 ((q : Int) + 1 + 1) = (q : Int) + 1 + 1 := by unfold wrap64; omega
theorem wi_same (q : Nat) (h : q ≤ 1000) : IntKind.i64.wrap (q : Int) = (q : Int) := IntWalk.i64_in _ (by omega)
theorem wi_less (q : Nat) (h : q ≤ 1000) : IntKind.i64.wrap ((q : Int) + 1 - 1) = (q : Int) := (IntWalk.i64_in _ (by omega)).trans (by omega)
theorem q_facts (q n r : Nat) (hq : q < n) (hr : (r : Int) = (n : Int)) :
    q < r ∧ decide ((q : Int) + 1 ≤ (n : Int) + 1) = true ∧ decide ((q : Int) + 1 < 1) = false ∧ decide ((n : Int) < (q : Int) + 1) = false ∧ (0 ≤ (q : Int) ∧ (q : Int) < (n : Int)) :=
  ⟨by omega, decide_eq_true (by omega), decide_eq_false (by omega), decide_eq_false (by omega), by omega⟩
theorem keepS {w w' : World} {a : Addr} {v : Value} (hb : Below w.heap.size w w') (h : w.cell? a = some v) : w'.cell? a = some v := by rw [hb.cell (cell_lt h)]; exact h
/-- Two new tables. -/
theorem Two.new {w w1 : World} {tb mb : Nat} (h : St w w1 tb mb [] []) : Two w (w1.alloc (.cells #[.slice none 0 0] 28)) tb mb w1.heap.size [] :=
  ⟨h.keep (below_alloc _ _), ⟨.slice none 0 0, [], ⟨h.bel.size, heap_alloc_new _ _, World.ownsRow_nil _ _ _ _, (fun p hp => by cases hp), by simp⟩, rfl⟩, fun m hm => by cases hm⟩
/-- A step, later. -/
theorem StepAt.below {w w' : World} {a : Addr} {s : StepV} (h : StepAt w a s) (hb : Below w.heap.size w w') : StepAt w' a s := by
  obtain ⟨h0, h1, h2, h3, h4⟩ := h
  exact ⟨by rw [hb.cell (cell_lt h0)]; exact h0, by rw [hb.cell (cell_lt h1)]; exact h1, by rw [hb.cell (cell_lt h2)]; exact h2, by rw [hb.cell (cell_lt h3)]; exact h3, h4.below hb⟩
theorem StepAt.cells {w : World} {b off : Nat} {s : StepV} (h : StepAt w ⟨b, off, none⟩ s) :
    w.cell? ⟨b, off, none⟩ = some (.int .i64 s.k) ∧ w.cell? ⟨b, off + 1, none⟩ = some (.string s.t) ∧ w.cell? ⟨b, off + 2, none⟩ = some (.slice s.ao s.xs.length s.cp) ∧ w.cell? ⟨b, off + 3, none⟩ = some (.bool s.near) := by
  obtain ⟨h0, h1, h2, h3, _⟩ := h
  rw [Addr.add_lit] at h0 h1 h2 h3
  exact ⟨h0, h1, h2, h3⟩

set_option maxRecDepth 20000 in
set_option maxHeartbeats 4000000 in
theorem makes_walk {w : World} {v : Value} {l : List StepV} (h : Steps w v l) :
    Calls Try.prog 3 #[v] w fun e w' => e = .returned (.bool true) ∧ Below w.heap.size w w' := by
  obtain ⟨ao, cap, rfl, hl1, hl2, hl3, hst⟩ := h
  unfold maxLen at hl2
  by_cases hbig : 60 < l.length
  · have t1 : decide ((60 : Int) < (l.length : Int)) = true := decide_eq_true (by omega)
    clear hbig hst
    go_enter Try.func3, Try.ntmps3
    go_wp2_with fail
    go_ret
    exact ⟨rfl, Below.refl _ _⟩
  · have t1 : decide ((60 : Int) < (l.length : Int)) = false := decide_eq_false (by omega)
    have HL := Lib.hid (show l.length ≤ 60 by omega)
    have HST := Lib.hid hst
    clear hbig hst
    go_enter Try.func3, Try.ntmps3
    go_wp2_with fail
    refine (St.new w).mono ?_
    rintro e w1 ⟨tb, mb, rfl, s1⟩
    have hT0 := Two.new s1
    clear s1
    go_wp2_with fail
    go_loopw [5] (fun i wr => ∃ (j : Nat) (N : List Nd), j ≤ l.length ∧ i = .int .i64 j ∧ Two w wr tb mb w1.heap.size N ∧ N.length ≤ j) (fun i _ => l.length - (intOf i).toNat)
    case atStart => exact ⟨0, [], Nat.zero_le _, rfl, hT0, Nat.le_refl _⟩
    case round =>
      obtain ⟨j, N, hj, rfl, hT, hN⟩ := hrel
      by_cases hlt : j < l.length
      · obtain ⟨s, hs⟩ : ∃ s, l[j]? = some s := ⟨l[j], List.getElem?_eq_getElem hlt⟩
        cases ao with
        | none => have := hl3 rfl; omega
        | some a =>
          have hsa := HST.out a rfl j s hs
          obtain ⟨b, off, spot⟩ := a
          have hsp : spot = none := by
            have := (HST.out _ rfl 0 l[0] (List.getElem?_eq_getElem (by omega))).1
            simpa [Addr.add] using World.cell?_spot this
          subst hsp
          rw [Addr.add_lit] at hsa
          have hsr := hsa.below hT.prog.bel
          obtain ⟨c0, c1, c2, c3⟩ := hsr.cells
          have hrd := hsr.2.2.2.2
          have HBR := Lib.hid hT.prog.bel
          have HT := Lib.hid hT
          have hi : (j : Int) < (l.length : Int) := by omega
          obtain ⟨k, t, sao, cp, xs, near⟩ := s
          simp only at c0 c1 c2 c3 hrd
          clear hs hsa hsr hT hT0
          by_cases ht : 100 < t.size
          · have q1 : decide ((100 : Int) < (t.size : Int)) = true := decide_eq_true (by omega)
            clear hrd ht
            go_wp2_with fail
            go_ret
            exact ⟨rfl, HBR.out⟩
          · have q1 : decide ((100 : Int) < (t.size : Int)) = false := decide_eq_false (by omega)
            by_cases hx : 20 < xs.length
            · have q2 : decide ((20 : Int) < (xs.length : Int)) = true := decide_eq_true (by omega)
              clear hrd ht hx
              go_wp2_with fail
              go_ret
              exact ⟨rfl, HBR.out⟩
            · have q2 : decide ((20 : Int) < (xs.length : Int)) = false := decide_eq_false (by omega)
              have hd := do_any HT.out (by have := HL.out; omega) k t (by omega) near hrd (by omega)
              have hdl := (doN_len N k t near xs).2
              generalize doN N k t near xs = D at *
              have q3 : (D.1 != D.1) = false := by simp
              clear hrd ht hx
              go_wp2_with fail
              refine hd.mono ?_
              rintro e w5 ⟨rfl, t5, _⟩
              have HT5 := Lib.hid t5
              clear t5 hd
              go_wp2_with fail
              go_roundw
              case rel => exact ⟨j + 1, D.2, by omega, by go_num, HT5.out, by omega⟩
              case measure => simp [intOf]; omega
      · obtain rfl : j = l.length := by omega
        clear hT0
        have HT := Lib.hid hT
        have HN := Lib.hid hN
        obtain ⟨rv, R, r1, r2⟩ := hT.ref
        obtain ⟨tv, tx⟩ := hT.prog.tab
        obtain ⟨aor, cpr, rfl, _, _⟩ := own_shape r1.nodes
        have hRN : (R.length : Int) = (N.length : Int) := by rw [← r2, nds_len]
        have hr0 : wr.cell? ⟨w1.heap.size, 0, none⟩ = some (.slice aor R.length cpr) := (cell_of_row _ w1.heap.size 0 _ _ (0, 0) r1.tab).trans rfl
        have hsz := fun n => (Tab.size (w := wr.drewN n) (tx.at.keep (below_drewN (Below.refl _ _) n))).mono fun _ _ ⟨x, y⟩ => And.intro x y.symm
        have q1 : ((N.length : Int) != (N.length : Int)) = false := by simp
        clear hT hN tx r1 r2
        go_wp2_with fail
        go_quiet ((go_at_call 20; refine Calls.quiet_of_same (hsz _)))
        go_wp2_with fail
        clear hRN hr0 hsz q1
        go_loopw [8] (fun i w2 => ∃ z : Int, -1 ≤ z ∧ z ≤ (N.length : Int) + 2 ∧ i = .int .i64 z ∧ Two w w2 tb mb w1.heap.size N) (fun i _ => ((N.length : Int) + 2 - intOf i).toNat)
        case atStart => exact ⟨-1, Int.le_refl _, by omega, rfl, HT.out.keep (below_drewN (Below.refl _ _) nq)⟩
        case round =>
          obtain ⟨z, hz1, hz2, rfl, hT⟩ := hrel
          have HTR := Lib.hid hT
          obtain ⟨rv, R, r1, r2⟩ := hT.ref
          obtain ⟨tv, tx⟩ := hT.prog.tab
          have hR1 := Lib.hid r1
          have hR2 := Lib.hid r2
          obtain ⟨aor, cpr, rfl, _, hcpr⟩ := own_shape r1.nodes
          have hRN : (R.length : Int) = (N.length : Int) := by rw [← r2, nds_len]
          have HBR := Lib.hid hT.prog.bel
          rename World => w2
          have hr0 : w2.cell? ⟨w1.heap.size, 0, none⟩ = some (.slice aor R.length cpr) := (cell_of_row _ w1.heap.size 0 _ _ (0, 0) r1.tab).trans rfl
          have hnl := HN.out
          have hll := HL.out
          have e1 : wrap64 ((N.length : Int) + 1) = (N.length : Int) + 1 := by unfold wrap64; omega
          have ez : wrap64 (z + 1) = z + 1 := by unfold wrap64; omega
          by_cases hle : z ≤ (N.length : Int) + 1
          · by_cases hin : 1 ≤ z ∧ z ≤ (N.length : Int)
            · clear e1 ez
              have hnl2 : N.length ≤ 1000 := Nat.le_trans hnl (Nat.le_trans hll (by decide))
              obtain ⟨q, hq, rfl⟩ := place z N.length hin.1 hin.2
              obtain ⟨n, hn⟩ : ∃ n, N[q]? = some n := ⟨N[q], List.getElem?_eq_getElem hq⟩
              obtain ⟨hqR, d0, d1, d2, hqI⟩ := q_facts q N.length R.length hq hRN
              have c1 := Tab.look tx.at q n hn
              have hnd : R[q].1 = n := by
                rw [← r2] at hn
                unfold nds at hn
                rw [List.getElem?_map, List.getElem?_eq_getElem hqR] at hn
                exact Option.some.inj hn
              obtain ⟨g, cp2, e, hcp, hlc, k0, k1, k2⟩ := row_cell r1.nodes q hqR
              cases e
              have hpart := r1.parts R[q] (List.getElem_mem hqR)
              rw [hnd] at k0 k1 hpart
              obtain ⟨ap, cpp, hpv, _, _⟩ := own_shape hpart
              rw [hpv] at k2 hpart
              have q2 : toldN (n.1, n.2.1, n.2.2) (n.1, n.2.1, n.2.2) = true := by simp [toldN]
              have HPT := Lib.hid hpart
              have HQ := Lib.hid hq
              have hqN : q ≤ N.length := Nat.le_of_lt hq
              have hqL : q < N.length := hq
              have hnl3 : N.length ≤ 1000 := hnl2
              have HNL := Lib.hid hnl2
              clear tx r1 hT hin hnl hll hpart hpv hnd hn hq hnl2 hl1 hl2 hl3 hle hz1 hz2 hlc
              go_wp2_with fail
              refine c1.mono ?_
              rintro e w3 ⟨pv, rfl, ho3, b3⟩
              obtain ⟨a3, c3, rfl, _, _⟩ := own_shape ho3
              have HB3 := Lib.hid (b3.trans ((below_alloc w3 (.cells #[.int .i64 n.1, .string n.2.1, .slice a3 n.2.2.length c3] 38)).mono b3.size))
              have hr3 : (w3.alloc (.cells #[.int .i64 n.1, .string n.2.1, .slice a3 n.2.2.length c3] 38)).cell? ⟨w1.heap.size, 0, none⟩ = some (.slice (some ⟨g, 0, none⟩) R.length cpr) := by rw [HB3.out.cell (cell_lt hr0)]; exact hr0
              have m0 : (w3.alloc (.cells #[.int .i64 n.1, .string n.2.1, .slice a3 n.2.2.length c3] 38)).cell? ⟨g, q * 3, none⟩ = some (.int .i64 n.1) := by rw [HB3.out.cell (cell_lt k0)]; exact k0
              have m1 : (w3.alloc (.cells #[.int .i64 n.1, .string n.2.1, .slice a3 n.2.2.length c3] 38)).cell? ⟨g, q * 3 + 1, none⟩ = some (.string n.2.1) := by rw [HB3.out.cell (cell_lt k1)]; exact k1
              have m2 : (w3.alloc (.cells #[.int .i64 n.1, .string n.2.1, .slice a3 n.2.2.length c3] 38)).cell? ⟨g, q * 3 + 2, none⟩ = some (.slice ap n.2.2.length cpp) := by rw [HB3.out.cell (cell_lt k2)]; exact k2
              have c2 := told_any (w := (w3.alloc (.cells #[.int .i64 n.1, .string n.2.1, .slice a3 n.2.2.length c3] 38)).drew) (k1 := n.1) (k2 := n.1) (t1 := n.2.1) (t2 := n.2.1) (((Rd.of_own ho3).1.alloc (.cells #[.int .i64 n.1, .string n.2.1, .slice a3 n.2.2.length c3] 38)).below (Below.refl _ _).drew) (((Rd.of_own HPT.out).1.below HB3.out).below (Below.refl _ _).drew)
              rw [q2] at c2
              clear c1 b3 ho3 k0 k1 k2 hr0 q2
              go_wp2_with fail
              have hbx := heap_alloc_new w3 (.cells #[.int .i64 n.1, .string n.2.1, .slice a3 n.2.2.length c3] 38)
              have x0 : (w3.alloc (.cells #[.int .i64 n.1, .string n.2.1, .slice a3 n.2.2.length c3] 38)).cell? ⟨w3.heap.size, 0, none⟩ = some (.int .i64 n.1) := (cell_of_row _ w3.heap.size 0 _ 38 (0, 0) hbx).trans rfl
              have x1 : (w3.alloc (.cells #[.int .i64 n.1, .string n.2.1, .slice a3 n.2.2.length c3] 38)).cell? ⟨w3.heap.size, 1, none⟩ = some (.string n.2.1) := (cell_of_row _ w3.heap.size 1 _ 38 (0, 0) hbx).trans rfl
              have x2 : (w3.alloc (.cells #[.int .i64 n.1, .string n.2.1, .slice a3 n.2.2.length c3] 38)).cell? ⟨w3.heap.size, 2, none⟩ = some (.slice a3 n.2.2.length c3) := (cell_of_row _ w3.heap.size 2 _ 38 (0, 0) hbx).trans rfl
              clear hbx
              have hq0 : (0 : Int) ≤ (q : Int) := hqI.1
              have hq1 : (q : Int) < (N.length : Int) := hqI.2
              have hq2 : (q : Int) < (R.length : Int) := by omega
              have hw1 := wi_same q (Nat.le_trans hqN hnl3)
              go_region_held3 (fun w' => w'.cell? ⟨w1.heap.size, 0, none⟩ = some (.slice (some ⟨g, 0, none⟩) R.length cpr) ∧ w'.cell? ⟨g, q * 3, none⟩ = some (.int .i64 n.1) ∧ w'.cell? ⟨g, q * 3 + 1, none⟩ = some (.string n.2.1) ∧ w'.cell? ⟨g, q * 3 + 2, none⟩ = some (.slice ap n.2.2.length cpp) ∧ w'.cell? ⟨w3.heap.size, 0, none⟩ = some (.int .i64 n.1) ∧ w'.cell? ⟨w3.heap.size, 1, none⟩ = some (.string n.2.1) ∧ w'.cell? ⟨w3.heap.size, 2, none⟩ = some (.slice a3 n.2.2.length c3))
                (first | (refine ⟨?_, ?_, ?_, ?_, ?_, ?_, ?_⟩ <;> assumption) | (go_split_ands; refine ⟨?_, ?_, ?_, ?_, ?_, ?_, ?_⟩ <;> exact keepS b4 (by assumption)) | go_keep)
                ((go_at_call 22; refine c2.mono ?_; rintro e w4 ⟨rfl, b4⟩))
              all_goals
                clear hw1
                have HT4 := Lib.hid ((HTR.out.keep HB3.out).keep ((Below.refl _ _).drew.trans b4))
                clear b4
                go_wp2_with fail
                go_roundw
                case rel => exact ⟨(q : Int) + 1 + 1, by omega, (by have := HQ.out; omega), by go_num, HT4.out⟩
                case measure => simp [intOf]; have := HQ.out; omega
            · have c1 := Tab.look_no tx.at z (by omega)
              have q2 : toldN (0, ByteArray.empty, []) (0, ⟨#[]⟩, []) = true := by decide
              by_cases hz : z < 1
              · have d1 : decide (z < 1) = true := decide_eq_true hz
                clear tx r1 hT hin hnl hll
                go_wp2_with fail
                refine c1.mono ?_
                rintro e w3 ⟨rfl, b3⟩
                have HB3 := Lib.hid (b3.trans ((below_alloc w3 (.cells #[.int .i64 0, .string ByteArray.empty, .slice none 0 0] 38)).mono b3.size))
                have hr3 : (w3.alloc (.cells #[.int .i64 0, .string ByteArray.empty, .slice none 0 0] 38)).cell? ⟨w1.heap.size, 0, none⟩ = some (.slice aor R.length cpr) := by rw [HB3.out.cell (cell_lt hr0)]; exact hr0
                have c2 := told_any (w := w3.alloc (.cells #[.int .i64 0, .string ByteArray.empty, .slice none 0 0] 38)) (k1 := 0) (k2 := 0) (t1 := ByteArray.empty) (t2 := ⟨#[]⟩) (Rd.nil .i64 _) (Rd.nil .i64 _)
                rw [q2] at c2
                clear c1 b3
                go_wp2_with fail
                refine c2.mono ?_
                rintro e w4 ⟨rfl, b4⟩
                have HT4 := Lib.hid ((HTR.out.keep HB3.out).keep b4)
                clear c2 b4 hr3
                go_wp2_with fail
                go_roundw
                case rel => exact ⟨z + 1, by omega, by omega, by go_num, HT4.out⟩
                case measure => simp [intOf]; omega
              · have d1 : decide (z < 1) = false := decide_eq_false hz
                have d2 : decide ((N.length : Int) < z) = true := decide_eq_true (by omega)
                clear tx r1 hT hin hnl hll
                go_wp2_with fail
                refine c1.mono ?_
                rintro e w3 ⟨rfl, b3⟩
                have HB3 := Lib.hid (b3.trans ((below_alloc w3 (.cells #[.int .i64 0, .string ByteArray.empty, .slice none 0 0] 38)).mono b3.size))
                have hr3 : (w3.alloc (.cells #[.int .i64 0, .string ByteArray.empty, .slice none 0 0] 38)).cell? ⟨w1.heap.size, 0, none⟩ = some (.slice aor R.length cpr) := by rw [HB3.out.cell (cell_lt hr0)]; exact hr0
                have c2 := told_any (w := w3.alloc (.cells #[.int .i64 0, .string ByteArray.empty, .slice none 0 0] 38)) (k1 := 0) (k2 := 0) (t1 := ByteArray.empty) (t2 := ⟨#[]⟩) (Rd.nil .i64 _) (Rd.nil .i64 _)
                rw [q2] at c2
                clear c1 b3
                go_wp2_with fail
                refine c2.mono ?_
                rintro e w4 ⟨rfl, b4⟩
                have HT4 := Lib.hid ((HTR.out.keep HB3.out).keep b4)
                clear c2 b4 hr3
                go_wp2_with fail
                go_roundw
                case rel => exact ⟨z + 1, by omega, by omega, by go_num, HT4.out⟩
                case measure => simp [intOf]; omega
          · have d0 : decide (z ≤ (N.length : Int) + 1) = false := decide_eq_false hle
            clear tx r1 hT hnl hll
            go_wp2_with fail
            refine (awake_any w2).mono ?_
            rintro e w3 ⟨rfl, b3⟩
            go_wp2_with fail
            go_ret
            exact ⟨rfl, HBR.out.trans (b3.mono HBR.out.size)⟩
#print axioms makes_walk
end Go.Proofs.Ytbhfilmbokaboaa
