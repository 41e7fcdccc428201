/- secrets tells the parts of a shared term: both secrets, the smaller number first. -/
import Derived.Test.YtepkhhpdpmhfaaaDoorZTNumber
import Derived.Deep.QuietTactic
import Derived.BigQuiet
namespace Go.Proofs.YtepkhhpdpmhfaaaDoor.T
open Go Go.RowKit

theorem info3 : (Tryd.prog.info? 3).map (fun i => (i.zero, i.size, i.bytes)) = some (some (.int .i64 0), 1, 8) := by kernel_rfl
/-- The kinds that the parts of a term of kind k have to be of, where n parts are given: 0 stands for any. -/
def askL (k : Int) (n : Nat) : Option (List Int) :=
  if k = 3 then if 16 < n then none else some (List.replicate n 0)
  else if k = 4 then some [0] else if k = 5 then some [0, 0] else if k = 6 ∨ k = 10 then some [0, 1, 0]
  else if k = 7 then some [2] else if k = 8 then some [2, 7] else if k = 9 then some [2, 0] else none

/-- What asks leaves. -/
def Asked (w : World) (r : Option (List Int)) (e : Ending) (w' : World) : Prop :=
  Below w.heap.size w w' ∧ match r with
    | none => e = .returned (.tuple #[.slice none 0 0, .bool false])
    | some l => ∃ v, e = .returned (.tuple #[v, .bool true]) ∧ Rd .i64 w' v l

set_option maxHeartbeats 1000000 in
set_option maxRecDepth 20000 in
theorem asks_any {w : World} (k : Int) (n : Nat) (hn : n ≤ 1000000) : Calls Tryd.prog 57 #[.int .i64 k, .int .i64 n] w fun e w' => Asked w (askL k n) e w' := by
  by_cases h3 : k = 3
  · subst h3
    by_cases h16 : 16 < n
    · have E : Hid (askL 3 n = none) := Lib.hid (by simp [askL, h16])
      have h16' : (16 : Int) < (n : Int) := by omega
      clear h16
      go_enter Tryd.func57, Tryd.ntmps57
      go_wp2
      go_ret2
      rw [E.out]
      exact ⟨Below.refl _ _, rfl⟩
    · have E : Hid (askL 3 n = some (List.replicate n 0)) := Lib.hid (by simp [askL, h16])
      have h16' : ¬ (16 : Int) < (n : Int) := by omega
      clear h16
      obtain ⟨i, hi, hz0, hz1, hz2⟩ := info_parts info3
      go_enter Tryd.func57, Tryd.ntmps57
      go_wp2_with (at_make; refine wpList_make_full _ rfl _ _ 117 rfl w.heap.size 3 i (.int .i64 0) 1 Tryd.underlying117 hi hz0 hz1 .i64 .i64 _ _ n rfl rfl rfl rfl (by rw [hz2]; omega) (by unfold maxLen; omega) (Nat.le_refl _) ?_; intro w1 hown1 hg1)
      go_ret2
      rw [E.out]
      refine ⟨below_made hg1, _, rfl, ?_⟩
      have e : (madeCells (Value.int .i64 0).cells (n * 1)).toList = cs .i64 (List.replicate n 0) := by
        rw [Nat.mul_one]; exact (toList_madeCells_one _ n).trans (by simp [cs])
      rw [e] at hown1
      exact (Rd.of_own hown1).1
  · have lit : ∀ (l : List Int), l.length ≤ 1000 → Rd .i64 (w.alloc (.cells (cs .i64 l).toArray 3)) (.slice (some ⟨w.heap.size, 0, none⟩) l.length l.length) l := fun l hl => Rd.lit .i64 3 w l hl
    have LIT := Lib.hid lit
    clear lit
    by_cases h4 : k = 4
    · subst h4
      have E : Hid (askL 4 n = some [0]) := Lib.hid (by simp [askL])
      clear h3
      go_enter Tryd.func57, Tryd.ntmps57
      go_wp2
      go_ret2
      rw [E.out]
      exact ⟨below_alloc _ _, _, rfl, LIT.out [0] (by decide)⟩
    · by_cases h5 : k = 5
      · subst h5
        have E : Hid (askL 5 n = some [0, 0]) := Lib.hid (by simp [askL])
        clear h3 h4
        go_enter Tryd.func57, Tryd.ntmps57
        go_wp2
        go_ret2
        rw [E.out]
        exact ⟨below_alloc _ _, _, rfl, LIT.out [0, 0] (by decide)⟩
      · by_cases h6 : k = 6
        · subst h6
          have E : Hid (askL 6 n = some [0, 1, 0]) := Lib.hid (by simp [askL])
          clear h3 h4 h5
          go_enter Tryd.func57, Tryd.ntmps57
          go_wp2
          go_ret2
          rw [E.out]
          exact ⟨below_alloc _ _, _, rfl, LIT.out [0, 1, 0] (by decide)⟩
        · by_cases h10 : k = 10
          · subst h10
            have E : Hid (askL 10 n = some [0, 1, 0]) := Lib.hid (by simp [askL])
            clear h3 h4 h5 h6
            go_enter Tryd.func57, Tryd.ntmps57
            go_wp2
            go_ret2
            rw [E.out]
            exact ⟨below_alloc _ _, _, rfl, LIT.out [0, 1, 0] (by decide)⟩
          · by_cases h7 : k = 7
            · subst h7
              have E : Hid (askL 7 n = some [2]) := Lib.hid (by simp [askL])
              clear h3 h4 h5 h6 h10
              go_enter Tryd.func57, Tryd.ntmps57
              go_wp2
              go_ret2
              rw [E.out]
              exact ⟨below_alloc _ _, _, rfl, LIT.out [2] (by decide)⟩
            · by_cases h8 : k = 8
              · subst h8
                have E : Hid (askL 8 n = some [2, 7]) := Lib.hid (by simp [askL])
                clear h3 h4 h5 h6 h10 h7
                go_enter Tryd.func57, Tryd.ntmps57
                go_wp2
                go_ret2
                rw [E.out]
                exact ⟨below_alloc _ _, _, rfl, LIT.out [2, 7] (by decide)⟩
              · by_cases h9 : k = 9
                · subst h9
                  have E : Hid (askL 9 n = some [2, 0]) := Lib.hid (by simp [askL])
                  clear h3 h4 h5 h6 h10 h7 h8
                  go_enter Tryd.func57, Tryd.ntmps57
                  go_wp2
                  go_ret2
                  rw [E.out]
                  exact ⟨below_alloc _ _, _, rfl, LIT.out [2, 0] (by decide)⟩
                · have E : Hid (askL k n = none) := Lib.hid (by simp [askL, h3, h4, h5, h6, h7, h8, h9, h10])
                  have b3 : (k == 3) = false := beq_eq_false_iff_ne.2 h3
                  have b4 : (k == 4) = false := beq_eq_false_iff_ne.2 h4
                  have b5 : (k == 5) = false := beq_eq_false_iff_ne.2 h5
                  have b6 : (k == 6) = false := beq_eq_false_iff_ne.2 h6
                  have b7 : (k == 7) = false := beq_eq_false_iff_ne.2 h7
                  have b8 : (k == 8) = false := beq_eq_false_iff_ne.2 h8
                  have b9 : (k == 9) = false := beq_eq_false_iff_ne.2 h9
                  have b10 : (k == 10) = false := beq_eq_false_iff_ne.2 h10
                  clear h3 h4 h5 h6 h7 h8 h9 h10
                  go_enter Tryd.func57, Tryd.ntmps57
                  go_wp2
                  go_ret2
                  rw [E.out]
                  exact ⟨Below.refl _ _, rfl⟩
#print axioms asks_any
end Go.Proofs.YtepkhhpdpmhfaaaDoor.T
namespace Go.Proofs.YtepkhhpdpmhfaaaDoor.T
open Go Go.RowKit

/-- The kind of the term of number h; 0: there is none. -/
def kindOf (L : List (Nd × Value)) (h : Int) : Int := if h < 1 then 0 else match L[(h - 1).toNat]? with
  | some p => p.1.1
  | none => 0
/-- A part that may stand where a is asked for. -/
def OkAt (L : List (Nd × Value)) (a p : Int) : Prop := (1 ≤ p ∧ p ≤ (L.length : Int)) ∧ (a = 0 ∨ a = kindOf L p)
/-- A term of kind k may have the parts ps. -/
def Fits (L : List (Nd × Value)) (k : Int) (ps : List Int) : Prop := ∃ l, askL k ps.length = some l ∧ l.length = ps.length ∧ ∀ j, j < ps.length → OkAt L (l.getD j 0) (ps.getD j 0)

/-- What fits leaves. -/
def Fitted (w : World) (L : List (Nd × Value)) (k : Int) (ps : List Int) (e : Ending) (w' : World) : Prop :=
  ∃ b : Bool, e = .returned (.bool b) ∧ (b = true ↔ Fits L k ps) ∧ Below w.heap.size w w'

theorem node_cell {w : World} {B tb mb : Nat} {nv : Value} {L : List (Nd × Value)} {f : Int → ByteArray → List Int → Option Int} (h : Tbl w B tb mb nv L f) (q : Nat) (hq : q < L.length) :
    ∃ g cap, nv = .slice (some ⟨g, 0, none⟩) L.length cap ∧ cap ≤ 9223372036854775807 ∧ L.length ≤ cap ∧ w.cell? ⟨g, q * 3, none⟩ = some (.int .i64 L[q].1.1) ∧ w.cell? ⟨g, q * 3 + 1, none⟩ = some (.string L[q].1.2.1) ∧ w.cell? ⟨g, q * 3 + 2, none⟩ = some L[q].2 := by
  rcases h.nodes.2 with ⟨_, h0⟩ | ⟨g, cap, cur, rfl, _, _, h1, h2, _⟩
  · omega
  · obtain ⟨e1, e2, e3⟩ := ncells_get L q L[q] (List.getElem?_eq_getElem hq)
    refine ⟨g, cap, rfl, by unfold maxLen at h2; omega, h1, ?_, ?_, ?_⟩
    · rw [h.nodes.cellAt _ (by omega)]; exact e1
    · rw [h.nodes.cellAt _ (by omega)]; exact e2
    · rw [h.nodes.cellAt _ (by omega)]; exact e3

set_option maxHeartbeats 2000000 in
set_option maxRecDepth 20000 in
theorem fits_any {w : World} {B tb mb : Nat} {nv : Value} {L : List (Nd × Value)} {f : Int → ByteArray → List Int → Option Int} (h : Tbl w B tb mb nv L f) (k : Int) {pv : Value} {ps : List Int} (hp : Rd .i64 w pv ps) (hl : ps.length ≤ 1000000) :
    Calls Tryd.prog 44 #[.pointer (some ⟨tb, 0, none⟩), .int .i64 k, pv] w fun e w' => Fitted w L k ps e w' := by
  have hA := asks_any (w := w) k ps.length hl
  have hp' := hp
  obtain ⟨ao, cap, rfl, _⟩ := hp'
  cases hask : askL k ps.length with
  | none =>
    have HF : Hid (¬ Fits L k ps) := Lib.hid (by rintro ⟨l, h1, _⟩; rw [hask] at h1; cases h1)
    rw [hask] at hA
    clear h hp hask
    go_enter Tryd.func44, Tryd.ntmps44
    go_wp2_with fail
    refine hA.mono ?_
    rintro e w1 ⟨hb1, rfl⟩
    go_wp2_with fail
    go_ret
    exact ⟨false, rfl, ⟨(fun h => by cases h), fun h => absurd h HF.out⟩, hb1⟩
  | some l =>
    rw [hask] at hA
    have HASK := Lib.hid hask
    clear hask
    by_cases hll : l.length = ps.length
    · have HLL := Lib.hid hll
      have hne : ((l.length : Int) != (ps.length : Int)) = false := by rw [hll]; simp
      clear hll
      obtain ⟨ao0, cap0, hnv, _⟩ := own_shape h.nodes
      go_enter Tryd.func44, Tryd.ntmps44
      go_wp2_with fail
      refine hA.mono ?_
      rintro e w1 ⟨hb1, v, rfl, hr1⟩
      have hr1' := hr1
      obtain ⟨av, capv, rfl, _⟩ := hr1'
      have h1 := h.keep hb1
      have hp1 := hp.below hb1
      have HPS : ps.length ≤ 1000000 := hl
      go_wp2_with fail
      go_loopw [29] (fun i wr => ∃ j : Nat, j ≤ ps.length ∧ i = .int .i64 j ∧ (∀ q, q < j → OkAt L (l.getD q 0) (ps.getD q 0)) ∧ Below w1.heap.size w1 wr) (fun i _ => ps.length - (intOf i).toNat)
      case atStart => exact ⟨0, Nat.zero_le _, rfl, fun q hq => absurd hq (Nat.not_lt_zero q), Below.refl _ _⟩
      case round =>
        obtain ⟨j, hj, rfl, hall, hb⟩ := hrel
        have HALL := Lib.hid hall
        clear hall
        by_cases hlt : j < ps.length
        · have hT := h1.keep hb
          have hlj : j < l.length := by have := HLL.out; omega
          obtain ⟨b, off, hao, hcb⟩ : ∃ b off, ao = some ⟨b, off, none⟩ ∧ wr.cell? ⟨b, off + j, none⟩ = some (.int .i64 (ps.getD j 0)) := by
            rcases (hp1.below hb).cases with ⟨h0, _⟩ | ⟨b, off, c, hv, _, _, _, _, hc⟩
            · rw [h0] at hlt; simp at hlt
            · simp only [Value.slice.injEq] at hv
              exact ⟨b, off, hv.1, hc j hlt⟩
          obtain ⟨b2, off2, hav, hca⟩ : ∃ b off, av = some ⟨b, off, none⟩ ∧ wr.cell? ⟨b, off + j, none⟩ = some (.int .i64 (l.getD j 0)) := by
            rcases (hr1.below hb).cases with ⟨h0, _⟩ | ⟨b, off, c, hv, _, _, _, _, hc⟩
            · rw [h0] at hlj; simp at hlj
            · simp only [Value.slice.injEq] at hv
              exact ⟨b, off, hv.1, hc j hlj⟩
          subst hao
          subst hav
          generalize hP : ps.getD j 0 = P at *
          generalize hA' : l.getD j 0 = A at *
          have HP := Lib.hid hP
          have HA := Lib.hid hA'
          clear hP hA' h hp h1 hp1 hr1
          have hljI : (j : Int) < (l.length : Int) := by omega
          have HE : ∀ P A, ps.getD j 0 = P → l.getD j 0 = A → ¬ OkAt L A P → ¬ Fits L k ps := by
            intro P A hP hA hno ⟨l', e1, _, e3⟩
            rw [HASK.out] at e1
            cases e1
            exact hno (by rw [← hP, ← hA]; exact e3 j hlt)
          have HE' := Lib.hid HE
          clear HE
          by_cases hin : 1 ≤ P ∧ P ≤ (L.length : Int)
          · obtain ⟨q, rfl⟩ : ∃ q : Nat, P = (q : Int) + 1 := ⟨(P - 1).toNat, by omega⟩
            have hqL : q < L.length := by omega
            have hy := has_yes hT ((q : Int) + 1) hin.1 hin.2
            obtain ⟨g, c, hnv', hc9, hLc, hcell, _⟩ := node_cell hT q hqL
            have hc0 : wr.cell? ⟨tb, 0, none⟩ = some nv := by simp [World.cell?, hT.tab]
            have hko : kindOf L ((q : Int) + 1) = L[q].1.1 := by
              unfold kindOf
              rw [if_neg (by omega)]
              simp [hqL]
            have HKO := Lib.hid hko
            have HIN := Lib.hid hin
            have hqI : (q : Int) < (L.length : Int) := by omega
            subst hnv'
            clear hnv hko hin hT
            generalize L[q].1.1 = KQ at *
            by_cases hA0 : A = 0
            · subst hA0
              go_wp2_with (go_at_call 33; refine hy.mono ?_; rintro e w' ⟨rfl, rfl⟩)
              go_quiet (fail)
              go_wp2
              go_roundw
              case rel =>
                refine ⟨j + 1, by omega, by go_num, fun q' hq' => ?_, below_drewN hb nq⟩
                rcases Nat.lt_succ_iff_lt_or_eq.1 hq' with hq' | rfl
                · exact HALL.out q' hq'
                · rw [HP.out, HA.out]
                  exact ⟨HIN.out, .inl rfl⟩
              case measure => simp [intOf]; omega
            · have hA1 : (A != 0) = true := by rw [bne_iff_ne]; exact hA0
              by_cases hAK : A = KQ
              · subst hAK
                have hA2 : (A != A) = false := by simp
                clear hA0
                go_wp2_with (go_at_call 33; refine hy.mono ?_; rintro e w' ⟨rfl, rfl⟩)
                go_quiet (fail)
                go_wp2
                go_roundw
                case rel =>
                  refine ⟨j + 1, by omega, by go_num, fun q' hq' => ?_, below_drewN hb nq⟩
                  rcases Nat.lt_succ_iff_lt_or_eq.1 hq' with hq' | rfl
                  · exact HALL.out q' hq'
                  · rw [HP.out, HA.out]
                    exact ⟨HIN.out, .inr HKO.out.symm⟩
                case measure => simp [intOf]; omega
              · have hA2 : (A != KQ) = true := by rw [bne_iff_ne]; exact hAK
                have HNO := Lib.hid (HE'.out _ _ HP.out HA.out (fun h => by
                  rcases h.2 with h | h
                  · exact hA0 h
                  · rw [HKO.out] at h; exact hAK h))
                clear hA0 hAK
                go_wp2_with (go_at_call 33; refine hy.mono ?_; rintro e w' ⟨rfl, rfl⟩)
                go_quiet (fail)
                go_wp2
                go_ret
                exact ⟨false, rfl, ⟨(fun h => by cases h), fun h => absurd h HNO.out⟩, hb1.trans ((below_drewN hb _).mono hb1.size)⟩
          · have hy := has_no hT P (by omega)
            have HNO := Lib.hid (HE'.out _ _ HP.out HA.out (fun h => hin h.1))
            clear hin
            go_wp2_with (go_at_call 33; refine hy.mono ?_; rintro e w' ⟨rfl, rfl⟩)
            go_ret
            exact ⟨false, rfl, ⟨(fun h => by cases h), fun h => absurd h HNO.out⟩, hb1.trans (hb.mono hb1.size)⟩
        · obtain rfl : j = ps.length := by omega
          clear h hp h1 hp1 hr1
          go_wp2_with fail
          go_ret
          exact ⟨true, rfl, ⟨fun _ => ⟨l, HASK.out, HLL.out, HALL.out⟩, fun _ => rfl⟩, hb1.trans (hb.mono hb1.size)⟩
    · have HF : Hid (¬ Fits L k ps) := Lib.hid (by rintro ⟨l', h1, h2, _⟩; rw [HASK.out] at h1; cases h1; exact hll h2)
      have hne : ((l.length : Int) != (ps.length : Int)) = true := by rw [bne_iff_ne]; omega
      clear h hp hll
      go_enter Tryd.func44, Tryd.ntmps44
      go_wp2_with fail
      refine hA.mono ?_
      rintro e w1 ⟨hb1, v, rfl, hr1⟩
      obtain ⟨av, capv, rfl, _⟩ := hr1
      go_wp2_with fail
      go_ret
      exact ⟨false, rfl, ⟨(fun h => by cases h), fun h => absurd h HF.out⟩, hb1⟩
#print axioms fits_any
end Go.Proofs.YtepkhhpdpmhfaaaDoor.T
namespace Go.Proofs.YtepkhhpdpmhfaaaDoor.T
open Go Go.RowKit

set_option maxHeartbeats 1000000 in
set_option maxRecDepth 20000 in
theorem secrets_any {w : World} {B tb mb : Nat} {nv : Value} {L : List (Nd × Value)} {f : Int → ByteArray → List Int → Option Int} (h : Tbl w B tb mb nv L f) (x : Int) (q : Nat) (hq : q < L.length) (o : Int) (ho : L[q].1.2.2 = [o]) :
    Calls Tryd.prog 45 #[.pointer (some ⟨tb, 0, none⟩), .int .i64 x, .int .i64 ((q : Int) + 1)] w fun e w' => ∃ v, e = .returned v ∧ w'.ownsRow w.heap.size 27 1 v 2 (cs .i64 [min x o, max x o]) ∧ Below w.heap.size w w' := by
  obtain ⟨g, c, hnv', hc9, hLc, _, _, hcell⟩ := node_cell h q hq
  have hc0 : w.cell? ⟨tb, 0, none⟩ = some nv := by simp [World.cell?, h.tab]
  have hpart := h.parts L[q] (List.getElem_mem hq)
  rw [ho] at hpart
  obtain ⟨pg, pc, hpv, hpc⟩ : ∃ pg pc, L[q].2 = .slice (some ⟨pg, 0, none⟩) 1 pc ∧ w.cell? ⟨pg, 0, none⟩ = some (.int .i64 o) := by
    rcases hpart.2 with ⟨_, h0⟩ | ⟨pg, pc, cur, hv, _⟩
    · simp at h0
    · refine ⟨pg, pc, hv, ?_⟩
      rw [hv] at hpart
      rw [hpart.cellAt 0 (by simp)]; rfl
  rw [hpv] at hcell
  subst hnv'
  have hqI : (q : Int) < (L.length : Int) := by omega
  clear h hpart hpv ho
  have key : ∀ a b : Int, (w.alloc (.cells #[.int .i64 a, .int .i64 b] 27)).ownsRow w.heap.size 27 1 (.slice (some ⟨w.heap.size, 0, none⟩) 2 2) 2 (cs .i64 [a, b]) := fun a b => own_lit .i64 27 w [a, b] (by simp)
  have KEY := Lib.hid key
  clear key
  by_cases h1 : x < o
  · rw [Int.min_eq_left (by omega), Int.max_eq_right (by omega)]
    have h2 : x ≤ o := by omega
    go_enter Tryd.func45, Tryd.ntmps45
    go_wp2
    go_ret
    exact ⟨_, rfl, KEY.out x o, below_alloc _ _⟩
  · by_cases h2 : x = o
    · subst h2
      rw [Int.min_eq_left (by omega), Int.max_eq_right (by omega)]
      go_enter Tryd.func45, Tryd.ntmps45
      go_wp2
      go_ret
      exact ⟨_, rfl, KEY.out x x, below_alloc _ _⟩
    · rw [Int.min_eq_right (by omega), Int.max_eq_left (by omega)]
      have h3 : o < x := by omega
      go_enter Tryd.func45, Tryd.ntmps45
      go_wp2
      go_ret
      exact ⟨_, rfl, KEY.out o x, below_alloc _ _⟩
#print axioms secrets_any
end Go.Proofs.YtepkhhpdpmhfaaaDoor.T
