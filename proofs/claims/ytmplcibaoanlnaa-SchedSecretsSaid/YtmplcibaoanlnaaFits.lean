/- fits tells whether a term of a kind may have parts. -/
import Derived.Test.YtmplcibaoanlnaaAsks
import Derived.Deep.QuietTactic
import Derived.BigQuiet
namespace Go.Proofs.Ytmplcibaoanlnaa
open Go Go.RowKit

/-- The kind of the term of number h; 0: there is none. -/
def kindOf (L : List (Nd × Value)) (h : Int) : Int := if h < 1 then 0 else match L[(h - 1).toNat]? with
  | some p => p.1.1
  | none => 0
/-- A part that may stand where a is asked for. -/
def OkAt (L : List (Nd × Value)) (a p : Int) : Prop := (1 ≤ p ∧ p ≤ (L.length : Int)) ∧ (a = 0 ∨ a = kindOf L p)
/-- A term of kind k may have the parts ps. -/
def Fits (L : List (Nd × Value)) (k : Int) (ps : List Int) : Prop := ∃ l, askL k ps.length = some l ∧ l.length = ps.length ∧ ∀ j, j < ps.length → OkAt L (l.getD j 0) (ps.getD j 0)

/-- What fits leaves. -/
def Fitted (w : World) (L : List (Nd × Value)) (k : Int) (ps : List Int) (e : Ending) (w' : World) : Prop :=
  ∃ b : Bool, e = .returned (.bool b) ∧ (b = true ↔ Fits L k ps) ∧ Below w.heap.size w w'

theorem node_cell {w : World} {B tb mb : Nat} {nv : Value} {L : List (Nd × Value)} {f : Int → ByteArray → List Int → Option Int} (h : Tbl w B tb mb nv L f) (q : Nat) (hq : q < L.length) :
    ∃ g cap, nv = .slice (some ⟨g, 0, none⟩) L.length cap ∧ cap ≤ 9223372036854775807 ∧ L.length ≤ cap ∧ w.cell? ⟨g, q * 3, none⟩ = some (.int .i64 L[q].1.1) ∧ w.cell? ⟨g, q * 3 + 1, none⟩ = some (.string L[q].1.2.1) ∧ w.cell? ⟨g, q * 3 + 2, none⟩ = some L[q].2 := by
  rcases h.nodes.2 with ⟨_, h0⟩ | ⟨g, cap, cur, rfl, _, _, h1, h2, _⟩
  · omega
  · obtain ⟨e1, e2, e3⟩ := ncells_get L q L[q] (List.getElem?_eq_getElem hq)
    refine ⟨g, cap, rfl, by unfold maxLen at h2; omega, h1, ?_, ?_, ?_⟩
    · rw [h.nodes.cellAt _ (by omega)]; exact e1
    · rw [h.nodes.cellAt _ (by omega)]; exact e2
    · rw [h.nodes.cellAt _ (by omega)]; exact e3

set_option maxHeartbeats 2000000 in
set_option maxRecDepth 20000 in
theorem fits_any {w : World} {B tb mb : Nat} {nv : Value} {L : List (Nd × Value)} {f : Int → ByteArray → List Int → Option Int} (h : Tbl w B tb mb nv L f) (k : Int) {pv : Value} {ps : List Int} (hp : Rd .i64 w pv ps) (hl : ps.length ≤ 1000000) :
    Calls Try.prog 21 #[.pointer (some ⟨tb, 0, none⟩), .int .i64 k, pv] w fun e w' => Fitted w L k ps e w' := by
  have hA := asks_any (w := w) k ps.length hl
  have hp' := hp
  obtain ⟨ao, cap, rfl, _⟩ := hp'
  cases hask : askL k ps.length with
  | none =>
    have HF : Hid (¬ Fits L k ps) := Lib.hid (by rintro ⟨l, h1, _⟩; rw [hask] at h1; cases h1)
    rw [hask] at hA
    clear h hp hask
    go_enter Try.func21, Try.ntmps21
    go_wp2_with fail
    refine hA.mono ?_
    rintro e w1 ⟨hb1, rfl⟩
    go_wp2_with fail
    go_ret
    exact ⟨false, rfl, ⟨(fun h => by cases h), fun h => absurd h HF.out⟩, hb1⟩
  | some l =>
    rw [hask] at hA
    have HASK := Lib.hid hask
    clear hask
    by_cases hll : l.length = ps.length
    · have HLL := Lib.hid hll
      have hne : ((l.length : Int) != (ps.length : Int)) = false := by rw [hll]; simp
      clear hll
      obtain ⟨ao0, cap0, hnv, _⟩ := own_shape h.nodes
      go_enter Try.func21, Try.ntmps21
      go_wp2_with fail
      refine hA.mono ?_
      rintro e w1 ⟨hb1, v, rfl, hr1⟩
      have hr1' := hr1
      obtain ⟨av, capv, rfl, _⟩ := hr1'
      have h1 := h.keep hb1
      have hp1 := hp.below hb1
      have HPS : ps.length ≤ 1000000 := hl
      go_wp2_with fail
      go_loopw [29] (fun i wr => ∃ j : Nat, j ≤ ps.length ∧ i = .int .i64 j ∧ (∀ q, q < j → OkAt L (l.getD q 0) (ps.getD q 0)) ∧ Below w1.heap.size w1 wr) (fun i _ => ps.length - (intOf i).toNat)
      case atStart => exact ⟨0, Nat.zero_le _, rfl, fun q hq => absurd hq (Nat.not_lt_zero q), Below.refl _ _⟩
      case round =>
        obtain ⟨j, hj, rfl, hall, hb⟩ := hrel
        have HALL := Lib.hid hall
        clear hall
        by_cases hlt : j < ps.length
        · have hT := h1.keep hb
          have hlj : j < l.length := by have := HLL.out; omega
          obtain ⟨b, off, hao, hcb⟩ : ∃ b off, ao = some ⟨b, off, none⟩ ∧ wr.cell? ⟨b, off + j, none⟩ = some (.int .i64 (ps.getD j 0)) := by
            rcases (hp1.below hb).cases with ⟨h0, _⟩ | ⟨b, off, c, hv, _, _, _, _, hc⟩
            · rw [h0] at hlt; simp at hlt
            · simp only [Value.slice.injEq] at hv
              exact ⟨b, off, hv.1, hc j hlt⟩
          obtain ⟨b2, off2, hav, hca⟩ : ∃ b off, av = some ⟨b, off, none⟩ ∧ wr.cell? ⟨b, off + j, none⟩ = some (.int .i64 (l.getD j 0)) := by
            rcases (hr1.below hb).cases with ⟨h0, _⟩ | ⟨b, off, c, hv, _, _, _, _, hc⟩
            · rw [h0] at hlj; simp at hlj
            · simp only [Value.slice.injEq] at hv
              exact ⟨b, off, hv.1, hc j hlj⟩
          subst hao
          subst hav
          generalize hP : ps.getD j 0 = P at *
          generalize hA' : l.getD j 0 = A at *
          have HP := Lib.hid hP
          have HA := Lib.hid hA'
          clear hP hA' h hp h1 hp1 hr1
          have hljI : (j : Int) < (l.length : Int) := by omega
          have HE : ∀ P A, ps.getD j 0 = P → l.getD j 0 = A → ¬ OkAt L A P → ¬ Fits L k ps := by
            intro P A hP hA hno ⟨l', e1, _, e3⟩
            rw [HASK.out] at e1
            cases e1
            exact hno (by rw [← hP, ← hA]; exact e3 j hlt)
          have HE' := Lib.hid HE
          clear HE
          by_cases hin : 1 ≤ P ∧ P ≤ (L.length : Int)
          · obtain ⟨q, rfl⟩ : ∃ q : Nat, P = (q : Int) + 1 := ⟨(P - 1).toNat, by omega⟩
            have hqL : q < L.length := by omega
            have hy := has_yes hT ((q : Int) + 1) hin.1 hin.2
            obtain ⟨g, c, hnv', hc9, hLc, hcell, _⟩ := node_cell hT q hqL
            have hc0 : wr.cell? ⟨tb, 0, none⟩ = some nv := by simp [World.cell?, hT.tab]
            have hko : kindOf L ((q : Int) + 1) = L[q].1.1 := by
              unfold kindOf
              rw [if_neg (by omega)]
              simp [hqL]
            have HKO := Lib.hid hko
            have HIN := Lib.hid hin
            have hqI : (q : Int) < (L.length : Int) := by omega
            subst hnv'
            clear hnv hko hin hT
            generalize L[q].1.1 = KQ at *
            by_cases hA0 : A = 0
            · subst hA0
              go_wp2_with (go_at_call 33; refine hy.mono ?_; rintro e w' ⟨rfl, rfl⟩)
              go_quiet (fail)
              go_wp2
              go_roundw
              case rel =>
                refine ⟨j + 1, by omega, by go_num, fun q' hq' => ?_, below_drewN hb nq⟩
                rcases Nat.lt_succ_iff_lt_or_eq.1 hq' with hq' | rfl
                · exact HALL.out q' hq'
                · rw [HP.out, HA.out]
                  exact ⟨HIN.out, .inl rfl⟩
              case measure => simp [intOf]; omega
            · have hA1 : (A != 0) = true := by rw [bne_iff_ne]; exact hA0
              by_cases hAK : A = KQ
              · subst hAK
                have hA2 : (A != A) = false := by simp
                clear hA0
                go_wp2_with (go_at_call 33; refine hy.mono ?_; rintro e w' ⟨rfl, rfl⟩)
                go_quiet (fail)
                go_wp2
                go_roundw
                case rel =>
                  refine ⟨j + 1, by omega, by go_num, fun q' hq' => ?_, below_drewN hb nq⟩
                  rcases Nat.lt_succ_iff_lt_or_eq.1 hq' with hq' | rfl
                  · exact HALL.out q' hq'
                  · rw [HP.out, HA.out]
                    exact ⟨HIN.out, .inr HKO.out.symm⟩
                case measure => simp [intOf]; omega
              · have hA2 : (A != KQ) = true := by rw [bne_iff_ne]; exact hAK
                have HNO := Lib.hid (HE'.out _ _ HP.out HA.out (fun h => by
                  rcases h.2 with h | h
                  · exact hA0 h
                  · rw [HKO.out] at h; exact hAK h))
                clear hA0 hAK
                go_wp2_with (go_at_call 33; refine hy.mono ?_; rintro e w' ⟨rfl, rfl⟩)
                go_quiet (fail)
                go_wp2
                go_ret
                exact ⟨false, rfl, ⟨(fun h => by cases h), fun h => absurd h HNO.out⟩, hb1.trans ((below_drewN hb _).mono hb1.size)⟩
          · have hy := has_no hT P (by omega)
            have HNO := Lib.hid (HE'.out _ _ HP.out HA.out (fun h => hin h.1))
            clear hin
            go_wp2_with (go_at_call 33; refine hy.mono ?_; rintro e w' ⟨rfl, rfl⟩)
            go_ret
            exact ⟨false, rfl, ⟨(fun h => by cases h), fun h => absurd h HNO.out⟩, hb1.trans (hb.mono hb1.size)⟩
        · obtain rfl : j = ps.length := by omega
          clear h hp h1 hp1 hr1
          go_wp2_with fail
          go_ret
          exact ⟨true, rfl, ⟨fun _ => ⟨l, HASK.out, HLL.out, HALL.out⟩, fun _ => rfl⟩, hb1.trans (hb.mono hb1.size)⟩
    · have HF : Hid (¬ Fits L k ps) := Lib.hid (by rintro ⟨l', h1, h2, _⟩; rw [HASK.out] at h1; cases h1; exact hll h2)
      have hne : ((l.length : Int) != (ps.length : Int)) = true := by rw [bne_iff_ne]; omega
      clear h hp hll
      go_enter Try.func21, Try.ntmps21
      go_wp2_with fail
      refine hA.mono ?_
      rintro e w1 ⟨hb1, v, rfl, hr1⟩
      obtain ⟨av, capv, rfl, _⟩ := hr1
      go_wp2_with fail
      go_ret
      exact ⟨false, rfl, ⟨(fun h => by cases h), fun h => absurd h HF.out⟩, hb1⟩
#print axioms fits_any
end Go.Proofs.Ytmplcibaoanlnaa
