/- What one that has risen changes: the walk. -/
import Derived.Test.YtmplcibaoanlnaaMgS
namespace Go.Proofs.Ytmplcibaoanlnaa
open Go Go.RowKit

theorem unfold_room {N : List Nd} (hN : Wf N) {S S' : MS} {m x : Nat} {z : Int} (h : Room S m) (hu : unfoldR N S z S') (hx : m ≤ x) : Room S' (3 * x + 262144) := by
  unfold unfoldR at hu
  split at hu
  · subst hu
    exact (h.rises _).mono (by have := hN.sixteen z; omega)
  · split at hu
    · subst hu
      have h2 : Room { S with sh := up S.sh ((partsN N z).getD 0 0) true } m := ⟨h.shut, h.waits, h.news⟩
      have h3 := (h2.clear1 ((partsN N z).getD 0 0)).wakes hN (S.waits ((partsN N z).getD 0 0))
      have h4 := h.waits ((partsN N z).getD 0 0)
      exact h3.mono (by omega)
    · split at hu
      · subst hu
        exact (h.rise _ 3).mono (by omega)
      · split at hu
        · obtain ⟨l, hl, rfl⟩ := hu
          have hlen : l.length ≤ 65536 := by
            have h2 := few N.length l (hl.sorted.imp fun {a b} hh e => by omega) (fun y hy => ⟨(hl.inn y hy).1, (hl.inn y hy).2.1⟩)
            have := hN.few
            omega
          have h3 := h.opens hN l
          unfold openP
          split
          · exact (h3.rise _ 3).mono (by omega)
          · refine ⟨fun k => ?_, fun k => Nat.le_trans (h3.waits k) (by omega), Nat.le_trans h3.news (by omega)⟩
            show (up (l.foldl (openStep N) S).shut ((partsN N z).getD 0 0) _ k).length ≤ _
            generalize (partsN N z).getD 0 0 = y at *
            have h4 := h3.shut k
            have h5 := h3.shut y
            unfold up
            split
            · rw [List.length_append, List.length_singleton]; omega
            · omega
        · subst hu
          exact h.mono (by omega)
theorem rise_shut (S : MS) (x to : Int) : (riseP S x to).shut = S.shut := by
  unfold riseP; split <;> rfl
theorem rises_shut (S : MS) (l : List Int) : (rises S l).shut = S.shut := by
  induction l generalizing S with
  | nil => rfl
  | cons x r ih => exact (ih (riseP S x 3)).trans (rise_shut S x 3)
set_option maxHeartbeats 8000000 in
set_option maxRecDepth 20000 in
theorem spread_any {c : Fx} {N : List Nd} {w : World} {F : Nat → Prop} {r : Nat → Int → Option Value} {S : MS} (h : LW c N w F r S) {x : Int} (hx : 1 ≤ x ∧ x ≤ (N.length : Int)) (hroom : Room S 1073741824) :
    Calls Try.prog 43 #[.pointer (some ⟨c.M, 0, none⟩), .int .i64 x, rv c] w fun e w' => e = .returned (.tuple #[]) ∧ ∃ S', spreadR N S x S' ∧ After c N w F S' w' := by
  have hw := h.wf1 hx.1 hx.2
  obtain ⟨_, c1, _⟩ := h.mnd.fields
  have hl := h.mnd.stLook hw
  have hU : ∃ (P : MS → Prop), ∀ S1, P S1 ↔ ((S.st x = 3 → unfoldR N S x S1) ∧ (S.st x ≠ 3 → S1 = S)) := ⟨_, fun _ => Iff.rfl⟩
  obtain ⟨P, hP⟩ := hU
  have HP := Lib.hid hP
  have HX := Lib.hid hx
  have hR : ∀ S1, P S1 → Room S1 4294967296 := fun S1 h1 => by
    obtain ⟨a1, a2⟩ := (hP S1).1 h1
    by_cases e : S.st x = 3
    · exact (unfold_room h.wf hroom (a1 e) (Nat.le_refl _)).mono (by decide)
    · rw [a2 e]; exact hroom.mono (by decide)
  have HR := Lib.hid hR
  have HW := Lib.hid hw
  clear hP hR
  by_cases h3 : S.st x = 3
  · have hun := unfold_any h hx (hroom.mono (by decide))
    rw [h3] at hl
    have HH := Lib.hid h
    have H3 := Lib.hid h3
    clear h hx hroom h3
    go_enter Try.func43, Try.ntmps43
    go_wp2_with (
      go_at_call 48
      refine hun.mono ?_
      rintro e w1 ⟨rfl, S1, hu, F1, r1, hl1, hs1⟩
      have hp1 := (HP.out S1).2 ⟨fun _ => hu, fun e => absurd H3.out e⟩
      have c3 := hl1.mnd.fields.2.2.2.1
      have hlk := (hl1.mnd.rowLook HW.out).1
      obtain ⟨va, vc, hv, _⟩ := own_shape (hl1.mnd.rows 0 x).1
      have hLl : lst S1 0 x = S1.shut x := rfl
      rw [hLl] at hv
      rw [hv] at hlk
      have HL1 := Lib.hid hl1
      have HS1 := Lib.hid hs1
      have HV := Lib.hid hv
      have HIN := Lib.hid (hl1.inr.shut x)
      have HRM := Lib.hid (HR.out S1 hp1)
      have HP1 := Lib.hid hp1
      clear hl1 hs1 hv hLl hp1)
    generalize hl0 : S1.shut x = l at *
    go_loopw [26] (fun i wr => ∃ (j : Nat) (F' : Nat → Prop) (r' : Nat → Int → Option Value), j ≤ l.length ∧ i = .int .i64 j ∧ LW c N wr F' r' (rises S1 (l.take j)) ∧ Stp F w F' wr ∧ ∀ b k, b ≠ 2 → r' b k = r1 b k) (fun i _ => l.length - (RowKit.intOf i).toNat)
    case atStart => exact ⟨0, F1, r1, Nat.zero_le _, rfl, HL1.out, HS1.out, fun _ _ _ => rfl⟩
    case round =>
      obtain ⟨j, F', r', hj, rfl, hlw, hs, hr⟩ := hrel
      have hval : val r' 0 x = .slice va l.length vc := by
        have : val r' 0 x = val r1 0 x := by unfold val; rw [hr 0 x (by decide)]
        rw [this]; exact HV.out
      by_cases hlt : j < l.length
      · have hlt' : (j : Int) < (l.length : Int) := by omega
        have hrow := (hlw.mnd.rows 0 x).1
        have hlst : lst (rises S1 (l.take j)) 0 x = l := by
          show (rises S1 (l.take j)).shut x = l
          rw [rises_shut]; exact hl0
        rw [hval, hlst] at hrow
        rcases (Rd.of_own hrow).1.cases with ⟨h0, _⟩ | ⟨b, off, cp, e, _, _, hcap, _, hc⟩
        · rw [h0] at hlt; simp at hlt
        · cases e
          have hcj := hc j hlt
          have hy := HIN.out _ (getD_mem hlt)
          have HT := Lib.hid (rises_snoc S1 l j hlt)
          have hlen := HRM.out.shut x
          rw [hl0] at hlen
          have hri := rise_any hlw hy (to := 3) (by decide) ((HRM.out.rises (l.take j)).mono (by rw [List.length_take]; omega))
          have HST := Lib.hid hs
          have HRR := Lib.hid hr
          clear hlw hs hc hy hrow hlst hval hr
          generalize l.getD j 0 = y at *
          unfold rv at *
          go_wp2_with (go_at_call 42; refine hri.mono ?_; rintro e w6 ⟨rfl, F2, r2, p1, p2, p3⟩)
          go_roundw
          case rel => exact ⟨j + 1, F2, r2, by omega, by go_num, by rw [HT.out]; exact p1, HST.out.trans p2, fun b k hb => (p3 b k hb).trans (HRR.out b k hb)⟩
          case measure => simp [RowKit.intOf]; omega
      · obtain rfl : j = l.length := by omega
        rw [List.take_length] at hlw
        have hlen := HRM.out.shut x
        rw [hl0] at hlen
        have hrm2 : Room (rises S1 l) 8589934592 := (HRM.out.rises l).mono (by omega)
        have k3 := hlw.mnd.fields.2.2.2.1
        have hdrop : ∀ w3 (_ : wr.grownBy w3 (some c.m3)) (_ : MapG w3 c.m3 (fun j => if j = x then none else r' 0 j)), LW c N w3 (fun k => F' k ∧ (val r' 0 x).ownBlock ≠ some k) (rset r' 0 x none) { rises S1 l with shut := up (rises S1 l).shut x [] } ∧ Stp F' wr (fun k => F' k ∧ (val r' 0 x).ownBlock ≠ some k) w3 := fun w3 h3 hm => by
          obtain ⟨d1, d2, _⟩ := hlw.drop (S' := { rises S1 l with shut := up (rises S1 l).shut x [] }) 0 x c.m3 (.inl ⟨rfl, rfl⟩) h3 hm rfl rfl (fun b k e => by
            unfold lst
            by_cases e1 : b = 0
            · subst e1
              have hk : k ≠ x := by rcases e with e | e; exact absurd rfl e; exact e
              simp [up_other _ _ hk]
            · simp [e1]) (by simp [lst, up_same]) (hlw.inr.clear0 x)
          exact ⟨d1, d2⟩
        have HDR := Lib.hid hdrop
        have HMS := Lib.hid hlw.mnd.shut
        have HST := Lib.hid hs
        have HRM2 := Lib.hid hrm2
        have HL0 := Lib.hid hl0
        clear hlw hs hr hval hdrop hrm2 hl0
        go_wp2_with (first
          | (at_delete
             refine wpList_delG rfl _ _ 78 31 rfl Try.underlying78 HMS.out HW.out rfl rfl ?_
             intro w7 hm7 hg7
             obtain ⟨d1, d2⟩ := HDR.out w7 hg7 hm7
             have hwk := wake_any d1 HX.out ((HRM2.out.clear0 x).mono (by decide))
             have HD2 := Lib.hid d2
             clear d1 d2 hm7 hg7)
          | (go_at_call 49
             refine hwk.mono ?_
             rintro e w8 ⟨rfl, ha8⟩))
        go_end0
        obtain ⟨a1, a2⟩ := (HP.out S1).1 HP1.out
        exact ⟨rfl, _, ⟨S1, a1, a2, by rw [HL0.out]⟩, (ha8.pre HD2.out).pre HST.out⟩
  · have hne : (S.st x == 3) = false := by simp [h3]
    have hp1 := (HP.out S).2 ⟨fun e => absurd e h3, fun _ => rfl⟩
    have hs1 := Stp.refl F w
    have hl1 := h
    clear h hx hroom h3
    have c3 := hl1.mnd.fields.2.2.2.1
    have hlk := (hl1.mnd.rowLook HW.out).1
    obtain ⟨va, vc, hv, _⟩ := own_shape (hl1.mnd.rows 0 x).1
    have hLl : lst S 0 x = S.shut x := rfl
    rw [hLl] at hv
    rw [hv] at hlk
    have HL1 := Lib.hid hl1
    have HS1 := Lib.hid hs1
    have HV := Lib.hid hv
    have HIN := Lib.hid (hl1.inr.shut x)
    have HRM := Lib.hid (HR.out S hp1)
    have HP1 := Lib.hid hp1
    clear hl1 hs1 hv hLl hp1
    go_enter Try.func43, Try.ntmps43
    go_wp2_with fail
    generalize hl0 : S.shut x = l at *
    go_loopw [26] (fun i wr => ∃ (j : Nat) (F' : Nat → Prop) (r' : Nat → Int → Option Value), j ≤ l.length ∧ i = .int .i64 j ∧ LW c N wr F' r' (rises S (l.take j)) ∧ Stp F w F' wr ∧ ∀ b k, b ≠ 2 → r' b k = r b k) (fun i _ => l.length - (RowKit.intOf i).toNat)
    case atStart => exact ⟨0, F, r, Nat.zero_le _, rfl, HL1.out, HS1.out, fun _ _ _ => rfl⟩
    case round =>
      obtain ⟨j, F', r', hj, rfl, hlw, hs, hr⟩ := hrel
      have hval : val r' 0 x = .slice va l.length vc := by
        have : val r' 0 x = val r 0 x := by unfold val; rw [hr 0 x (by decide)]
        rw [this]; exact HV.out
      by_cases hlt : j < l.length
      · have hlt' : (j : Int) < (l.length : Int) := by omega
        have hrow := (hlw.mnd.rows 0 x).1
        have hlst : lst (rises S (l.take j)) 0 x = l := by
          show (rises S (l.take j)).shut x = l
          rw [rises_shut]; exact hl0
        rw [hval, hlst] at hrow
        rcases (Rd.of_own hrow).1.cases with ⟨h0, _⟩ | ⟨b, off, cp, e, _, _, hcap, _, hc⟩
        · rw [h0] at hlt; simp at hlt
        · cases e
          have hcj := hc j hlt
          have hy := HIN.out _ (getD_mem hlt)
          have HT := Lib.hid (rises_snoc S l j hlt)
          have hlen := HRM.out.shut x
          rw [hl0] at hlen
          have hri := rise_any hlw hy (to := 3) (by decide) ((HRM.out.rises (l.take j)).mono (by rw [List.length_take]; omega))
          have HST := Lib.hid hs
          have HRR := Lib.hid hr
          clear hlw hs hc hy hrow hlst hval hr
          generalize l.getD j 0 = y at *
          unfold rv at *
          go_wp2_with (go_at_call 42; refine hri.mono ?_; rintro e w6 ⟨rfl, F2, r2, p1, p2, p3⟩)
          go_roundw
          case rel => exact ⟨j + 1, F2, r2, by omega, by go_num, by rw [HT.out]; exact p1, HST.out.trans p2, fun b k hb => (p3 b k hb).trans (HRR.out b k hb)⟩
          case measure => simp [RowKit.intOf]; omega
      · obtain rfl : j = l.length := by omega
        rw [List.take_length] at hlw
        have hlen := HRM.out.shut x
        rw [hl0] at hlen
        have hrm2 : Room (rises S l) 8589934592 := (HRM.out.rises l).mono (by omega)
        have k3 := hlw.mnd.fields.2.2.2.1
        have hdrop : ∀ w3 (_ : wr.grownBy w3 (some c.m3)) (_ : MapG w3 c.m3 (fun j => if j = x then none else r' 0 j)), LW c N w3 (fun k => F' k ∧ (val r' 0 x).ownBlock ≠ some k) (rset r' 0 x none) { rises S l with shut := up (rises S l).shut x [] } ∧ Stp F' wr (fun k => F' k ∧ (val r' 0 x).ownBlock ≠ some k) w3 := fun w3 h3 hm => by
          obtain ⟨d1, d2, _⟩ := hlw.drop (S' := { rises S l with shut := up (rises S l).shut x [] }) 0 x c.m3 (.inl ⟨rfl, rfl⟩) h3 hm rfl rfl (fun b k e => by
            unfold lst
            by_cases e1 : b = 0
            · subst e1
              have hk : k ≠ x := by rcases e with e | e; exact absurd rfl e; exact e
              simp [up_other _ _ hk]
            · simp [e1]) (by simp [lst, up_same]) (hlw.inr.clear0 x)
          exact ⟨d1, d2⟩
        have HDR := Lib.hid hdrop
        have HMS := Lib.hid hlw.mnd.shut
        have HST := Lib.hid hs
        have HRM2 := Lib.hid hrm2
        have HL0 := Lib.hid hl0
        clear hlw hs hr hval hdrop hrm2 hl0
        go_wp2_with (first
          | (at_delete
             refine wpList_delG rfl _ _ 78 31 rfl Try.underlying78 HMS.out HW.out rfl rfl ?_
             intro w7 hm7 hg7
             obtain ⟨d1, d2⟩ := HDR.out w7 hg7 hm7
             have hwk := wake_any d1 HX.out ((HRM2.out.clear0 x).mono (by decide))
             have HD2 := Lib.hid d2
             clear d1 d2 hm7 hg7)
          | (go_at_call 49
             refine hwk.mono ?_
             rintro e w8 ⟨rfl, ha8⟩))
        go_end0
        obtain ⟨a1, a2⟩ := (HP.out S).1 HP1.out
        exact ⟨rfl, _, ⟨S, a1, a2, by rw [HL0.out]⟩, (ha8.pre HD2.out).pre HST.out⟩
end Go.Proofs.Ytmplcibaoanlnaa
