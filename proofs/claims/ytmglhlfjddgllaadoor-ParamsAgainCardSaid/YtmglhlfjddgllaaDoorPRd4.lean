/- params.Read: idle, data. -/
import Derived.Test.YtmglhlfjddgllaaDoorPRd2
namespace Go.Proofs.YtmglhlfjddgllaaDoor
open Go Go.RowKit

set_option maxRecDepth 20000 in
set_option maxHeartbeats 2000000 in
theorem does_idle (w : World) (R B D : Nat) (p : Pv) (v5 v6 v7 : Value) (v : List Int) (h : Rq w R B (.pointer (some ⟨D, 0, none⟩)) p v5 v6 v7 (.slice none 0 0)) (hR : R < D) (hl : p.l = []) (hd : Dq w D v) :
    Calls Tryd.prog 56 #[.pointer (some ⟨R, 0, none⟩)] w (Tkd 1 v w R B D p) := by
  have HD := Lib.hid hd.noB
  have HH := Lib.hid h
  have hbyt := hd.byt
  obtain ⟨c0, c1, c2, c3, c4, c5, c6, c7, c8, c9, c10, c11, cf⟩ := h.cells
  obtain ⟨w0, t, hs, hF⟩ := hd
  rcases rd_size hbyt with ⟨e0, ⟨_, _⟩, k, ek, _, _, hk⟩ | ⟨e1, e2, e3⟩
  · have hrd : rd v = ((rd v).1, (k : Int), 0) := by rw [← ek, ← e0]
    have hn := number_q hF _ k hrd hk
    have HP : Hid (∀ rest, rest = v.drop k → (rest = [] → putP p 1 v = some { p with i := (rd v).1 }) ∧ (rest ≠ [] → putP p 1 v = none)) := Lib.hid (by
      rintro rest rfl
      have hdl : v.drop k = [] ↔ k = v.length := by rw [List.drop_eq_nil_iff]; omega
      have hw : wholeN v = if k = v.length then some (rd v).1 else none := by
        unfold wholeN
        rw [ek]
        simp [e0]
      constructor
      · intro hr; simp [putP, hw, hdl.1 hr]
      · intro hr
        have : ¬ k = v.length := fun e => hr (hdl.2 e)
        simp [putP, hw, this])
    generalize (rd v).1 = N at *
    clear hF h hrd ek e0 c0 c3 c4 c5 c6 c7 c8 c9 c10 c11
    go_enter Tryd.func56, Tryd.ntmps56
    go_wp2_with (go_at_call 50; refine hn.mono ?_; rintro e w1 ⟨rfl, hd1, hb1⟩; have h1 := HH.out.keep hb1 HD.out (by omega); obtain ⟨c0, c1, c2, c3, c4, c5, c6, c7, c8, c9, c10, c11, cf⟩ := h1.cells)
    go_end0
    have hn := h1.noB
    have e1 := rset h1 2 (.int .i64 N)
    have hbt : But R w1 (w1.setCell ⟨R, 2, none⟩ (.int .i64 N)) := But.set w1 R 2 _
    have q1 : Rq (w1.setCell ⟨R, 2, none⟩ (.int .i64 N)) R B (.pointer (some ⟨D, 0, none⟩)) { p with i := N } v5 v6 v7 (.slice none 0 0) :=
      ⟨e1, h1.g.but hbt hn, h1.o.but hbt hn, h1.r.but hbt hn, h1.s9, h1.sb⟩
    have hp := HP.out _ rfl
    refine .inr ⟨{ p with i := N }, v5, v6, v7, .slice none 0 0, v.drop k, rfl, q1, Dq.set ⟨w0, _, hs, hd1⟩ hn hR 2 _, (Kq.r hb1).trans (Kq.l hbt), ?_, fun _ => ⟨rfl, hl⟩, hp.1, hp.2⟩
    rw [show ({ p with i := N } : Pv).l = [] from hl]; exact RiA.nil _ _
  · have hrd : rd v = (0, 0, (rd v).2.2) := Prod.ext e1 (Prod.ext e2 rfl)
    have hn := number_e hF _ hrd e3
    have HP : Hid (putP p 1 v = none) := Lib.hid (by
      have : ¬ ((rd v).2.2 = 0) := by omega
      simp [putP, wholeN, this])
    have e4 : (if (rd v).2.2 = 2 then (3 : Int) else (rd v).2.2) = 3 := by split <;> omega
    rw [e4] at hn
    clear hF h hrd e1 e2 e3 e4 c0 c3 c4 c5 c6 c7 c8 c9 c10 c11
    go_enter Tryd.func56, Tryd.ntmps56
    go_wp2_with (go_at_call 50; refine hn.mono ?_; rintro e w1 ⟨he, hb1⟩; rw [errPanic] at he; subst he)
    exact ⟨rfl, .inl ⟨rfl, Kq.r hb1, HP.out⟩⟩
set_option maxRecDepth 20000 in
set_option maxHeartbeats 2000000 in
theorem does_data (w : World) (R B D : Nat) (p : Pv) (v5 v6 v7 : Value) (v : List Int) (h : Rq w R B (.pointer (some ⟨D, 0, none⟩)) p v5 v6 v7 (.slice none 0 0)) (hR : R < D) (hl : p.l = []) (hd : Dq w D v) :
    Calls Tryd.prog 57 #[.pointer (some ⟨R, 0, none⟩)] w (Tkd 4 v w R B D p) := by
  have HD := Lib.hid hd.noB
  have HH := Lib.hid h
  have hbyt := hd.byt
  obtain ⟨c0, c1, c2, c3, c4, c5, c6, c7, c8, c9, c10, c11, cf⟩ := h.cells
  obtain ⟨w0, t, hs, hF⟩ := hd
  rcases rd_size hbyt with ⟨e0, ⟨_, _⟩, k, ek, _, _, hk⟩ | ⟨e1, e2, e3⟩
  · have hrd : rd v = ((rd v).1, (k : Int), 0) := by rw [← ek, ← e0]
    have hn := number_q hF _ k hrd hk
    have HP : Hid (∀ rest, rest = v.drop k → (rest = [] → putP p 4 v = some { p with d := (rd v).1 }) ∧ (rest ≠ [] → putP p 4 v = none)) := Lib.hid (by
      rintro rest rfl
      have hdl : v.drop k = [] ↔ k = v.length := by rw [List.drop_eq_nil_iff]; omega
      have hw : wholeN v = if k = v.length then some (rd v).1 else none := by
        unfold wholeN
        rw [ek]
        simp [e0]
      constructor
      · intro hr; simp [putP, hw, hdl.1 hr]
      · intro hr
        have : ¬ k = v.length := fun e => hr (hdl.2 e)
        simp [putP, hw, this])
    generalize (rd v).1 = N at *
    clear hF h hrd ek e0 c0 c2 c4 c5 c6 c7 c8 c9 c10 c11
    go_enter Tryd.func57, Tryd.ntmps57
    go_wp2_with (go_at_call 50; refine hn.mono ?_; rintro e w1 ⟨rfl, hd1, hb1⟩; have h1 := HH.out.keep hb1 HD.out (by omega); obtain ⟨c0, c1, c2, c3, c4, c5, c6, c7, c8, c9, c10, c11, cf⟩ := h1.cells)
    go_end0
    have hn := h1.noB
    have e1 := rset h1 3 (.int .i64 N)
    have hbt : But R w1 (w1.setCell ⟨R, 3, none⟩ (.int .i64 N)) := But.set w1 R 3 _
    have q1 : Rq (w1.setCell ⟨R, 3, none⟩ (.int .i64 N)) R B (.pointer (some ⟨D, 0, none⟩)) { p with d := N } v5 v6 v7 (.slice none 0 0) :=
      ⟨e1, h1.g.but hbt hn, h1.o.but hbt hn, h1.r.but hbt hn, h1.s9, h1.sb⟩
    have hp := HP.out _ rfl
    refine .inr ⟨{ p with d := N }, v5, v6, v7, .slice none 0 0, v.drop k, rfl, q1, Dq.set ⟨w0, _, hs, hd1⟩ hn hR 3 _, (Kq.r hb1).trans (Kq.l hbt), ?_, fun _ => ⟨rfl, hl⟩, hp.1, hp.2⟩
    rw [show ({ p with d := N } : Pv).l = [] from hl]; exact RiA.nil _ _
  · have hrd : rd v = (0, 0, (rd v).2.2) := Prod.ext e1 (Prod.ext e2 rfl)
    have hn := number_e hF _ hrd e3
    have HP : Hid (putP p 4 v = none) := Lib.hid (by
      have : ¬ ((rd v).2.2 = 0) := by omega
      simp [putP, wholeN, this])
    have e4 : (if (rd v).2.2 = 2 then (3 : Int) else (rd v).2.2) = 3 := by split <;> omega
    rw [e4] at hn
    clear hF h hrd e1 e2 e3 e4 c0 c2 c4 c5 c6 c7 c8 c9 c10 c11
    go_enter Tryd.func57, Tryd.ntmps57
    go_wp2_with (go_at_call 50; refine hn.mono ?_; rintro e w1 ⟨he, hb1⟩; rw [errPanic] at he; subst he)
    exact ⟨rfl, .inl ⟨rfl, Kq.r hb1, HP.out⟩⟩
end Go.Proofs.YtmglhlfjddgllaaDoor
