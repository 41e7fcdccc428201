/- params.Read: own, retry. -/
import Derived.Test.YtmglhlfjddgllaaDoorPRd2
namespace Go.Proofs.YtmglhlfjddgllaaDoor
open Go Go.RowKit

set_option maxRecDepth 20000 in
set_option maxHeartbeats 2000000 in
theorem does_own (w : World) (R B D : Nat) (p : Pv) (v5 v6 v7 : Value) (v : List Int) (h : Rq w R B (.pointer (some ⟨D, 0, none⟩)) p v5 v6 v7 (.slice none 0 0)) (hR : R < D) (hl : p.l = []) (hd : Dq w D v) :
    Calls Tryd.prog 58 #[.pointer (some ⟨R, 0, none⟩)] w (Tkd 15 v w R B D p) := by
  have hw := pwhole_any h hd
  have HD := Lib.hid hd.noB
  have HH := Lib.hid h
  clear hd h
  go_enter Tryd.func58, Tryd.ntmps58
  go_wp2_with (go_at_call 66; refine hw.mono ?_; rintro e w1 ⟨x, rfl, ⟨hx, hp⟩, hd1, hb1⟩; obtain ⟨xa, xn, xc, rfl⟩ := hp.slice; have h1 := HH.out.keep hb1 HD.out (by omega); obtain ⟨c0, c1, c2, c3, c4, c5, c6, c7, c8, c9, c10, c11, cf⟩ := h1.cells)
  go_end0
  have hn := h1.noB
  have e1 := rset h1 5 (.bool true)
  have e2 := heap_setCell_same _ R 8 _ 56 (.slice xa xn xc) e1
  have hbt : But R w1 ((w1.setCell ⟨R, 5, none⟩ (.bool true)).setCell ⟨R, 8, none⟩ (.slice xa xn xc)) := (But.set w1 R 5 _).trans (But.set _ R 8 _)
  have hk : ∀ {u : Value} {zs : List Int}, Rd w1 u zs → Rd ((w1.setCell ⟨R, 5, none⟩ (.bool true)).setCell ⟨R, 8, none⟩ (.slice xa xn xc)) u zs := fun h => h.but hbt hn
  have q1 : Rq (w1.setCell ⟨R, 5, none⟩ (.bool true)) R B (.pointer (some ⟨D, 0, none⟩)) { p with ho := true } v5 v6 v7 (.slice none 0 0) :=
    ⟨e1, h1.g.but (But.set w1 R 5 _) hn, h1.o.but (But.set w1 R 5 _) hn, h1.r.but (But.set w1 R 5 _) hn, h1.s9, h1.sb⟩
  refine .inr ⟨{ p with ho := true, o := v }, v5, .slice xa xn xc, v7, .slice none 0 0, [], rfl, ⟨e2, hk h1.g, hk hx, hk h1.r, h1.s9, h1.sb⟩, (hd1.set hn hR 5 _).set q1.noB hR 8 _, (Kq.r hb1).trans (Kq.l hbt), ?_, fun _ => ⟨rfl, hl⟩, fun _ => by simp [putP], fun h => absurd rfl h⟩
  rw [show ({ p with ho := true, o := v } : Pv).l = [] from hl]; exact RiA.nil _ _
set_option maxRecDepth 20000 in
set_option maxHeartbeats 2000000 in
theorem does_retry (w : World) (R B D : Nat) (p : Pv) (v5 v6 v7 : Value) (v : List Int) (h : Rq w R B (.pointer (some ⟨D, 0, none⟩)) p v5 v6 v7 (.slice none 0 0)) (hR : R < D) (hl : p.l = []) (hd : Dq w D v) :
    Calls Tryd.prog 59 #[.pointer (some ⟨R, 0, none⟩)] w (Tkd 16 v w R B D p) := by
  have hw := pwhole_any h hd
  have HD := Lib.hid hd.noB
  have HH := Lib.hid h
  clear hd h
  go_enter Tryd.func59, Tryd.ntmps59
  go_wp2_with (go_at_call 66; refine hw.mono ?_; rintro e w1 ⟨x, rfl, ⟨hx, hp⟩, hd1, hb1⟩; obtain ⟨xa, xn, xc, rfl⟩ := hp.slice; have h1 := HH.out.keep hb1 HD.out (by omega); obtain ⟨c0, c1, c2, c3, c4, c5, c6, c7, c8, c9, c10, c11, cf⟩ := h1.cells)
  go_end0
  have hn := h1.noB
  have e1 := rset h1 6 (.bool true)
  have e2 := heap_setCell_same _ R 9 _ 56 (.slice xa xn xc) e1
  have hbt : But R w1 ((w1.setCell ⟨R, 6, none⟩ (.bool true)).setCell ⟨R, 9, none⟩ (.slice xa xn xc)) := (But.set w1 R 6 _).trans (But.set _ R 9 _)
  have hk : ∀ {u : Value} {zs : List Int}, Rd w1 u zs → Rd ((w1.setCell ⟨R, 6, none⟩ (.bool true)).setCell ⟨R, 9, none⟩ (.slice xa xn xc)) u zs := fun h => h.but hbt hn
  have q1 : Rq (w1.setCell ⟨R, 6, none⟩ (.bool true)) R B (.pointer (some ⟨D, 0, none⟩)) { p with hr := true } v5 v6 v7 (.slice none 0 0) :=
    ⟨e1, h1.g.but (But.set w1 R 6 _) hn, h1.o.but (But.set w1 R 6 _) hn, h1.r.but (But.set w1 R 6 _) hn, h1.s9, h1.sb⟩
  refine .inr ⟨{ p with hr := true, r := v }, v5, v6, .slice xa xn xc, .slice none 0 0, [], rfl, ⟨e2, hk h1.g, hk h1.o, hk hx, h1.s9, h1.sb⟩, (hd1.set hn hR 6 _).set q1.noB hR 9 _, (Kq.r hb1).trans (Kq.l hbt), ?_, fun _ => ⟨rfl, hl⟩, fun _ => by simp [putP], fun h => absurd rfl h⟩
  rw [show ({ p with hr := true, r := v } : Pv).l = [] from hl]; exact RiA.nil _ _
end Go.Proofs.YtmglhlfjddgllaaDoor
