/- params.Read: whole, goal, idle, data, own, retry. -/
import Derived.Test.YtmglhlfjddgllaaDoorPRd1
namespace Go.Proofs.YtmglhlfjddgllaaDoor
open Go Go.RowKit

theorem Fq.drew {w0 w : World} {B : Nat} {rest : List Int} {t : Nat} {short : Int} (h : Fq w0 w B rest t short) : Fq w0 w.drew B rest t short := ⟨h.bel.drew, h.lo, h.sum, h.box⟩
set_option maxRecDepth 20000 in
set_option maxHeartbeats 2000000 in
theorem pwhole_any {w : World} {R B D : Nat} {p : Pv} {v5 v6 v7 v9 : Value} {v : List Int} (h : Rq w R B (.pointer (some ⟨D, 0, none⟩)) p v5 v6 v7 v9) (hd : Dq w D v) :
    Calls Tryd.prog 66 #[.pointer (some ⟨R, 0, none⟩)] w fun e w' => ∃ x, e = .returned x ∧ (Rd w' x v ∧ Plain x) ∧ Dq w' D [] ∧ But D w w' := by
  obtain ⟨_, c1, _⟩ := h.cells
  obtain ⟨w0, t, hs, hF⟩ := hd
  have hl := left_q hF.drew
  have hb := bytes_q hF.drew v.length (Nat.le_refl _)
  rw [List.take_of_length_le (Nat.le_refl _), List.drop_length] at hb
  clear h hF
  go_enter Tryd.func66, Tryd.ntmps66
  go_wp2_with fail
  go_region_with (first
    | (go_at_call 49; refine hl.mono ?_; rintro e w1 ⟨rfl, rfl⟩)
    | (go_at_call 52; refine hb.mono ?_; rintro e w1 ⟨x, rfl, ⟨hx, hp⟩, hF, hbt⟩))
  all_goals try go_wp2
  all_goals go_ret
  all_goals exact ⟨_, rfl, ⟨hx.rd, hp⟩, ⟨w0, _, hs, hF⟩, ((But.refl D w).drew).trans hbt⟩

/-- Numbers that read, in memory at or behind lo. -/
structure RiA (lo : Nat) (w : World) (v : Value) (zs : List Int) : Prop where
  rd : Ri w v zs
  far : ∀ a n c, v = .slice (some a) n c → zs ≠ [] → lo ≤ a.block
theorem RiA.nil (lo : Nat) (w : World) : RiA lo w (.slice none 0 0) [] := ⟨Ri.nil w, fun _ _ _ h => by cases h⟩
theorem RiA.mono {lo lo' : Nat} {w : World} {v : Value} {zs : List Int} (h : RiA lo w v zs) (hl : lo' ≤ lo) : RiA lo' w v zs := ⟨h.rd, fun a n c e hz => Nat.le_trans hl (h.far a n c e hz)⟩
/-- What taking a field's body does: the params have it, or it panics with 3; what is left of the body tells whether it was right. -/
def Tkd (n : Int) (v : List Int) (w : World) (R B D : Nat) (p : Pv) (e : Ending) (w' : World) : Prop :=
  (e = errPanic 3 ∧ Kq R D w w' ∧ putP p n v = none) ∨
  ∃ p' v5 v6 v7 v9 rest, e = .returned (.tuple #[]) ∧ Rq w' R B (.pointer (some ⟨D, 0, none⟩)) p' v5 v6 v7 v9 ∧ Dq w' D rest ∧ Kq R D w w' ∧ RiA w.heap.size w' v9 p'.l ∧ (n < 17 → v9 = .slice none 0 0 ∧ p'.l = []) ∧
    (rest = [] → putP p n v = some p') ∧ (rest ≠ [] → putP p n v = none)
/-- A method that can be called, and takes the field n. -/
structure Tk (F : Nat) (n : Int) : Prop where
  ent : ∀ (args : Array Value) (w : World), (callFunc F args).run Tryd.prog w = .ok (.enter F args) w
  does : ∀ (w : World) (R B D : Nat) (p : Pv) (v5 v6 v7 : Value) (v : List Int), Rq w R B (.pointer (some ⟨D, 0, none⟩)) p v5 v6 v7 (.slice none 0 0) → R < D → p.l = [] → Dq w D v →
    Calls Tryd.prog F #[.pointer (some ⟨R, 0, none⟩)] w (Tkd n v w R B D p)
theorem enterp {F : Nat} {fn : Func} (hf : Tryd.prog.funcs[F]? = some fn) (hn : (fn.name == "runtime.NumGoroutine") = false) (hb : fn.body.isNone = false) (args : Array Value) (w : World) : (callFunc F args).run Tryd.prog w = .ok (.enter F args) w := by
  have hn' : ¬ fn.name = "runtime.NumGoroutine" := by simpa using hn
  have hb' : ¬ fn.body = none := by intro e; rw [e] at hb; cases hb
  simp [callFunc, hf, hn', hb']
theorem Plain.slice {v : Value} (h : Plain v) : ∃ a n c, v = .slice a n c := by
  rcases h with rfl | ⟨b, off, n, cap, rfl⟩
  · exact ⟨_, _, _, rfl⟩
  · exact ⟨_, _, _, rfl⟩

set_option maxRecDepth 20000 in
set_option maxHeartbeats 2000000 in
theorem does_goal (w : World) (R B D : Nat) (p : Pv) (v5 v6 v7 : Value) (v : List Int) (h : Rq w R B (.pointer (some ⟨D, 0, none⟩)) p v5 v6 v7 (.slice none 0 0)) (hR : R < D) (hl : p.l = []) (hd : Dq w D v) :
    Calls Tryd.prog 55 #[.pointer (some ⟨R, 0, none⟩)] w (Tkd 0 v w R B D p) := by
  have hw := pwhole_any h hd
  have HD := Lib.hid hd.noB
  have HH := Lib.hid h
  clear hd h
  go_enter Tryd.func55, Tryd.ntmps55
  go_wp2_with (go_at_call 66; refine hw.mono ?_; rintro e w1 ⟨x, rfl, ⟨hx, hp⟩, hd1, hb1⟩; obtain ⟨xa, xn, xc, rfl⟩ := hp.slice; have h1 := HH.out.keep hb1 HD.out (by omega); obtain ⟨c0, c1, c2, c3, c4, c5, c6, c7, c8, c9, c10, c11, cf⟩ := h1.cells)
  go_end0
  have hn := h1.noB
  have e1 := rset h1 4 (.bool true)
  have e2 := heap_setCell_same _ R 7 _ 56 (.slice xa xn xc) e1
  have hbt : But R w1 ((w1.setCell ⟨R, 4, none⟩ (.bool true)).setCell ⟨R, 7, none⟩ (.slice xa xn xc)) := (But.set w1 R 4 _).trans (But.set _ R 7 _)
  have hk : ∀ {u : Value} {zs : List Int}, Rd w1 u zs → Rd ((w1.setCell ⟨R, 4, none⟩ (.bool true)).setCell ⟨R, 7, none⟩ (.slice xa xn xc)) u zs := fun h => h.but hbt hn
  have q1 : Rq (w1.setCell ⟨R, 4, none⟩ (.bool true)) R B (.pointer (some ⟨D, 0, none⟩)) { p with hg := true } v5 v6 v7 (.slice none 0 0) :=
    ⟨e1, h1.g.but (But.set w1 R 4 _) hn, h1.o.but (But.set w1 R 4 _) hn, h1.r.but (But.set w1 R 4 _) hn, h1.s9, h1.sb⟩
  refine .inr ⟨{ p with hg := true, g := v }, .slice xa xn xc, v6, v7, .slice none 0 0, [], rfl, ⟨e2, hk hx, hk h1.o, hk h1.r, h1.s9, h1.sb⟩, (hd1.set hn hR 4 _).set q1.noB hR 7 _, (Kq.r hb1).trans (Kq.l hbt), ?_, fun _ => ⟨rfl, hl⟩, fun _ => rfl, fun h => absurd rfl h⟩
  rw [show ({ p with hg := true, g := v } : Pv).l = [] from hl]; exact RiA.nil _ _
end Go.Proofs.YtmglhlfjddgllaaDoor
