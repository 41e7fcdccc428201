/- special: what both kinds of packets begin with, cut off; how many bytes are left. -/
import Derived.Test.YtjdlmmbkppaenaaQNam
namespace Go.Proofs.Ytjdlmmbkppaenaa
open Go Go.RowKit

/-- The closure that tells what is left. -/
abbrev leftF (B A : Nat) : Value := .func (.func 55) #[] #[.pointer (some ⟨B, 0, none⟩), .pointer (some ⟨A, 0, none⟩)]
theorem left_any {w0 w : World} {v : Value} {zs : List Int} {B A t : Nat} (hr : Rd w0 v zs) (hl : zs.length ≤ 100000) (h : Cq w0 w v B A t) (ht : t ≤ 100000) :
    Calls Try.prog 55 #[.pointer (some ⟨B, 0, none⟩), .pointer (some ⟨A, 0, none⟩)] w fun e w' => e = .returned (.int .i64 ((zs.length : Int) - (t : Int))) ∧ w = w' := by
  obtain ⟨c0, c1, cf, hA, hB⟩ := h.cells
  obtain ⟨ao, cap, rfl, _⟩ := hr
  have hw : IntKind.i64.wrap ((zs.length : Int) - (t : Int)) = (zs.length : Int) - (t : Int) := IntWalk.i64_in _ ⟨by omega, by omega⟩
  clear h
  go_enter Try.func55, Try.ntmps55
  go_wp2_with fail
  go_ret
  exact ⟨rfl, rfl⟩
theorem cq_new (w : World) (v : Value) : Cq w ((w.alloc (.cells #[v] 22)).alloc (.cells #[.int .i64 0] 3)) v w.heap.size (w.heap.size + 1) 0 := by
  refine ⟨(below_alloc w _).trans ((below_alloc _ _).mono (by simp)), Nat.le_refl _, Nat.le_succ _, by omega, ?_, heap_alloc2_new w _ _⟩
  exact (Below.heap_alloc _ _ _ (by simp)).trans (heap_alloc_new w _)
theorem cutting_any {w : World} {v : Value} {zs : List Int} (hr : Rd w v zs) :
    Calls Try.prog 35 #[v] w fun e w' => ∃ B A, e = .returned (.tuple #[cutF B A, leftF B A]) ∧ Cq w w' v B A 0 := by
  obtain ⟨ao, cap, rfl, _⟩ := hr
  go_enter Try.func35, Try.ntmps35
  go_wp2_with fail
  go_ret2
  exact ⟨_, _, rfl, cq_new w _⟩
theorem begun_results (tmps : Array Value) (w : World) (c1 c2 c3 c4 : Value) (h4 : tmps[2]?.getD undef = c1) (h5 : tmps[3]?.getD undef = c2) (h6 : tmps[4]?.getD undef = c3) (h7 : tmps[5]?.getD undef = c4) :
    (results Try.f36 tmps).run Try.prog w = .ok (.tuple #[c1, c2, c3, c4]) w := by
  simp [results, Try.results36, h4, h5, h6, h7, go_sem]
set_option maxRecDepth 20000 in
set_option maxHeartbeats 2000000 in
theorem begun_any {w0 w : World} {v : Value} {zs : List Int} {B A : Nat} (hr : Rd w0 v zs) (hp : Plain v) (hl : zs.length ≤ 50000) (h : Cq w0 w v B A 0) (x y z : Int) (hx : cutZ zs 0 1 = [x]) (hy : cutZ zs 5 1 = [y]) (hz : cutZ zs (6 + y.toNat) 1 = [z]) :
    Calls Try.prog 36 #[cutF B A] w fun e w' => ∃ vt vf, e = .returned (.tuple #[.int .u8 x, .int .i64 (say4 (cutZ zs 1 4)), vt, vf]) ∧ (Ra w.heap.size w' vt (cutZ zs 6 y.toNat) ∧ Plain vt) ∧ (Ra w.heap.size w' vf (cutZ zs (7 + y.toNat) z.toNat) ∧ Plain vf) ∧ Cq w0 w' v B A (7 + y.toNat + z.toNat) ∧ But A w w' := by
  have c1 := cut_r hr hp (by omega) h (by omega) 1 (by omega)
  rw [hx] at c1
  have hA : A < w.heap.size := h.cells.2.2.2.1
  have HRP := Lib.hid (And.intro hr hp)
  have HY := Lib.hid hy
  have HZ := Lib.hid hz
  have hyb : 0 ≤ y ∧ y ≤ 255 := by have := cutZ_byt hr.byt 5 1; rw [hy] at this; exact this y (by simp)
  clear h hr hp hx hy hz
  go_enter Try.func36, Try.ntmps36
  go_wp2_with fail
  refine c1.mono ?_
  rintro e w1 ⟨pv, rfl, ⟨r1, _⟩, q1, b1⟩
  rcases r1.rd.cases with ⟨h0, _⟩ | ⟨b, off, cap, rfl, _, hlc, hcap, _, hcell⟩
  · cases h0
  have hc0 : w1.cell? ⟨b, off, none⟩ = some (.int .u8 x) := hcell 0 (by simp)
  have c2 := numb_any HRP.out.1 HRP.out.2 (by omega) q1 (by omega)
  have B1 := Lib.hid b1
  clear c1 q1 r1 hcell b1
  go_wp2_with fail
  refine c2.mono ?_
  rintro e w2 ⟨rfl, q2, b2⟩
  have c3 := name_any HRP.out.1 HRP.out.2 (by omega) q2 (by omega) y HY.out
  have B2 := Lib.hid (B1.out.trans b2)
  clear c2 q2 b2
  go_wp2_with fail
  refine c3.mono ?_
  rintro e w3 ⟨vt, rfl, ⟨rt, pt⟩, q3, b3⟩
  have hq3 : Cq w0 w3 v B A (6 + y.toNat) := q3
  have c4 := name_any HRP.out.1 HRP.out.2 (by omega) hq3 (by omega) z HZ.out
  have RT := Lib.hid (rt.mono B2.out.size)
  have B3 := Lib.hid (B2.out.trans b3)
  clear c3 q3 b3 hq3 rt
  go_wp2_with fail
  refine c4.mono ?_
  rintro e w4 ⟨vf, rfl, ⟨rf', pf⟩, q4, b4⟩
  have RF := Lib.hid (rf'.mono B3.out.size)
  have RT4 := Lib.hid (RT.out.but b4 hA)
  have B4 := Lib.hid (B3.out.trans b4)
  have e7 : 6 + y.toNat + 1 = 7 + y.toNat := by omega
  rw [e7] at q4
  have RF' := RF.out
  rw [e7] at RF'
  have RF7 := Lib.hid RF'
  have Q4 := Lib.hid q4
  clear c4 q4 b4 rf' RF RF' e7
  go_wp2_with fail
  refine bodyPost_ret (begun_results _ _ _ _ _ _ rfl rfl rfl rfl) rfl ?_
  exact ⟨_, _, rfl, ⟨RT4.out, pt⟩, ⟨RF7.out, pf⟩, Q4.out, B4.out⟩
end Go.Proofs.Ytjdlmmbkppaenaa
