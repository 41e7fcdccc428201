/- special: a version, a name, what both kinds of packets begin with, cut off by the closure. -/
import Derived.Test.YtjdlmmbkppaenaaQNmd
namespace Go.Proofs.Ytjdlmmbkppaenaa
open Go Go.RowKit

/-- The closure that cuts. -/
abbrev cutF (B A : Nat) : Value := .func (.func 54) #[] #[.pointer (some ⟨B, 0, none⟩), .pointer (some ⟨A, 0, none⟩)]
theorem Ra.of_own {w : World} {base : Nat} {v : Value} {n : Nat} {zs : List Int} (h : w.ownsRow base 5 1 v n (by8 zs)) (hz : Byt zs) : Ra base w v zs := by
  have hr := Rd.of_own h hz
  refine ⟨hr.1, fun a n' cap e hne => ?_⟩
  obtain ⟨_, h2⟩ := h
  rcases h2 with h2 | ⟨g, cap', cur, hv, hg, _⟩
  · rw [e] at h2; simp at h2
  · rw [hv] at e
    simp only [Value.slice.injEq, Option.some.injEq] at e
    rw [← e.1]; exact hg
theorem Ra.but {lo A : Nat} {w w' : World} {v : Value} {zs : List Int} (h : Ra lo w v zs) (hb : But A w w') (hl : A < lo) : Ra lo w' v zs := by
  refine ⟨?_, h.far⟩
  obtain ⟨ao, cap, hv, h1, h2, h3, h4, h5⟩ := h.rd
  refine ⟨ao, cap, hv, h1, h2, h3, h4, fun a ha j hj => ?_⟩
  have hz : zs ≠ [] := fun e => by rw [e] at hj; simp at hj
  have hf := h.far a zs.length cap (by rw [hv, ha]) hz
  have hc := h5 a ha j hj
  obtain ⟨b, off, spot⟩ := a
  have hs : spot = none := by simpa [Addr.add] using World.cell?_spot (h5 _ ha 0 (by omega))
  subst hs
  rw [Addr.add_lit] at hc ⊢
  have hlt : b < w.heap.size := cell_lt hc
  unfold World.cell? at hc ⊢
  rw [hb.block b hlt (by simp only at hf; omega)]
  exact hc
theorem plain_own {w : World} {base : Nat} {v : Value} {n : Nat} {zs : List Int} (h : w.ownsRow base 5 1 v n (by8 zs)) : Plain v := by
  obtain ⟨_, h2⟩ := h
  rcases h2 with ⟨h2, _⟩ | ⟨g, cap', cur, hv, _⟩
  · exact .inl h2
  · exact .inr ⟨_, _, _, _, hv⟩
theorem cut_r {w0 w : World} {v : Value} {zs : List Int} {B A t : Nat} (hr : Rd w0 v zs) (hp : Plain v) (hl : zs.length ≤ 100000) (h : Cq w0 w v B A t) (ht : t ≤ 100000) (n : Nat) (hn : n ≤ 1000) :
    Calls Try.prog 54 #[.int .i64 (n : Int), .pointer (some ⟨B, 0, none⟩), .pointer (some ⟨A, 0, none⟩)] w fun e w' => ∃ pv, e = .returned pv ∧ (Ra w.heap.size w' pv (cutZ zs t n) ∧ Plain pv) ∧ Cq w0 w' v B A (t + n) ∧ But A w w' := by
  refine (cut_any hr hp hl h ht n hn).mono ?_
  rintro e w' ⟨pv, rfl, ho, hc, hb⟩
  exact ⟨pv, rfl, ⟨Ra.of_own ho (cutZ_byt hr.byt t n), plain_own ho⟩, hc, hb⟩
set_option maxRecDepth 20000 in
set_option maxHeartbeats 2000000 in
theorem name_any {w0 w : World} {v : Value} {zs : List Int} {B A t : Nat} (hr : Rd w0 v zs) (hp : Plain v) (hl : zs.length ≤ 100000) (h : Cq w0 w v B A t) (ht : t ≤ 90000) (x : Int) (hx : cutZ zs t 1 = [x]) :
    Calls Try.prog 56 #[cutF B A] w fun e w' => ∃ pv, e = .returned pv ∧ (Ra w.heap.size w' pv (cutZ zs (t + 1) x.toNat) ∧ Plain pv) ∧ Cq w0 w' v B A (t + 1 + x.toNat) ∧ But A w w' := by
  have c1 := cut_r hr hp hl h (by omega) 1 (by omega)
  rw [hx] at c1
  have hxb : 0 ≤ x ∧ x ≤ 255 := by have := cutZ_byt hr.byt t 1; rw [hx] at this; exact this x (by simp)
  have HRP := Lib.hid (And.intro hr hp)
  clear h hr hp hx
  go_enter Try.func56, Try.ntmps56
  go_wp2_with fail
  refine c1.mono ?_
  rintro e w1 ⟨pv, rfl, ⟨r1, _⟩, q1, b1⟩
  rcases r1.rd.cases with ⟨h0, _⟩ | ⟨b, off, cap, rfl, _, hlc, hcap, _, hcell⟩
  · cases h0
  have hc0 : w1.cell? ⟨b, off, none⟩ = some (.int .u8 x) := hcell 0 (by simp)
  have c2 := cut_r HRP.out.1 HRP.out.2 hl q1 (by omega) x.toNat (by omega)
  rw [Int.toNat_of_nonneg hxb.1] at c2
  have hs1 : w.heap.size ≤ w1.heap.size := b1.size
  have HB := Lib.hid b1
  clear c1 q1 r1 hcell b1
  have v0 : wrap64 x = x := by unfold wrap64; omega
  go_wp2_with fail
  refine c2.mono ?_
  rintro e w2 ⟨pv, rfl, r2, q2, b2⟩
  obtain ⟨r2, p2⟩ := r2
  have R2 := Lib.hid (r2.mono hs1)
  have Q2 := Lib.hid q2
  have B2 := Lib.hid (HB.out.trans b2)
  clear c2 r2 q2 b2
  go_wp2_with fail
  go_ret
  exact ⟨_, rfl, ⟨R2.out, p2⟩, Q2.out, B2.out⟩
/-- A version: four bytes. -/
theorem numb_any {w0 w : World} {v : Value} {zs : List Int} {B A t : Nat} (hr : Rd w0 v zs) (hp : Plain v) (hl : zs.length ≤ 100000) (h : Cq w0 w v B A t) (ht : t ≤ 90000) :
    Calls Try.prog 37 #[cutF B A] w fun e w' => e = .returned (.int .i64 (say4 (cutZ zs t 4))) ∧ Cq w0 w' v B A (t + 4) ∧ But A w w' := by
  have c1 := cut_r hr hp hl h (by omega) 4 (by omega)
  have hby := cutZ_byt hr.byt t 4
  obtain ⟨x0, x1, x2, x3, hx⟩ := four (cutZ_len zs t 4)
  rw [hx] at c1 hby ⊢
  have b0 := hby x0 (by simp)
  have b1 := hby x1 (by simp)
  have b2 := hby x2 (by simp)
  have b3 := hby x3 (by simp)
  have a0 := fun w => arr_at0 w x0 x1 x2 x3
  have a1 := fun w => arr_at1 w x0 x1 x2 x3
  have a2 := fun w => arr_at2 w x0 x1 x2 x3
  have a3 := fun w => arr_at3 w x0 x1 x2 x3
  have e0 : bits BinOp.or IntKind.i64 0 x0 = x0 := by simpa using or8 0 x0 (by omega) (by omega) (by omega) (by omega)
  have w0' : wrap64 (x0 * 256) = x0 * 256 := by unfold wrap64; omega
  have e1 := or8 x0 x1 (by omega) (by omega) (by omega) (by omega)
  have w1' : wrap64 ((x0 * 256 + x1) * 256) = (x0 * 256 + x1) * 256 := by unfold wrap64; omega
  have e2 := or8 (x0 * 256 + x1) x2 (by omega) (by omega) (by omega) (by omega)
  have w2' : wrap64 (((x0 * 256 + x1) * 256 + x2) * 256) = ((x0 * 256 + x1) * 256 + x2) * 256 := by unfold wrap64; omega
  have e3 := or8 ((x0 * 256 + x1) * 256 + x2) x3 (by omega) (by omega) (by omega) (by omega)
  have v0 : wrap64 x0 = x0 := by unfold wrap64; omega
  have v1 : wrap64 x1 = x1 := by unfold wrap64; omega
  have v2 : wrap64 x2 = x2 := by unfold wrap64; omega
  have v3 : wrap64 x3 = x3 := by unfold wrap64; omega
  clear h hr hp hx b0 b1 b2 b3 hby
  go_enter Try.func37, Try.ntmps37
  go_wp2_with fail
  refine c1.mono ?_
  rintro e u1 ⟨pv, rfl, ⟨r1, _⟩, q1, b1⟩
  rcases r1.rd.cases with ⟨h0, _⟩ | ⟨b, off, cap, rfl, _, hlc, hcap, _, hc⟩
  · cases h0
  have hc0 : u1.cell? ⟨b, off, none⟩ = some (.int .u8 x0) := hc 0 (by simp)
  have hc1 : u1.cell? ⟨b, off + 1, none⟩ = some (.int .u8 x1) := hc 1 (by simp)
  have hc2 : u1.cell? ⟨b, off + 2, none⟩ = some (.int .u8 x2) := hc 2 (by simp)
  have hc3 : u1.cell? ⟨b, off + 3, none⟩ = some (.int .u8 x3) := hc 3 (by simp)
  have hp := fun w => arr_ptr w b off cap 4 (Nat.le_refl _)
  have Q1 := Lib.hid q1
  have B1 := Lib.hid b1
  clear c1 r1 q1 b1 hc
  go_wp2
  refine wp_loop_rounds 5 ?_
  rw [rounds_succ]
  go_wp2
  rw [rounds_succ]
  go_wp2
  rw [rounds_succ]
  go_wp2
  rw [rounds_succ]
  go_wp2
  rw [rounds_succ]
  go_wp2
  go_ret
  exact ⟨rfl, Q1.out, B1.out⟩
end Go.Proofs.Ytjdlmmbkppaenaa
