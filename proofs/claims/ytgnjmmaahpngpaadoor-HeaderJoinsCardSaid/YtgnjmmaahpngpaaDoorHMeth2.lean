/- header's reader: the methods whose regions draw their order; the first byte; which methods stand behind it. -/
import Derived.Test.YtgnjmmaahpngpaaDoorHMeth
import Derived.Deep.RegionHeld3
import Derived.RegionDies
namespace Go.Proofs.YtgnjmmaahpngpaaDoor
open Go Go.RowKit

theorem Fq.drew {w0 w : World} {B : Nat} {rest : List Int} {t : Nat} {short : Int} (h : Fq w0 w B rest t short) : Fq w0 w.drew B rest t short := ⟨h.bel.drew, h.lo, h.sum, h.box⟩
theorem Ra.drew {lo : Nat} {w : World} {v : Value} {zs : List Int} (h : Ra lo w v zs) : Ra lo w.drew v zs := ⟨h.rd.drew, h.far⟩
theorem Hs.drew {w0 w : World} {zs : List Int} {X : Nat × Obj} {R B : Nat} {s : Ps} (h : Hs w0 zs X R B s w) : Hs w0 zs X R B s w.drew := by
  obtain ⟨vt, vf, vk, hb, r1, r2, r3⟩ := h.box
  exact ⟨h.fq.drew, h.ord, h.tl, h.row, vt, vf, vk, hb, r1.drew, r2.drew, r3.drew⟩

set_option maxRecDepth 20000 in
set_option maxHeartbeats 2000000 in
theorem number_errW (zs : List Int) (w0 w : World) (X : Nat × Obj) (R B : Nat) (s : Ps) (h : Hs w0 zs X R B s w) (m : Nat) (hm : s.h.w = (m : Int)) (k : Int) (e : pFix zs m s.t = .error k) :
    Calls Tryd.prog 36 #[.pointer (some ⟨R, 0, none⟩)] w fun e w' => e = errPanic k ∧ Below w0.heap.size w0 w' := by
  obtain ⟨vt, vf, vk, c0, _, _, _, _, _, _, c7, c8, _, cf⟩ := h.cells
  have H := Lib.hid h.drew
  have hc := hfixed_err h.drew m e
  rw [← hm] at hc
  clear h hm e
  go_enter Tryd.func36, Tryd.ntmps36
  go_wp2_with fail
  go_region_dies
  all_goals go_wp2_with (go_at_call 34; refine hc.mono ?_; rintro e w1 ⟨he, hb⟩; rw [errPanic] at he; subst he)
  all_goals exact ⟨rfl, rfl, out_err H hb⟩
set_option maxRecDepth 20000 in
set_option maxHeartbeats 2000000 in
theorem number_okW (zs : List Int) (w0 w : World) (X : Nat × Obj) (R B : Nat) (s : Ps) (h : Hs w0 zs X R B s w) (m : Nat) (hm : s.h.w = (m : Int)) (h1 : 1 ≤ m) (h7 : m ≤ 7) (n : Int) (t' : Nat) (e : pFix zs m s.t = .ok (n, t')) :
    Calls Tryd.prog 36 #[.pointer (some ⟨R, 0, none⟩)] w fun e w' => e = .returned (.tuple #[]) ∧ Hs w0 zs X R B { s with h := { s.h with n := n }, t := t' } w' := by
  obtain ⟨vt, vf, vk, c0, _, _, _, _, _, _, c7, c8, _, cf⟩ := h.cells
  have hc := hfixed_ok h.drew m h1 h7 e
  rw [← hm] at hc
  clear h hm e
  go_enter Tryd.func36, Tryd.ntmps36
  go_wp2_with fail
  go_region_with (go_at_call 34; refine hc.mono ?_; rintro e w1 ⟨rfl, g1⟩; have HS := Lib.hid (g1.setn n); obtain ⟨vt1, vf1, vk1, _, _, _, _, _, _, _, d7, _, _, df⟩ := g1.cells; clear g1 hc)
  all_goals try go_wp2
  all_goals go_end0
  all_goals exact ⟨rfl, HS.out⟩
set_option maxRecDepth 20000 in
set_option maxHeartbeats 2000000 in
theorem does_whole (zs : List Int) : DoesAt zs 37 pWhole := by
  intro w0 w X R B s h
  refine ⟨fun s' e => ?_, fun k e => by (unfold pWhole at e; cases e)⟩
  obtain rfl : { s with e := (zs.length : Int) } = s' := by unfold pWhole at e; cases e; rfl
  obtain ⟨vt, vf, vk, c0, _, _, _, _, _, _, _, _, c9, cf⟩ := h.cells
  have ht := taken_q h.drew.fq
  have hq := left_q h.drew.fq
  have hl : ((s.t : Int) + ((zs.drop s.t).length : Int)) = (zs.length : Int) := by have := h.tl; simp only [List.length_drop]; omega
  have hlz : zs.length ≤ 1000000 := by have := h.fq.sum; simp only [List.length_drop] at this; omega
  have HS := Lib.hid (h.drew.sete (zs.length : Int))
  have hn : (zs.drop s.t).length ≤ 1000000 := by simp only [List.length_drop]; omega
  have hn2 : s.t ≤ 1000000 := by have := h.tl; omega
  generalize (zs.drop s.t).length = N at *
  have HL := Lib.hid hl
  clear h e hl
  have hw : IntKind.i64.wrap ((s.t : Int) + (N : Int)) = (s.t : Int) + (N : Int) := IntWalk.i64_in _ ⟨by omega, by omega⟩
  go_enter Tryd.func37, Tryd.ntmps37
  go_wp2_with fail
  go_region_with (first | (go_at_call 30; refine ht.mono ?_; rintro e w1 ⟨rfl, rfl⟩) | (go_at_call 45; refine hq.mono ?_; rintro e w1 ⟨rfl, rfl⟩))
  all_goals try go_wp2
  all_goals go_end0
  all_goals exact ⟨rfl, by first | (rw [HL.out]; exact HS.out) | exact HS.out⟩
#print axioms number_errW
#print axioms number_okW
#print axioms does_whole
end Go.Proofs.YtgnjmmaahpngpaaDoor
