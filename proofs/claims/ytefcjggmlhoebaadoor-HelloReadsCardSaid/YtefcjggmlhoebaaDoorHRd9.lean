/- hello.Read tells what bytes are as a message. -/
import Derived.Test.YtefcjggmlhoebaaDoorHRd7
import Derived.Defers
import Derived.Recover
import Derived.Test.YtefcjggmlhoebaaDoorSLst
namespace Go.Proofs.YtefcjggmlhoebaaDoor
open Go Go.RowKit

theorem assert_errnoH (k : Int) (w : World) : (Instr.typeAssert (.iface 35 (.int .i64 k)) 20 35 false).run Tryd.prog w = .ok (.int .i64 k) w := by
  kernel_rfl
/-- The two result boxes, one behind the other. -/
structure Hbx (H : Nat) (w : World) : Prop where
  h : ∃ z0 z1 z2 z3 z4 z5 z6 z7 z8 z9, w.heap[H]? = some (.cells #[z0, z1, z2, z3, z4, z5, z6, z7, z8, z9] 28 (0, 0))
  x : ∃ v, w.heap[H + 1]? = some (.cells #[v] 35 (0, 0))
theorem Hbx.keep {H : Nat} {w w' : World} (h : Hbx H w) (h0 : w'.heap[H]? = w.heap[H]?) (h1 : w'.heap[H + 1]? = w.heap[H + 1]?) : Hbx H w' := ⟨by rw [h0]; exact h.h, by rw [h1]; exact h.x⟩
/-- What they hold. -/
structure Hld (H : Nat) (cs : Array Value) (x : Value) (w : World) : Prop where
  h : w.heap[H]? = some (.cells cs 28 (0, 0))
  x : w.heap[H + 1]? = some (.cells #[x] 35 (0, 0))
theorem hld_of {w : World} {H : Nat} (hb : Hbx H w) (c0 c1 c2 c3 c4 c5 c6 c7 c8 c9 x : Value) :
    Hld H #[c0, c1, c2, c3, c4, c5, c6, c7, c8, c9] x (((((((((((w.setCell ⟨H, 0, none⟩ c0).setCell ⟨H, 1, none⟩ c1).setCell ⟨H, 2, none⟩ c2).setCell ⟨H, 3, none⟩ c3).setCell ⟨H, 4, none⟩ c4).setCell ⟨H, 5, none⟩ c5).setCell ⟨H, 6, none⟩ c6).setCell ⟨H, 7, none⟩ c7).setCell ⟨H, 8, none⟩ c8).setCell ⟨H, 9, none⟩ c9).setCell ⟨H + 1, 0, none⟩ x) ∧ Below H w (((((((((((w.setCell ⟨H, 0, none⟩ c0).setCell ⟨H, 1, none⟩ c1).setCell ⟨H, 2, none⟩ c2).setCell ⟨H, 3, none⟩ c3).setCell ⟨H, 4, none⟩ c4).setCell ⟨H, 5, none⟩ c5).setCell ⟨H, 6, none⟩ c6).setCell ⟨H, 7, none⟩ c7).setCell ⟨H, 8, none⟩ c8).setCell ⟨H, 9, none⟩ c9).setCell ⟨H + 1, 0, none⟩ x) ∧ (∀ k, k < w.heap.size → k ≠ H → k ≠ H + 1 → (((((((((((w.setCell ⟨H, 0, none⟩ c0).setCell ⟨H, 1, none⟩ c1).setCell ⟨H, 2, none⟩ c2).setCell ⟨H, 3, none⟩ c3).setCell ⟨H, 4, none⟩ c4).setCell ⟨H, 5, none⟩ c5).setCell ⟨H, 6, none⟩ c6).setCell ⟨H, 7, none⟩ c7).setCell ⟨H, 8, none⟩ c8).setCell ⟨H, 9, none⟩ c9).setCell ⟨H + 1, 0, none⟩ x).heap[k]? = w.heap[k]?) := by
  obtain ⟨⟨z0, z1, z2, z3, z4, z5, z6, z7, z8, z9, hh⟩, v, hx⟩ := hb
  obtain ⟨hG, hB⟩ := chain10h c0 c1 c2 c3 c4 c5 c6 c7 c8 c9 hh
  have hx2 := hB.block (H + 1) (Array.getElem?_eq_some_iff.1 hx).1 (by omega)
  rw [hx] at hx2
  generalize ((((((((((w.setCell ⟨H, 0, none⟩ c0).setCell ⟨H, 1, none⟩ c1).setCell ⟨H, 2, none⟩ c2).setCell ⟨H, 3, none⟩ c3).setCell ⟨H, 4, none⟩ c4).setCell ⟨H, 5, none⟩ c5).setCell ⟨H, 6, none⟩ c6).setCell ⟨H, 7, none⟩ c7).setCell ⟨H, 8, none⟩ c8).setCell ⟨H, 9, none⟩ c9) = w8 at *
  have e := heap_setCell_same w8 (H + 1) 0 _ 35 x hx2
  simp at e
  have hb2 := But.set w8 (H + 1) 0 x
  refine ⟨⟨by rw [hb2.block H (Array.getElem?_eq_some_iff.1 hG).1 (by omega)]; exact hG, e⟩, ⟨hb2.os.trans hB.os, hb2.tape.trans hB.tape, hb2.output.trans hB.output, Nat.le_trans hB.size hb2.size, fun k hk => ?_⟩, fun k hk h1 h2 => (hb2.block k (Nat.lt_of_lt_of_le hk hB.size) h2).trans (hB.block k hk h1)⟩
  have hkl : k < w.heap.size := by have := (Array.getElem?_eq_some_iff.1 hx).1; omega
  exact (hb2.block k (Nat.lt_of_lt_of_le hkl hB.size) (by omega)).trans (hB.block k hkl (by omega))
theorem hld_drew {H : Nat} {cs : Array Value} {x : Value} {w w' : World} (h : Hld H cs x w') (hb : Below H w w') : Hld H cs x w'.drew ∧ Below H w w'.drew := ⟨⟨h.h, h.x⟩, hb.drew⟩
/-- No message. -/
def zM : Array Value := #[.int .i64 0, .int .i64 0, .int .i64 0, .int .i64 0, .int .i64 0, .bool false, .slice none 0 0, .string ⟨#[]⟩, .int .i64 0, .int .i64 0]

set_option maxRecDepth 20000 in
set_option maxHeartbeats 2000000 in
theorem hcatch_idle (H : Nat) (w : World) :
    CallsD Tryd.prog 37 #[.pointer (some ⟨H, 0, none⟩), .pointer (some ⟨H + 1, 0, none⟩)] .returning w fun e u' w' => e = .returned (.tuple #[]) ∧ u' = .returning ∧ w = w' := by
  refine callsD_of_wpS Tryd.func37 rfl fun c₀ cs hu => ?_
  apply wpS_seq
  apply wpS_region
  simp [wpOpsS, go_sem, recoverD, hu, Tryd.ntmps37, Exit.thenS]
  apply wpS_seq
  apply wpS_region
  simp [wpOpsS, go_sem, Exit.thenS]
  refine wpS_cond (t := false) (by simp [Act.eval, Array.replicate]) ?_
  simp only [Bool.false_eq_true, if_false]
  refine wpS_of_wp (wp_skip ?_)
  cases c₀
  simp_all [bodyPostS, results, Tryd.results37]

set_option maxRecDepth 20000 in
set_option maxHeartbeats 2000000 in
theorem hcatch_panicking (H : Nat) (w : World) (k : Int) (hb : Hbx H w) :
    CallsD Tryd.prog 37 #[.pointer (some ⟨H, 0, none⟩), .pointer (some ⟨H + 1, 0, none⟩)] (.panicking [{ v := .iface 35 (.int .i64 k), recovered := false }]) w fun e u' w' => e = .returned (.tuple #[]) ∧ u' = .panicking [{ v := .iface 35 (.int .i64 k), recovered := true }] ∧ Hld H zM (.int .i64 k) w' ∧ Below H w w' := by
  have hld := hld_of hb (.int .i64 0) (.int .i64 0) (.int .i64 0) (.int .i64 0) (.int .i64 0) (.bool false) (.slice none 0 0) (.string ⟨#[]⟩) (.int .i64 0) (.int .i64 0) (.int .i64 k)
  have HL := Lib.hid (hld_drew hld.1 hld.2.1)
  clear hld
  obtain ⟨⟨z0, z1, z2, z3, z4, z5, z6, z7, z8, z9, hh⟩, v, hx⟩ := hb
  have hcc := fun i => cell_of_row w H i _ 28 (0, 0) hh
  have a0 := hcc 0
  have a1 := hcc 1
  have a2 := hcc 2
  have a3 := hcc 3
  have a4 := hcc 4
  have a5 := hcc 5
  have a6 := hcc 6
  have a7 := hcc 7
  have a8 := hcc 8
  have a9 := hcc 9
  have af : ∀ j, w.frozen? ⟨H, j, none⟩ = false := fun j => by simp [World.frozen?, hh]
  have b2 := cell_of_row w (H + 1) 0 _ 35 (0, 0) hx
  have g2 : w.frozen? ⟨H + 1, 0, none⟩ = false := by simp [World.frozen?, hx]
  clear hcc
  have hta := assert_errnoH k
  refine callsD_of_wpS Tryd.func37 rfl fun c₀ cs hu => ?_
  apply wpS_seq
  apply wpS_region
  simp [wpOpsS, go_sem, recoverD, hu, Tryd.ntmps37, Exit.thenS]
  apply wpS_seq
  apply wpS_region
  simp [wpOpsS, go_sem, Exit.thenS]
  refine wpS_cond (t := true) (by simp [Act.eval, Array.replicate]) ?_
  simp only [if_true]
  refine wpS_of_wp ?_
  simp [Array.replicate]
  go_region
  all_goals
    refine ⟨rfl, _, rfl, .tuple #[], ?_, rfl, rfl, HL.out⟩
    simp [results, Tryd.results37, go_sem]
set_option maxRecDepth 20000 in
theorem hread_results (tmps : Array Value) (w : World) (H : Nat) (c0 c1 c2 c3 c4 c5 c6 c7 c8 c9 : Value) (x : Int) (h2 : tmps[2]?.getD undef = .pointer (some ⟨H, 0, none⟩)) (h3 : tmps[3]?.getD undef = .pointer (some ⟨H + 1, 0, none⟩)) (hL : Hld H #[c0, c1, c2, c3, c4, c5, c6, c7, c8, c9] (.int .i64 x) w) :
    (results Tryd.f16 tmps).run Tryd.prog w = .ok (.tuple #[.agg #[c0, c1, c2, c3, c4, c5, c6, c7, c8, c9], .int .i64 x]) w := by
  have hcc := fun i => cell_of_row w H i _ 28 (0, 0) hL.h
  have a0 := hcc 0
  have a1 := hcc 1
  have a2 := hcc 2
  have a3 := hcc 3
  have a4 := hcc 4
  have a5 := hcc 5
  have a6 := hcc 6
  have a7 := hcc 7
  have a8 := hcc 8
  have a9 := hcc 9
  clear hcc
  have b2 := cell_of_row w (H + 1) 0 _ 35 (0, 0) hL.x
  simp [results, Tryd.results16, h2, h3, asAddr, a0, a1, a2, a3, a4, a5, a6, a7, a8, a9, b2, go_sem]
/-- Behind a return: the results are those that the boxes hold. -/
theorem hdoor_idle (tmps : Array Value) (w : World) (H : Nat) (c0 c1 c2 c3 c4 c5 c6 c7 c8 c9 : Value) (x : Int) (h2 : tmps[2]?.getD undef = .pointer (some ⟨H, 0, none⟩)) (h3 : tmps[3]?.getD undef = .pointer (some ⟨H + 1, 0, none⟩))
    (hL : Hld H #[c0, c1, c2, c3, c4, c5, c6, c7, c8, c9] (.int .i64 x) w) {R : Ending → World → Prop} (hR : R (.returned (.tuple #[.agg #[c0, c1, c2, c3, c4, c5, c6, c7, c8, c9], .int .i64 x])) w) :
    bodyPostD Tryd.prog Tryd.f16 R .ret ⟨tmps, [{ target := Target.fn (Fn.func 37) #[.pointer (some ⟨H, 0, none⟩), .pointer (some ⟨H + 1, 0, none⟩)], args := #[] }]⟩ w := by
  refine leaves_cons (f := 37) (args := #[.pointer (some ⟨H, 0, none⟩), .pointer (some ⟨H + 1, 0, none⟩)]) (by simp) (by simp [go_sem]) ?_
  refine (hcatch_idle H w).mono ?_
  rintro e' u' w'' ⟨rfl, rfl, rfl⟩
  exact ⟨_, hread_results tmps w H c0 c1 c2 c3 c4 c5 c6 c7 c8 c9 x h2 h3 hL, hR⟩
/-- Behind a panic of an error's number: no message, and the error. -/
theorem hdoor_panic (tmps : Array Value) (w : World) (H : Nat) (k : Int) (hB : Hbx H w) (h2 : tmps[2]?.getD undef = .pointer (some ⟨H, 0, none⟩)) (h3 : tmps[3]?.getD undef = .pointer (some ⟨H + 1, 0, none⟩))
    {R : Ending → World → Prop} (hR : ∀ w', Below H w w' → R (.returned (.tuple #[.agg zM, .int .i64 k])) w') :
    bodyPostD Tryd.prog Tryd.f16 R (.panic [{ v := .iface 35 (.int .i64 k), recovered := false }]) ⟨tmps, [{ target := Target.fn (Fn.func 37) #[.pointer (some ⟨H, 0, none⟩), .pointer (some ⟨H + 1, 0, none⟩)], args := #[] }]⟩ w := by
  refine leaves_cons (f := 37) (args := #[.pointer (some ⟨H, 0, none⟩), .pointer (some ⟨H + 1, 0, none⟩)]) (by simp) (by simp [go_sem]) ?_
  refine (hcatch_panicking H w k hB).mono ?_
  rintro e' u' w'' ⟨rfl, rfl, hL, hb⟩
  exact ⟨_, hread_results tmps w'' H _ _ _ _ _ _ _ _ _ _ k h2 h3 hL, hR w'' hb⟩
end Go.Proofs.YtefcjggmlhoebaaDoor
namespace Go.Proofs.YtefcjggmlhoebaaDoor
open Go Go.RowKit

theorem hparse_le {zs : List Int} (hb : Byt zs) {k : Int} {t t' : Nat} {x : Hm} (h : hParse zs k t = some (x, t')) (ht : t ≤ zs.length) : t' ≤ zs.length := by
  unfold hParse at h
  by_cases k1 : k = 1
  · rw [if_pos k1] at h
    repeat' split at h
    all_goals cases h
    rename_i v6 _ _ v7
    obtain ⟨_, _, f3⟩ := hgive_inv hb v6
    exact (htermif_inv hb v7 f3).2.2.2
  rw [if_neg k1] at h
  by_cases k2 : k = 2
  · rw [if_pos k2] at h
    repeat' split at h
    all_goals cases h
    rename_i v4
    obtain ⟨d1, d2⟩ := hflag_inv v4
    have := congrArg List.length d1
    simp only [List.length_drop, List.length_cons] at this
    omega
  rw [if_neg k2] at h
  by_cases k4 : k = 4
  · rw [if_pos k4] at h
    repeat' split at h
    all_goals cases h
    rename_i v2
    exact (gvar_bd hb v2).2.2
  rw [if_neg k4] at h
  by_cases k8 : k = 8
  · rw [if_pos k8] at h
    repeat' split at h
    all_goals cases h
    rename_i v2
    exact (hgive_inv hb v2).2.2
  rw [if_neg k8] at h
  by_cases k11 : k = 11
  · rw [if_pos k11] at h
    cases h; omega
  rw [if_neg k11] at h
  repeat' split at h
  all_goals cases h
  rename_i v1
  exact (gterm_inv hb v1 ht).2.2.2
/-- Of one message's bytes. -/
theorem hread_mes {ok : List Int → Bool} {zs : List Int} (hb : Byt zs) (h : oneH zs) : hRead ok zs = mesP ok zs := by
  unfold hRead mesP
  rw [if_pos h]
  cases hh : hParse zs (zs.getD 0 0) 4 with
  | none => rfl
  | some y =>
    obtain ⟨x, t⟩ := y
    simp only
    have hle := hparse_le hb hh h.1
    have hi := rightB_iff ok x
    by_cases h1 : t = zs.length ∧ rightM ok x
    · rw [if_pos h1, hi.2 h1.2, decide_eq_true (show zs.length ≤ t by omega)]
      rfl
    · rw [if_neg h1]
      cases hr : rightB (ok x.p) x with
      | false => rw [Bool.and_false]; rfl
      | true =>
        rw [decide_eq_false (show ¬ zs.length ≤ t from fun e => h1 ⟨by omega, hi.1 hr⟩)]
        rfl
/-- What Read tells. -/
def HRP (ok : List Int → Bool) (zs : List Int) (w : World) (e : Ending) (w' : World) : Prop :=
  ∃ x vp n, e = .returned (.tuple #[mAgg x vp, .int .i64 n]) ∧ Rd w' vp x.p ∧ Plain vp ∧ Below w.heap.size w w' ∧ ((n = 3 ∧ hRead ok zs = none ∧ x = hNew 0) ∨ (n = 0 ∧ hRead ok zs = some x))
theorem hrp_no {ok : List Int → Bool} {zs : List Int} {w w' : World} (h : hRead ok zs = none) (hb : Below w.heap.size w w') : HRP ok zs w (.returned (.tuple #[.agg zM, .int .i64 3])) w' :=
  ⟨hNew 0, .slice none 0 0, 3, rfl, Rd.nil _, .inl rfl, hb, .inl ⟨rfl, h, rfl⟩⟩
/-- The two boxes, as they are made. -/
def bhW (w : World) : World := (w.alloc (.cells zM 28)).alloc (.cells #[.int .i64 0] 35)
theorem bhW_below (w : World) : Below w.heap.size w (bhW w) := ((below_alloc w _).alloc (by simp) _)
theorem bhW_size (w : World) : (bhW w).heap.size = w.heap.size + 2 := by simp [bhW]
theorem heap_alloc2_newH (w : World) (o o' : Obj) : ((w.alloc o).alloc o').heap[w.heap.size + 1]? = some o' := by
  have := heap_alloc_new (w.alloc o) o'
  simpa using this
/-- The two boxes, as they were made. -/
structure Hz (H : Nat) (w : World) : Prop where
  h : w.heap[H]? = some (.cells zM 28 (0, 0))
  x : w.heap[H + 1]? = some (.cells #[.int .i64 0] 35 (0, 0))
theorem Hz.bx {H : Nat} {w : World} (h : Hz H w) : Hbx H w := ⟨⟨_, _, _, _, _, _, _, _, _, _, h.h⟩, ⟨_, h.x⟩⟩
theorem Hz.keep {H : Nat} {w w' : World} (h : Hz H w) (h0 : w'.heap[H]? = w.heap[H]?) (h1 : w'.heap[H + 1]? = w.heap[H + 1]?) : Hz H w' := ⟨by rw [h0]; exact h.h, by rw [h1]; exact h.x⟩
theorem bhW_bx (w : World) : Hz w.heap.size (bhW w) :=
  ⟨(Below.heap_alloc _ _ w.heap.size (by simp)).trans (heap_alloc_new w _), heap_alloc2_newH w _ _⟩
set_option maxRecDepth 20000 in
set_option maxHeartbeats 4000000 in
theorem hread_any {ok : List Int → Bool} (hp : PrOk ok) (hv : VrOk) {w : World} {v : Value} {zs : List Int} (hr : Rd w v zs) (hpl : Plain v) (hl : zs.length ≤ 1000000) :
    Calls Tryd.prog 16 #[v] w (HRP ok zs w) := by
  have hB2 := bhW_below w
  have hsz := bhW_size w
  have hms := msgs_any (hr.below hB2) hpl hl
  obtain ⟨ao, cap, rfl⟩ := hr.shape
  have HB2 := Lib.hid hB2
  have HBX := Lib.hid (bhW_bx w)
  have HSZ := Lib.hid hsz
  have hbt := hr.byt
  clear hB2 hr hpl hsz
  unfold bhW zM at *
  go_enter_defers Tryd.func16, Tryd.ntmps16
  go_wp2_with fail
  generalize (w.alloc (.cells #[.int .i64 0, .int .i64 0, .int .i64 0, .int .i64 0, .int .i64 0, .bool false, .slice none 0 0, .string ⟨#[]⟩, .int .i64 0, .int .i64 0] 28)).alloc (.cells #[.int .i64 0] 35) = W0 at *
  refine hms.mono ?_
  rintro e w1 hpost
  obtain ⟨a, c, n, k, rfl, hb1, hcase⟩ := hpost.one hbt
  have HB1 := Lib.hid hb1
  clear hms hpost hb1
  have HK1 : Hid (∀ w3, Below w1.heap.size w1 w3 → Hz w.heap.size w3 ∧ Below w.heap.size w w3) := Lib.hid fun w3 hk => by
    have hsz := HSZ.out
    have hs2 := HB1.out.size
    have h0 := HBX.out.keep (w' := w1) (HB1.out.block _ (by omega)) (HB1.out.block _ (by omega))
    refine ⟨h0.keep (hk.block _ (by omega)) (hk.block _ (by omega)), ?_⟩
    exact (HB2.out.trans (HB1.out.mono (by omega))).trans (hk.mono (by omega))
  rcases hcase with ⟨rfl, rfl, hone, g, x, b, q, rfl, hcell, hrd⟩ | ⟨_, hne, hnone⟩
  case inr =>
    have HNO : Hid (hRead ok zs = none) := Lib.hid (hread_no hnone)
    clear hnone
    go_wp2_with (go_at_call 39; refine (want_no _ _).mono ?_; rintro e w9 ⟨he, rfl⟩; rw [errPanic] at he; subst he)
    exact hdoor_panic _ _ w.heap.size 3 (HK1.out _ (Below.refl _ _)).1.bx rfl rfl fun w' hb => hrp_no HNO.out ((HK1.out _ (Below.refl _ _)).2.trans hb)
  have HRE := Lib.hid (hread_mes (ok := ok) hbt hone)
  have h4 := hone.1
  have hof := of_q (short := 3) hrd (.inr ⟨_, _, _, _, rfl⟩) hl
  have hE : ((1 : Int) == 1) = true := rfl
  clear hone
  go_wp2_with (first
    | (go_at_call 39; refine (want_yes _ _).mono ?_; rintro e w9 ⟨rfl, rfl⟩)
    | (go_at_call 40; refine hof.mono ?_; rintro e w2 ⟨rfl, hF, rfl⟩))
  have h2 := heap_alloc2_newH w1 (.cells #[.slice (some ⟨x, b, none⟩) zs.length q, .int .i64 0, .int .i64 3] 87) (.cells #[.pointer (some ⟨w1.heap.size, 0, none⟩), .int .i64 0, .int .i64 0, .int .i64 0, .int .i64 0, .int .i64 0, .bool false, .slice none 0 0, .string ⟨#[]⟩, .int .i64 0, .int .i64 0] 59)
  have hF2 := hF.keep (below_alloc (w1.alloc (.cells #[.slice (some ⟨x, b, none⟩) zs.length q, .int .i64 0, .int .i64 3] 87)) (.cells #[.pointer (some ⟨w1.heap.size, 0, none⟩), .int .i64 0, .int .i64 0, .int .i64 0, .int .i64 0, .int .i64 0, .bool false, .slice none 0 0, .string ⟨#[]⟩, .int .i64 0, .int .i64 0] 59))
  have hs2 : w1.heap.size + 2 ≤ ((w1.alloc (.cells #[.slice (some ⟨x, b, none⟩) zs.length q, .int .i64 0, .int .i64 3] 87)).alloc (.cells #[.pointer (some ⟨w1.heap.size, 0, none⟩), .int .i64 0, .int .i64 0, .int .i64 0, .int .i64 0, .int .i64 0, .bool false, .slice none 0 0, .string ⟨#[]⟩, .int .i64 0, .int .i64 0] 59)).heap.size := by simp
  clear hF hof hcell hrd
  generalize (w1.alloc (.cells #[.slice (some ⟨x, b, none⟩) zs.length q, .int .i64 0, .int .i64 3] 87)).alloc (.cells #[.pointer (some ⟨w1.heap.size, 0, none⟩), .int .i64 0, .int .i64 0, .int .i64 0, .int .i64 0, .int .i64 0, .bool false, .slice none 0 0, .string ⟨#[]⟩, .int .i64 0, .int .i64 0] 59) = w2 at *
  have hg : Hq w2 (w1.heap.size + 1) w1.heap.size w2.heap.size (hNew 0) (.slice none 0 0) := ⟨h2, ⟨Rd.nil _, fun _ _ _ h => by cases h⟩, .inl rfl, by omega, by omega, Nat.le_refl _⟩
  have hm := message_m hp hv hg hF2 hbt (Nat.le_refl _) h4 hl
  have HK2 : Hid (∀ w3, Kq (w1.heap.size + 1) w1.heap.size w2 w3 → Hz w.heap.size w3 ∧ Below w.heap.size w w3) := Lib.hid fun w3 hk => HK1.out w3 (by
    have hb := hF2.bel
    exact hb.trans ⟨hk.os, hk.tape, hk.output, hk.size, fun j hj => hk.block j (by have := hb.size; omega) (by omega) (by omega)⟩)
  have HLO : Hid (w.heap.size + 2 ≤ w2.heap.size) := Lib.hid (by have := HSZ.out; have := HB1.out.size; omega)
  clear hg h2 hF2 hs2 hE
  refine hm.mono ?_
  unfold Hmes
  rintro e w3 (⟨he, hk, hno⟩ | ⟨y, vp, rfl, hyes, hra, hpl, hk⟩)
  · have HNO : Hid (hRead ok zs = none) := Lib.hid (by rw [HRE.out, hno])
    have HK3 := Lib.hid (HK2.out w3 hk)
    rw [errPanic] at he
    subst he
    clear hno hk hm
    go_wp2_with fail
    exact hdoor_panic _ _ w.heap.size 3 HK3.out.1.bx rfl rfl fun w' hb => hrp_no HNO.out (HK3.out.2.trans hb)
  · have HYES : Hid (hRead ok zs = some y) := Lib.hid (by rw [HRE.out, hyes])
    have HK3 := Lib.hid (HK2.out w3 hk)
    obtain ⟨av, ac, rfl⟩ := hra.rd.shape
    have hld := hld_of HK3.out.1.bx (.int .i64 y.k) (.int .i64 y.r) (.int .i64 y.s) (.int .i64 y.t) (.int .i64 y.m) (.bool y.f) (.slice av y.p.length ac) (.string (bstr y.n)) (.int .i64 y.v) (.int .i64 y.l) (.int .i64 0)
    have hrd := (hra.keep (w' := _) fun j hj hlo => hld.2.2 j hj (by have := HLO.out; omega) (by have := HLO.out; omega)).rd
    have HLD := Lib.hid hld
    have HRD := Lib.hid hrd
    have HPL := Lib.hid hpl
    have hh := HK3.out.1.h
    have hx := HK3.out.1.x
    have hcc := fun i => cell_of_row w3 w.heap.size i _ 28 (0, 0) hh
    have q0 := hcc 0
    have q1 := hcc 1
    have q2 := hcc 2
    have q3 := hcc 3
    have q4 := hcc 4
    have q5 := hcc 5
    have q6 := hcc 6
    have q7 := hcc 7
    have q8 := hcc 8
    have q9 := hcc 9
    have qf : ∀ j, w3.frozen? ⟨w.heap.size, j, none⟩ = false := fun j => by simp [World.frozen?, hh]
    have qx := cell_of_row w3 (w.heap.size + 1) 0 _ 35 (0, 0) hx
    have qg : w3.frozen? ⟨w.heap.size + 1, 0, none⟩ = false := by simp [World.frozen?, hx]
    unfold zM at q0 q1 q2 q3 q4 q5 q6 q7 q8 q9
    clear hcc hh hx hld hyes hra hk hm hrd hpl
    unfold mAgg mcl
    go_wp2_with fail
    exact hdoor_idle _ _ w.heap.size _ _ _ _ _ _ _ _ _ _ 0 rfl rfl HLD.out.1 ⟨y, _, 0, rfl, HRD.out, HPL.out, HK3.out.2.trans HLD.out.2.1, .inr ⟨rfl, HYES.out⟩⟩
#print axioms hread_any
end Go.Proofs.YtefcjggmlhoebaaDoor
