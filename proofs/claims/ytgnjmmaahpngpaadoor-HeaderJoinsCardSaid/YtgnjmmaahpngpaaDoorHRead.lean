/- header.Read tells what readP says. -/
import Derived.Test.YtgnjmmaahpngpaaDoorHCatch
namespace Go.Proofs.YtgnjmmaahpngpaaDoor
open Go Go.RowKit

/-- A method of the reader in the box R, as a value. -/
def mth (R F : Nat) : Value := .func (.func F) #[.pointer (some ⟨R, 0, none⟩)] #[]
theorem make_fn (fn : Fn) (first cap : Array Value) (w : World) : (Instr.makeFunc fn first cap).run Tryd.prog w = .ok (.func fn first cap) w := rfl

set_option maxRecDepth 20000 in
set_option maxHeartbeats 2000000 in
theorem behind_short (w0 w : World) (zs : List Int) (X : Nat × Obj) (R B : Nat) (s : Ps) (h : Hs w0 zs X R B s w) (hk : s.h.k = 3) :
    Calls Tryd.prog 29 #[.pointer (some ⟨R, 0, none⟩)] w fun e w' => e = .returned (.slice (some ⟨w.heap.size, 0, none⟩) 3 3) ∧ w' = w.alloc (.cells #[mth R 35, mth R 36, mth R 37] 1) := by
  obtain ⟨vt, vf, vk, _, c1, _, _, _, _, _, _, _, _, _⟩ := h.cells
  have hmf := make_fn
  rw [hk] at c1
  clear h hk
  unfold mth
  go_enter Tryd.func29, Tryd.ntmps29
  go_wp2_with fail
  go_ret
  exact ⟨rfl, rfl⟩
set_option maxRecDepth 20000 in
set_option maxHeartbeats 2000000 in
theorem behind_first (w0 w : World) (zs : List Int) (X : Nat × Obj) (R B : Nat) (s : Ps) (h : Hs w0 zs X R B s w) (hk : s.h.k = 0) :
    Calls Tryd.prog 29 #[.pointer (some ⟨R, 0, none⟩)] w fun e w' => e = .returned (.slice (some ⟨w.heap.size, 0, none⟩) 6 6) ∧ w' = w.alloc (.cells #[mth R 38, mth R 39, mth R 40, mth R 41, mth R 42, mth R 36] 1) := by
  obtain ⟨vt, vf, vk, _, c1, _, _, _, _, _, _, _, _, _⟩ := h.cells
  have hmf := make_fn
  rw [hk] at c1
  clear h hk
  unfold mth
  go_enter Tryd.func29, Tryd.ntmps29
  go_wp2_with fail
  go_ret
  exact ⟨rfl, rfl⟩
set_option maxRecDepth 20000 in
set_option maxHeartbeats 2000000 in
theorem behind_long (w0 w : World) (zs : List Int) (X : Nat × Obj) (R B : Nat) (s : Ps) (h : Hs w0 zs X R B s w) (hk : s.h.k ≠ 0) (hk3 : s.h.k ≠ 3) :
    Calls Tryd.prog 29 #[.pointer (some ⟨R, 0, none⟩)] w fun e w' => e = .returned (.slice (some ⟨w.heap.size, 0, none⟩) 5 5) ∧ w' = w.alloc (.cells #[mth R 38, mth R 39, mth R 40, mth R 42, mth R 36] 1) := by
  obtain ⟨vt, vf, vk, _, c1, _, _, _, _, _, _, _, _, _⟩ := h.cells
  have hmf := make_fn
  have e0 : (s.h.k == 0) = false := by rw [beq_eq_false_iff_ne]; exact hk
  have e3 : (s.h.k == 3) = false := by rw [beq_eq_false_iff_ne]; exact hk3
  clear h hk hk3
  unfold mth
  go_enter Tryd.func29, Tryd.ntmps29
  go_wp2_with fail
  go_ret
  exact ⟨rfl, rfl⟩

/-- The methods behind the first byte, and what each does. -/
def plan (k : Int) : List (Nat × (List Int → Ps → Except Int Ps)) :=
  if k = 3 then [(35, pShortTo), (36, pNumber), (37, pWhole)]
  else if k = 0 then [(38, pVersion), (39, pTo), (40, pFrom), (41, pToken), (42, pLength), (36, pNumber)]
  else [(38, pVersion), (39, pTo), (40, pFrom), (42, pLength), (36, pNumber)]
theorem plan_steps (k : Int) : (plan k).map (·.2) = steps k := by
  unfold plan steps
  split
  · rfl
  · split <;> rfl
theorem plan_len (k : Int) : (plan k).length ≤ 6 := by
  unfold plan
  split
  · decide
  · split <;> simp
theorem behind_any (w0 w : World) (zs : List Int) (X : Nat × Obj) (R B : Nat) (s : Ps) (h : Hs w0 zs X R B s w) :
    Calls Tryd.prog 29 #[.pointer (some ⟨R, 0, none⟩)] w fun e w' => e = .returned (.slice (some ⟨w.heap.size, 0, none⟩) (plan s.h.k).length (plan s.h.k).length) ∧ w' = w.alloc (.cells ((plan s.h.k).map fun p => mth R p.1).toArray 1) := by
  unfold plan
  by_cases h3 : s.h.k = 3
  · rw [if_pos h3]; exact behind_short w0 w zs X R B s h h3
  · rw [if_neg h3]
    by_cases h0 : s.h.k = 0
    · rw [if_pos h0]; exact behind_first w0 w zs X R B s h h0
    · rw [if_neg h0]; exact behind_long w0 w zs X R B s h h0 h3
/-- A method that can be called, that does what it says, and lets the width be. -/
structure Stp (zs : List Int) (F : Nat) (f : List Int → Ps → Except Int Ps) : Prop where
  ent : ∀ (args : Array Value) (w : World), (callFunc F args).run Tryd.prog w = .ok (.enter F args) w
  does : ∀ (w0 w : World) (X : Nat × Obj) (R B : Nat) (s : Ps), Hs w0 zs X R B s w → 1 ≤ s.h.w ∧ s.h.w ≤ 4 →
    (∀ s', f zs s = .ok s' → Calls Tryd.prog F #[.pointer (some ⟨R, 0, none⟩)] w fun e w' => e = .returned (.tuple #[]) ∧ Hs w0 zs X R B s' w') ∧
    (∀ k, f zs s = .error k → Calls Tryd.prog F #[.pointer (some ⟨R, 0, none⟩)] w fun e w' => e = errPanic k ∧ Below w0.heap.size w0 w')
  keepw : ∀ s s', f zs s = .ok s' → s'.h.w = s.h.w
theorem enter_of {F : Nat} {fn : Func} (hf : Tryd.prog.funcs[F]? = some fn) (hn : (fn.name == "runtime.NumGoroutine") = false) (hb : fn.body.isNone = false) (args : Array Value) (w : World) : (callFunc F args).run Tryd.prog w = .ok (.enter F args) w := by
  have hn' : ¬ fn.name = "runtime.NumGoroutine" := by simpa using hn
  have hb' : ¬ fn.body = none := by intro e; rw [e] at hb; cases hb
  simp [callFunc, hf, hn', hb']
theorem stp_shortTo (zs : List Int) : Stp zs 35 pShortTo :=
  ⟨enter_of Tryd.func35 (by kernel_rfl) (by kernel_rfl), fun w0 w X R B s h _ => does_shortTo zs w0 w X R B s h, fun s s' e => by
    unfold pShortTo at e
    cases hx : pBytes zs 8 s.t with
    | error k => rw [hx] at e; cases e
    | ok x => rw [hx] at e; cases e; rfl⟩
theorem stp_version (zs : List Int) (hz : Byt zs) : Stp zs 38 pVersion :=
  ⟨enter_of Tryd.func38 (by kernel_rfl) (by kernel_rfl), fun w0 w X R B s h _ => does_version zs hz w0 w X R B s h, fun s s' e => by
    unfold pVersion at e
    cases hx : pFix zs 4 s.t with
    | error k => rw [hx] at e; cases e
    | ok x => rw [hx] at e; simp only at e; split at e; (cases e; rfl); cases e⟩
theorem stp_to (zs : List Int) (hz : Byt zs) : Stp zs 39 pTo :=
  ⟨enter_of Tryd.func39 (by kernel_rfl) (by kernel_rfl), fun w0 w X R B s h _ => does_to zs hz w0 w X R B s h, fun s s' e => by
    unfold pTo at e
    cases hx : pName zs s.t with
    | error k => rw [hx] at e; cases e
    | ok x => rw [hx] at e; cases e; rfl⟩
theorem stp_from (zs : List Int) (hz : Byt zs) : Stp zs 40 pFrom :=
  ⟨enter_of Tryd.func40 (by kernel_rfl) (by kernel_rfl), fun w0 w X R B s h _ => does_from zs hz w0 w X R B s h, fun s s' e => by
    unfold pFrom at e
    cases hx : pName zs s.t with
    | error k => rw [hx] at e; cases e
    | ok x => rw [hx] at e; cases e; rfl⟩
theorem stp_token (zs : List Int) (hz : Byt zs) : Stp zs 41 pToken :=
  ⟨enter_of Tryd.func41 (by kernel_rfl) (by kernel_rfl), fun w0 w X R B s h _ => does_token zs hz w0 w X R B s h, fun s s' e => by
    unfold pToken at e
    cases hx : pTok zs s.t with
    | error k => rw [hx] at e; cases e
    | ok x => rw [hx] at e; cases e; rfl⟩
theorem stp_length (zs : List Int) (hz : Byt zs) : Stp zs 42 pLength :=
  ⟨enter_of Tryd.func42 (by kernel_rfl) (by kernel_rfl), fun w0 w X R B s h _ => does_length zs hz w0 w X R B s h, fun s s' e => by
    unfold pLength at e
    cases hx : pVar zs s.t with
    | error k => rw [hx] at e; cases e
    | ok x => rw [hx] at e; simp only at e; split at e; cases e; split at e; cases e; cases e; rfl⟩
theorem stp_whole (zs : List Int) : Stp zs 37 pWhole :=
  ⟨enter_of Tryd.func37 (by kernel_rfl) (by kernel_rfl), fun w0 w X R B s h _ => does_whole zs w0 w X R B s h, fun s s' e => by unfold pWhole at e; cases e; rfl⟩
theorem stp_number (zs : List Int) : Stp zs 36 pNumber :=
  ⟨enter_of Tryd.func36 (by kernel_rfl) (by kernel_rfl), fun w0 w X R B s h hw => (by
    obtain ⟨m, hm⟩ : ∃ m : Nat, s.h.w = (m : Int) := ⟨s.h.w.toNat, by omega⟩
    have ht : s.h.w.toNat = m := by omega
    refine ⟨fun s' e => ?_, fun k e => ?_⟩
    · unfold pNumber at e
      rw [ht] at e
      cases hx : pFix zs m s.t with
      | error k => rw [hx] at e; cases e
      | ok x => obtain ⟨n, t⟩ := x; rw [hx] at e; cases e; exact number_okW zs w0 w X R B s h m hm (by omega) (by omega) n t hx
    · unfold pNumber at e
      rw [ht] at e
      cases hx : pFix zs m s.t with
      | error k => rw [hx] at e; cases e; exact number_errW zs w0 w X R B s h m hm _ hx
      | ok x => rw [hx] at e; cases e), fun s s' e => by
    unfold pNumber at e
    cases hx : pFix zs s.h.w.toNat s.t with
    | error k => rw [hx] at e; cases e
    | ok x => rw [hx] at e; cases e; rfl⟩
theorem plan_stp (zs : List Int) (hz : Byt zs) (k : Int) : ∀ p ∈ plan k, Stp zs p.1 p.2 := by
  intro p hp
  unfold plan at hp
  split at hp
  · simp only [List.mem_cons, List.not_mem_nil, or_false] at hp
    rcases hp with rfl | rfl | rfl
    · exact stp_shortTo zs
    · exact stp_number zs
    · exact stp_whole zs
  · split at hp
    · simp only [List.mem_cons, List.not_mem_nil, or_false] at hp
      rcases hp with rfl | rfl | rfl | rfl | rfl | rfl
      · exact stp_version zs hz
      · exact stp_to zs hz
      · exact stp_from zs hz
      · exact stp_token zs hz
      · exact stp_length zs hz
      · exact stp_number zs
    · simp only [List.mem_cons, List.not_mem_nil, or_false] at hp
      rcases hp with rfl | rfl | rfl | rfl | rfl
      · exact stp_version zs hz
      · exact stp_to zs hz
      · exact stp_from zs hz
      · exact stp_length zs hz
      · exact stp_number zs
#print axioms behind_any
#print axioms plan_stp
end Go.Proofs.YtgnjmmaahpngpaaDoor
