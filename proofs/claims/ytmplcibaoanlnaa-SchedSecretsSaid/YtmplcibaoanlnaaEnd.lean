/- Regions that draw their order: a condition on the world that is held until an operation e has come up, so that what waits for no more than that may be taken first, though e makes the condition false. -/
import Derived.Test.YtmplcibaoanlnaaKit
import Derived.Deep.RegionHeld3
import Derived.Deep.DrawnRows
namespace Go.Proofs.Ytmplcibaoanlnaa
open Go Go.RowKit

section
variable {P : Program} {md : Region.Mode} {ops : Array Oper} {Q : Exit → Act → World → Prop}
/-- Whatever order is picked from here on, and C holds behind every operation till e has come up. -/
def wpAnyE (P : Program) (md : Region.Mode) (ops : Array Oper) (Q : Exit → Act → World → Prop) (e : Nat) (C : World → Prop) : Nat → Array Bool → Act → World → Prop
  | 0, listed, a, w => Region.ready md ops listed = [] ∧ Q .normal a w
  | fuel + 1, listed, a, w =>
    (Region.ready md ops listed = [] → Q .normal a w) ∧
    ∀ i ∈ Region.ready md ops listed, wpOp P ops Q i (fun a' w' => ((listed.setIfInBounds i true).getD e true = false → C w') ∧ wpAnyE P md ops Q e C fuel (listed.setIfInBounds i true) a' w') a w
theorem wpAny_of_end {e : Nat} {C : World → Prop} : ∀ (fuel : Nat) (listed : Array Bool) (a : Act) (w : World), wpAnyE P md ops Q e C fuel listed a w → wpAny P md ops Q fuel listed a w
  | 0, _, _, _, h => h
  | fuel + 1, _, _, _, h => ⟨h.1, fun i hi => wpOp_mono (fun a' w' h' => wpAny_of_end fuel _ a' w' h'.2) (h.2 i hi)⟩
/-- e waits for i. -/
def waitsB (md : Region.Mode) (ops : Array Oper) (e i : Nat) : Bool := match ops[e]? with | some o => o.after.any (fun d => Region.binds md d && d.on == i) | none => false
/-- Whoever has come up, all that he waits for has. -/
def Closed (md : Region.Mode) (ops : Array Oper) (listed : Array Bool) : Prop := ∀ j o, ops[j]? = some o → listed.getD j true = true → ∀ d ∈ o.after, Region.binds md d = true → listed.getD d.on true = true
def closedB (md : Region.Mode) (ops : Array Oper) (listed : Array Bool) : Bool := (List.range ops.size).all fun j => match ops[j]? with | some o => !listed.getD j true || o.after.all (fun d => !Region.binds md d || listed.getD d.on true) | none => true
theorem closed_of {listed : Array Bool} (h : closedB md ops listed = true) : Closed md ops listed := by
  intro j o ho hl d hd hb
  have hj : j < ops.size := (Array.getElem?_eq_some_iff.1 ho).1
  have h1 := List.all_eq_true.1 h j (List.mem_range.2 hj)
  simp only [ho, hl] at h1
  simp only [Bool.not_true, Bool.false_or, Array.all_eq_true] at h1
  obtain ⟨k, hk, rfl⟩ := Array.getElem_of_mem hd
  have h2 := h1 k hk
  rw [hb] at h2
  simpa using h2
theorem closed_set {listed : Array Bool} {i : Nat} (h : Closed md ops listed) (hi : i ∈ Region.ready md ops listed) : Closed md ops (listed.setIfInBounds i true) := by
  intro j o ho hl d hd hb
  have hmono : ∀ k, listed.getD k true = true → (listed.setIfInBounds i true).getD k true = true := fun k hk => by
    by_cases hik : i = k
    · subst hik
      rcases Nat.lt_or_ge i listed.size with h' | h'
      · simp [Array.getD, h']
      · simp [Array.getD, Nat.not_lt.2 h']
    · rw [getD_set_ne true hik]; exact hk
  by_cases hij : i = j
  · subst hij
    obtain ⟨_, o', ho', hall⟩ := mem_ready.1 hi
    rw [ho] at ho'
    cases ho'
    refine hmono _ ?_
    have := hall d hd hb
    rcases Nat.lt_or_ge d.on listed.size with h' | h'
    · simpa [Array.getD, h'] using this
    · simp [Array.getD, Nat.not_lt.2 h']
  · rw [getD_set_ne true hij] at hl
    exact hmono _ (h j o ho hl d hd hb)
/-- e waits for the next, that for the next, and so on. -/
def pathB (md : Region.Mode) (ops : Array Oper) : List Nat → Bool
  | [] => true
  | [_] => true
  | a :: b :: r => waitsB md ops a b && pathB md ops (b :: r)
theorem waits_spec {a b : Nat} (hw : waitsB md ops a b = true) : ∃ o, ops[a]? = some o ∧ ∃ d ∈ o.after, Region.binds md d = true ∧ d.on = b := by
  unfold waitsB at hw
  cases ho : ops[a]? with
  | none => rw [ho] at hw; cases hw
  | some o =>
    rw [ho] at hw
    simp only [Array.any_eq_true] at hw
    obtain ⟨k, hk, hd⟩ := hw
    simp only [Bool.and_eq_true, beq_iff_eq] at hd
    exact ⟨o, rfl, _, Array.getElem_mem hk, hd.1, hd.2⟩
theorem path_listed {listed : Array Bool} (hc : Closed md ops listed) : ∀ (r : List Nat) (a i : Nat), pathB md ops (a :: r) = true → (a :: r).getLast? = some i → listed.getD a true = true → listed.getD i true = true := by
  intro r
  induction r with
  | nil => intro a i _ hl h; simp at hl; subst hl; exact h
  | cons b r ih =>
    intro a i hp hl h
    simp only [pathB, Bool.and_eq_true] at hp
    obtain ⟨o, ho, d, hd, hb, rfl⟩ := waits_spec hp.1
    exact ih _ i hp.2 (by simpa using hl) (hc a o ho h d hd hb)
theorem path_not {e i : Nat} {r : List Nat} {listed : Array Bool} (hc : Closed md ops listed) (hp : pathB md ops (e :: r) = true) (hne : r.isEmpty = false) (hl : (e :: r).getLast? = some i) (hi : i ∈ Region.ready md ops listed) : e ∉ Region.ready md ops listed := fun he => by
  cases r with
  | nil => cases hne
  | cons b r =>
    simp only [pathB, Bool.and_eq_true] at hp
    obtain ⟨o, ho, d, hd, hb, rfl⟩ := waits_spec hp.1
    obtain ⟨_, oe, hoe, hall⟩ := mem_ready.1 he
    rw [ho] at hoe
    cases hoe
    have h1 := hall d hd hb
    have h2 : listed.getD d.on true = true := by
      rcases Nat.lt_or_ge d.on listed.size with h' | h'
      · simpa [Array.getD, h'] using h1
      · simp [Array.getD, Nat.not_lt.2 h']
    have h3 := path_listed hc r _ i hp.2 (by simpa using hl) h2
    have h0 := (mem_ready.1 hi).1
    rcases Nat.lt_or_ge i listed.size with h' | h'
    · simp [Array.getD, h'] at h0 h3; rw [h0] at h3; cases h3
    · simp [Array.getElem?_eq_none h'] at h0
theorem wpAnyE_first {e : Nat} {C : World → Prop} {i : Nat} {oi : Oper} {v : Value} (hi : ops[i]? = some oi) (hsel : ∀ (j : Nat) (o : Oper) cs b, ops[j]? = some o → o.op ≠ .select cs b)
    (hQ : ∀ c a w, Q (.panic c) (a.put oi.dst v) w → Q (.panic c) a w) (r : List Nat) (hp : pathB md ops (e :: r) = true) (hne : r.isEmpty = false) (hlast : (e :: r).getLast? = some i) :
    ∀ (fuel : Nat) (listed : Array Bool) (a : Act) (w : World), Closed md ops listed →
      (∀ j oj, ops[j]? = some oj → j ≠ i → listed.getD j true = false → (∀ d ∈ oj.after, Region.binds md d = true → d.on ≠ i) → oi.apart ops oj = true) →
      i ∈ Region.ready md ops listed → listed.getD e true = false → YieldsIf P ops C oi v a → C w →
      wpAnyE P md ops Q e C fuel (listed.setIfInBounds i true) (a.put oi.dst v) w → wpAnyE P md ops Q e C (fuel + 1) listed a w := by
  intro fuel
  induction fuel with
  | zero =>
    intro listed a w _ _ hr _ hy hC H
    refine ⟨fun h => (by rw [h] at hr; cases hr), fun j hj => ?_⟩
    by_cases hji : j = i
    · subst hji; exact hy.wpOp hi hC ⟨fun _ => hC, H⟩
    · have := ready_mono hj hji
      rw [H.1] at this
      cases this
  | succ fuel ih =>
    intro listed a w hcl hfree hr he hy hC H
    refine ⟨fun h => (by rw [h] at hr; cases hr), fun j hj => ?_⟩
    by_cases hji : j = i
    · subst hji; exact hy.wpOp hi hC ⟨fun _ => hC, H⟩
    · have h1 := H.2 j (ready_mono hj hji)
      obtain ⟨hjun, oj, hoj, hall⟩ := mem_ready.1 hj
      have hnot : ∀ d ∈ oj.after, Region.binds md d = true → d.on ≠ i := fun d hd hb heq => by
        have h1 := hall d hd hb
        have h0 := (mem_ready.1 hr).1
        rw [heq] at h1
        rcases Nat.lt_or_ge i listed.size with h' | h'
        · simp [h'] at h0 h1; rw [h0] at h1; cases h1
        · simp [Array.getElem?_eq_none h'] at h1
      have hje : j ≠ e := fun h => path_not hcl hp hne hlast hr (h ▸ hj)
      have hie : i ≠ e := fun h => path_not hcl hp hne hlast hr (h ▸ hr)
      have he' : (listed.setIfInBounds j true).getD e true = false := by rw [getD_set_ne true hje]; exact he
      have h2 := wpOp_putIf hoj (hfree j oj hoj hji hjun hnot) (fun cs b => hsel i oi cs b hi) (fun cs b => hsel j oj cs b hoj) hQ hy h1
      have hfree' : ∀ k ok, ops[k]? = some ok → k ≠ i → (listed.setIfInBounds j true).getD k true = false →
          (∀ d ∈ ok.after, Region.binds md d = true → d.on ≠ i) → oi.apart ops ok = true := fun k ok hk hki hun hno => by
        refine hfree k ok hk hki ?_ hno
        by_cases hjk : j = k
        · subst hjk; exact hjun
        · rw [getD_set_ne true hjk] at hun; exact hun
      refine wpOp_mono (fun a' w' h3 => ?_) h2
      have hC' : C w' := h3.2.1 (by
        rw [getD_set_ne true hje, getD_set_ne true hie]
        exact he)
      refine ⟨fun _ => hC', ih (listed.setIfInBounds j true) a' w' (closed_set hcl hj) hfree' (ready_mono hr (Ne.symm hji)) he' h3.1 hC' ?_⟩
      rw [Array.setIfInBounds_comm _ _ hji]
      exact h3.2.2
/-- Take number i first: e waits for it, by a path of others, and has not come up. -/
theorem wpAnyE_take {e : Nat} {C : World → Prop} {i : Nat} {oi : Oper} {v : Value} {fuel : Nat} {listed : Array Bool} {a : Act} {w : World} (r : List Nat) (hi : ops[i]? = some oi)
    (hs : Region.noSelect ops = true) (hf : Region.free md ops listed i = true) (hr : (Region.ready md ops listed).contains i = true) (hp : pathB md ops (e :: r) = true) (hne : r.isEmpty = false) (hlast : (e :: r).getLast? = some i) (hcl : closedB md ops listed = true) (he : listed.getD e true = false)
    (hQ : ∀ c a w, Q (.panic c) (a.put oi.dst v) w → Q (.panic c) a w) (hy : YieldsIf P ops C oi v a) (hC : C w)
    (h : wpAnyE P md ops Q e C fuel (listed.setIfInBounds i true) (a.put oi.dst v) w) : wpAnyE P md ops Q e C (fuel + 1) listed a w :=
  wpAnyE_first hi (Region.noSelect_spec hs) hQ r hp hne hlast fuel listed a w (closed_of hcl) (Region.free_spec hi hf) (by simpa using hr) he hy hC h
/-- One alone may come up. -/
theorem wpAnyE_one {e : Nat} {C : World → Prop} {i : Nat} {o : Oper} {fuel : Nat} {listed : Array Bool} {a : Act} {w : World} (hr : Region.ready md ops listed = [i]) (ho : ops[i]? = some o)
    (h : ∀ K : Act → World → Prop, Shut (∀ a' w', ((listed.setIfInBounds i true).getD e true = false → C w') → wpAnyE P md ops Q e C fuel (listed.setIfInBounds i true) a' w' → K a' w') → if Region.wanted o (yielded ops a.tmps) = true then Oper.wp P o a w K Q else K (a.put o.dst undef) w) :
    wpAnyE P md ops Q e C (fuel + 1) listed a w := by
  refine ⟨fun h0 => (by rw [hr] at h0; cases h0), fun j hj => ?_⟩
  rw [hr] at hj
  obtain rfl := List.mem_singleton.1 hj
  exact wpOp_step ho (fun K' hK => h K' (fun a w hS hW => hK a w ⟨hS, hW⟩))
/-- Each of those that may come up comes up next. -/
def AllReadyE (P : Program) (md : Region.Mode) (ops : Array Oper) (Q : Exit → Act → World → Prop) (e : Nat) (C : World → Prop) (fuel : Nat) (listed : Array Bool) (a : Act) (w : World) (rs : List Nat) : Prop :=
  ∀ i ∈ rs, wpOp P ops Q i (fun a' w' => ((listed.setIfInBounds i true).getD e true = false → C w') ∧ wpAnyE P md ops Q e C fuel (listed.setIfInBounds i true) a' w') a w
theorem AllReadyE.nil {e : Nat} {C : World → Prop} {fuel : Nat} {listed : Array Bool} {a : Act} {w : World} : AllReadyE P md ops Q e C fuel listed a w [] := fun _ h => by cases h
theorem AllReadyE.cons {e : Nat} {C : World → Prop} {fuel : Nat} {listed : Array Bool} {a : Act} {w : World} {i : Nat} {o : Oper} {rs : List Nat} (ho : ops[i]? = some o)
    (h : ∀ K : Act → World → Prop, Shut (∀ a' w', ((listed.setIfInBounds i true).getD e true = false → C w') → wpAnyE P md ops Q e C fuel (listed.setIfInBounds i true) a' w' → K a' w') → if Region.wanted o (yielded ops a.tmps) = true then Oper.wp P o a w K Q else K (a.put o.dst undef) w)
    (hs : AllReadyE P md ops Q e C fuel listed a w rs) : AllReadyE P md ops Q e C fuel listed a w (i :: rs) := fun j hj => by
  rcases List.mem_cons.1 hj with rfl | hj
  · exact wpOp_step ho (fun K' hK => h K' (fun a w hS hW => hK a w ⟨hS, hW⟩))
  · exact hs j hj
theorem wpAnyE_ready {e : Nat} {C : World → Prop} {rs : List Nat} {fuel : Nat} {listed : Array Bool} {a : Act} {w : World} (hr : Region.ready md ops listed = rs) (hne : rs ≠ []) (h : AllReadyE P md ops Q e C fuel listed a w rs) : wpAnyE P md ops Q e C (fuel + 1) listed a w :=
  ⟨fun h0 => absurd (hr ▸ h0) hne, hr ▸ h⟩
theorem wpAnyE_done {e : Nat} {C : World → Prop} {listed : Array Bool} {a : Act} {w : World} (hr : Region.ready md ops listed = []) (h : Q .normal a w) : ∀ fuel, wpAnyE P md ops Q e C fuel listed a w
  | 0 => ⟨hr, h⟩
  | _ + 1 => ⟨fun _ => h, by rw [hr]; simp⟩
theorem wp_region_end {id : Nat} {a : Act} {w : World} (e : Nat) (C : World → Prop) (hm : P.follows .mixedOrders = true) (h : wpAnyE P .any ops Q e C ops.size (Array.replicate ops.size false) a w.drew) : (Code.region id ops true).wp P Q a w :=
  wp_region_any hm (wpAny_of_end _ _ _ _ h)
end
#print axioms wp_region_end
#print axioms wpAnyE_take
end Go.Proofs.Ytmplcibaoanlnaa
