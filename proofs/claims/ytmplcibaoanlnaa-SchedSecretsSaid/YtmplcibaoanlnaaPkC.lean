/- How often a term is spread, and how long a mind's lists are at most. -/
import Derived.Test.YtmplcibaoanlnaaPkB
import Derived.Test.YtmplcibaoanlnaaMgT
namespace Go.Proofs.Ytmplcibaoanlnaa
open Go Go.RowKit

/-- How often a term may rise yet. -/
def rr (s : Int) : Nat := if s ≤ 1 then 2 else if s = 2 then 1 else 0
/-- The public one of a secret; 0: there is none. -/
def pubN (N : List Nd) (a : Int) : Int := match (List.range N.length).find? (fun (i : Nat) => decide (kindN N ((i : Int) + 1) = 7) && decide (partsN N ((i : Int) + 1) = [a])) with
  | some i => (i : Int) + 1
  | none => 0
theorem kind_in {N : List Nd} {x : Int} (h : kindN N x ≠ 0) : 1 ≤ x ∧ x ≤ (N.length : Int) := by
  unfold kindN at h
  split at h
  · exact absurd rfl h
  · rename_i h1
    refine ⟨by omega, ?_⟩
    cases e : N[(x - 1).toNat]? with
    | none => rw [e] at h; exact absurd rfl h
    | some p => have := (List.getElem?_eq_some_iff.1 e).1; omega
theorem pubN_of {N : List Nd} (hN : Wf N) {p a : Int} (h1 : kindN N p = 7) (h2 : partsN N p = [a]) : pubN N a = p := by
  have hin := kind_in (x := p) (by rw [h1]; decide)
  unfold pubN
  cases hf : (List.range N.length).find? (fun (i : Nat) => decide (kindN N ((i : Int) + 1) = 7) && decide (partsN N ((i : Int) + 1) = [a])) with
  | none =>
    have := List.find?_eq_none.1 hf (p - 1).toNat (List.mem_range.2 (by omega))
    rw [show (((p - 1).toNat : Nat) : Int) + 1 = p by omega] at this
    simp [h1, h2] at this
  | some i =>
    have := List.find?_some hf
    simp only [Bool.and_eq_true, decide_eq_true_eq] at this
    exact hN.pub _ _ this.1 h1 (by rw [this.2, h2])
def es (N : List Nd) (pops : Int → Nat) (a : Int) : Nat := pops a + pops (pubN N a)
def eN (N : List Nd) (pops : Int → Nat) (h : Int) : Nat := es N pops ((partsN N h).getD 0 0) + es N pops ((partsN N h).getD 1 0)
def pop1 (pops : Int → Nat) (x : Int) : Int → Nat := up pops x (pops x + 1)
theorem pop1_le (pops : Int → Nat) (x y : Int) : pops y ≤ pop1 pops x y := by
  unfold pop1 up; split
  · rename_i e; subst e; omega
  · omega
theorem es_mono (N : List Nd) (pops : Int → Nat) (x a : Int) : es N pops a ≤ es N (pop1 pops x) a := by
  have := pop1_le pops x a
  have := pop1_le pops x (pubN N a)
  unfold es; omega
theorem es_self (N : List Nd) (pops : Int → Nat) (x : Int) : es N pops x + 1 ≤ es N (pop1 pops x) x := by
  have h1 : pop1 pops x x = pops x + 1 := up_same _ _ _
  have := pop1_le pops x (pubN N x)
  unfold es; omega
theorem es_pub {N : List Nd} (hN : Wf N) (pops : Int → Nat) {x a : Int} (h1 : kindN N x = 7) (h2 : partsN N x = [a]) : es N pops a + 1 ≤ es N (pop1 pops x) a := by
  have h3 := pubN_of hN h1 h2
  have h4 : pop1 pops x x = pops x + 1 := up_same _ _ _
  have := pop1_le pops x a
  unfold es; rw [h3]; omega
theorem eN_mono (N : List Nd) (pops : Int → Nat) (x h : Int) : eN N pops h ≤ eN N (pop1 pops x) h := by
  have := es_mono N pops x ((partsN N h).getD 0 0)
  have := es_mono N pops x ((partsN N h).getD 1 0)
  unfold eN; omega
theorem eN_more {N : List Nd} (hN : Wf N) (pops : Int → Nat) {x a h : Int} (h8 : kindN N h = 8) (ha : a ∈ partsN N h) (hx : es N pops a + 1 ≤ es N (pop1 pops x) a) : eN N pops h + 1 ≤ eN N (pop1 pops x) h := by
  have hlen := (hN.two h h8).1
  have e0 := es_mono N pops x ((partsN N h).getD 0 0)
  have e1 := es_mono N pops x ((partsN N h).getD 1 0)
  unfold eN
  match hp : partsN N h, hlen with
  | [p, q], _ =>
    rw [hp] at ha e0 e1
    simp only [List.getD_cons_zero, List.getD_cons_succ] at e0 e1 ⊢
    simp only [List.mem_cons, List.not_mem_nil, or_false] at ha
    rcases ha with rfl | rfl <;> omega

/-- What does not hang on how often things wait. -/
structure Cn0 (N : List Nd) (S : MS) (pops : Int → Nat) : Prop where
  c1 : ∀ y, pops y + S.news.count y + rr (S.st y) ≤ 2
  wp : ∀ y h, h ∈ S.waits y → y ∈ partsN N h ∨ (kindN N h = 2 ∧ y = h)
  t0 : ∀ h, S.st h = 0 → cT N.length S.waits h = 0
theorem Cn0.rise {N : List Nd} {S : MS} {pops : Int → Nat} (c : Cn0 N S pops) (x to : Int) (ht : 2 ≤ to) (ht3 : to ≤ 3) : Cn0 N (riseP S x to) pops := by
  refine ⟨fun y => ?_, fun y h hh => c.wp y h (by rw [rise_waits] at hh; exact hh), fun h hh => ?_⟩
  · have h1 := c.c1 y
    unfold riseP
    split
    · rename_i hlt
      show pops y + (S.news ++ [x]).count y + rr (up S.st x to y) ≤ 2
      by_cases e : y = x
      · subst e
        rw [up_same, List.count_append, List.count_singleton]
        simp only [beq_self_eq_true, if_true]
        unfold rr at h1 ⊢
        split at h1 <;> split <;> (try split at h1) <;> (try split) <;> omega
      · rw [up_other _ _ e, List.count_append, List.count_singleton, if_neg (by simpa using fun h => e h.symm)]
        exact h1
    · exact h1
  · rw [rise_waits]
    refine c.t0 h ?_
    unfold riseP at hh
    split at hh
    · by_cases e : h = x
      · subst e
        simp only [up_same] at hh; omega
      · simpa [up_other _ _ e] using hh
    · exact hh
theorem wait_other (S : MS) (x : Int) (l : List Int) (y h : Int) : h ∈ (waitP S x l).waits y → h ∈ S.waits y ∨ (h = x ∧ y ∈ l) := by
  induction l generalizing S with
  | nil => exact .inl
  | cons z r ih =>
    intro hh
    rcases ih _ hh with e | ⟨e1, e2⟩
    · by_cases ez : y = z
      · subst ez
        simp only [up_same, List.mem_append, List.mem_singleton] at e
        rcases e with e | e
        · exact .inl e
        · exact .inr ⟨e, by simp⟩
      · simp only [up_other _ _ ez] at e; exact .inl e
    · exact .inr ⟨e1, by simp [e2]⟩
theorem ask_st (S : MS) (x k : Int) (ps : List Int) (y : Int) : S.st y ≤ (askP S x k ps).st y ∧ (y ≠ x → (askP S x k ps).st y = S.st y) := by
  unfold askP
  split
  · unfold riseP
    split
    · rename_i hlt
      show S.st y ≤ up S.st x 2 y ∧ (y ≠ x → up S.st x 2 y = S.st y)
      by_cases e : y = x
      · subst e; rw [up_same]; exact ⟨by omega, fun h => absurd rfl h⟩
      · rw [up_other _ _ e]; exact ⟨by omega, fun _ => rfl⟩
    · exact ⟨Int.le_refl _, fun _ => rfl⟩
  · rw [(waitP_st S x _).1]; exact ⟨Int.le_refl _, fun _ => rfl⟩
theorem Cn0.ask {N : List Nd} (hN : Wf N) {S : MS} {pops : Int → Nat} (c : Cn0 N S pops) {x : Int} (hx : 1 ≤ x ∧ x ≤ (N.length : Int)) (hst : S.st x ≠ 0) : Cn0 N (askP S x (kindN N x) (partsN N x)) pops := by
  have hT := fun h => cT_ask hN (S := S) hx h
  have hst2 := ask_st S x (kindN N x) (partsN N x)
  by_cases hL : lackP S (canP S) x (kindN N x) (partsN N x) = []
  · have e : askP S x (kindN N x) (partsN N x) = riseP S x 2 := by unfold askP; rw [if_pos hL]
    rw [e]; exact c.rise x 2 (by decide) (by decide)
  · have e : askP S x (kindN N x) (partsN N x) = waitP S x (lackP S (canP S) x (kindN N x) (partsN N x)) := by unfold askP; rw [if_neg hL]
    refine ⟨fun y => ?_, fun y h hh => ?_, fun h hh => ?_⟩
    · rw [e, (waitP_st S x _).1, (waitP_st S x _).2.2.2]; exact c.c1 y
    · rw [e] at hh
      rcases wait_other S x _ y h hh with h1 | ⟨rfl, h2⟩
      · exact c.wp y h h1
      · exact lack_in h2
    · have h0 : S.st h = 0 := by rw [e, (waitP_st S x _).1] at hh; exact hh
      have h1 := hT h
      rw [c.t0 h h0, if_neg (fun (e2 : x = h) => hst (by rw [e2]; exact h0))] at h1
      omega
theorem Cn0.wakes {N : List Nd} (hN : Wf N) {S : MS} {pops : Int → Nat} (c : Cn0 N S pops) {l : List Int} (hl : ∀ x ∈ l, (1 ≤ x ∧ x ≤ (N.length : Int)) ∧ 0 < S.st x) : Cn0 N (l.foldl (wakeStep N) S) pops := by
  induction l generalizing S with
  | nil => exact c
  | cons x r ih =>
    obtain ⟨hx, hs⟩ := hl x (by simp)
    have c1 : Cn0 N (wakeStep N S x) pops := by
      unfold wakeStep
      split
      · exact c
      · exact c.ask hN hx (by omega)
    refine ih c1 fun y hy => ⟨(hl y (by simp [hy])).1, ?_⟩
    have h1 := (hl y (by simp [hy])).2
    unfold wakeStep
    split
    · exact h1
    · have := (ask_st S x (kindN N x) (partsN N x) y).1; omega
theorem Cn0.wake {N : List Nd} (hN : Wf N) {S : MS} {pops : Int → Nat} (c : Cn0 N S pops) (hi : Inr N.length S) {y : Int} (hy : 1 ≤ y ∧ y ≤ (N.length : Int)) : Cn0 N (wakeP N S y) pops := by
  have e : wakeP N S y = (S.waits y).foldl (wakeStep N) { S with waits := up S.waits y [] } := rfl
  have c0 : Cn0 N { S with waits := up S.waits y [] } pops := ⟨c.c1, fun z h hh => by
    by_cases ez : z = y
    · subst ez; simp [up_same] at hh
    · simp only [up_other _ _ ez] at hh; exact c.wp z h hh, fun h hh => by
    have h1 := cT_up N.length S.waits y [] h hy
    have h2 := c.t0 h hh
    simp only at h1 ⊢
    simp only [List.count_nil] at h1
    omega⟩
  rw [e]
  refine c0.wakes hN fun x hx => ⟨hi.waits y x hx, ?_⟩
  have h1 := (hi.stb x).1
  have h2 : S.st x ≠ 0 := fun e => by
    have h3 := c.t0 x e
    have h4 := cT_le (W := S.waits) hy x
    have h5 := List.count_pos_iff.2 hx
    omega
  show 0 < S.st x
  omega
theorem cT_opens {N : List Nd} (hN : Wf N) {S : MS} {l : List Int} (hl : ∀ x ∈ l, 1 ≤ x ∧ x ≤ (N.length : Int)) (h : Int) :
    cT N.length (l.foldl (openStep N) S).waits h ≤ cT N.length S.waits h + l.count h * lim (kindN N h) := by
  induction l generalizing S with
  | nil => simp
  | cons x r ih =>
    have h1 := ih (S := openStep N S x) fun z hz => hl z (by simp [hz])
    have h2 : cT N.length (openStep N S x).waits h ≤ cT N.length S.waits h + if x = h then lim (kindN N x) else 0 := cT_ask (S := { S with st := up S.st x 1 }) hN (hl x (by simp)) h
    simp only [List.foldl_cons, List.count_cons, beq_iff_eq]
    by_cases e : x = h
    · subst e
      simp only [if_true] at h2 ⊢
      rw [Nat.add_mul]
      omega
    · rw [if_neg e] at h2
      rw [if_neg e, Nat.add_zero]
      omega
theorem Cn0.opens {N : List Nd} (hN : Wf N) {S : MS} {pops : Int → Nat} (c : Cn0 N S pops) {l : List Int} (hn : l.Nodup) (hl : ∀ x ∈ l, (1 ≤ x ∧ x ≤ (N.length : Int)) ∧ S.st x = 0) : Cn0 N (l.foldl (openStep N) S) pops := by
  induction l generalizing S with
  | nil => exact c
  | cons x r ih =>
    obtain ⟨hx, hs⟩ := hl x (by simp)
    obtain ⟨n1, n2⟩ := List.nodup_cons.1 hn
    have c0 : Cn0 N { S with st := up S.st x 1 } pops := ⟨fun y => by
      have h1 := c.c1 y
      show pops y + S.news.count y + rr (up S.st x 1 y) ≤ 2
      by_cases e : y = x
      · subst e
        rw [up_same]
        rw [hs] at h1
        exact h1
      · rw [up_other _ _ e]; exact h1, c.wp, fun h hh => c.t0 h (by
      by_cases e : h = x
      · rw [e]; exact hs
      · simpa [up_other _ _ e] using hh)⟩
    have c1 : Cn0 N (openStep N S x) pops := c0.ask hN hx (by simp [up_same])
    refine ih c1 n2 fun y hy => ⟨(hl y (by simp [hy])).1, ?_⟩
    have hne : y ≠ x := fun e => n1 (e ▸ hy)
    have := (ask_st { S with st := up S.st x 1 } x (kindN N x) (partsN N x) y).2 hne
    show (askP { S with st := up S.st x 1 } x (kindN N x) (partsN N x)).st y = 0
    rw [this]
    simp only [up_other _ _ hne]
    exact (hl y (by simp [hy])).2
theorem Cn0.rises {N : List Nd} {S : MS} {pops : Int → Nat} (c : Cn0 N S pops) (l : List Int) : Cn0 N (rises S l) pops := by
  induction l generalizing S with
  | nil => exact c
  | cons x r ih => exact ih (c.rise x 3 (by decide) (by decide))
#print axioms Cn0.opens
end Go.Proofs.Ytmplcibaoanlnaa
