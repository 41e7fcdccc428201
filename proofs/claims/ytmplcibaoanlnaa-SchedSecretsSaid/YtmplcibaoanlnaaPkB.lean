/- How long a mind's lists become: plain counting. -/
import Derived.Test.YtmplcibaoanlnaaMgA
import Derived.Test.YtmplcibaoanlnaaPkA
namespace Go.Proofs.Ytmplcibaoanlnaa
open Go Go.RowKit

def sumN (n : Nat) (f : Int → Nat) : Nat := ((List.range n).map fun (i : Nat) => f ((i : Int) + 1)).sum
theorem sumN_succ (n : Nat) (f : Int → Nat) : sumN (n + 1) f = sumN n f + f ((n : Int) + 1) := by
  unfold sumN; rw [List.range_succ, List.map_append, List.sum_append]; simp
theorem sumN_congr {n : Nat} {f g : Int → Nat} (h : ∀ y, 1 ≤ y → y ≤ (n : Int) → f y = g y) : sumN n f = sumN n g := by
  induction n with
  | zero => rfl
  | succ n ih => rw [sumN_succ, sumN_succ, ih fun y h1 h2 => h y h1 (by omega), h _ (by omega) (by omega)]
theorem sumN_le {n k : Nat} {f : Int → Nat} (h : ∀ y, 1 ≤ y → y ≤ (n : Int) → f y ≤ k) : sumN n f ≤ k * n := by
  induction n with
  | zero => simp [sumN]
  | succ n ih =>
    have h1 := ih fun y h1 h2 => h y h1 (by omega)
    have h2 := h ((n : Int) + 1) (by omega) (by omega)
    rw [sumN_succ, Nat.mul_succ]
    omega
theorem sumN_up {n : Nat} {f : Int → Nat} {x : Int} (v : Nat) (hx : 1 ≤ x ∧ x ≤ (n : Int)) : sumN n (up f x v) + f x = sumN n f + v := by
  induction n with
  | zero => omega
  | succ n ih =>
    rw [sumN_succ, sumN_succ]
    by_cases e : x = (n : Int) + 1
    · rw [sumN_congr (n := n) (g := f) fun y h1 h2 => up_other f v (by omega), ← e, up_same]
      omega
    · have := ih ⟨hx.1, by omega⟩
      rw [up_other f v (fun h => e h.symm)]
      omega
theorem le_sumN {n : Nat} {f : Int → Nat} {x : Int} (hx : 1 ≤ x ∧ x ≤ (n : Int)) : f x ≤ sumN n f := by
  have := sumN_up (f := f) 0 hx
  omega
theorem few_k (k : Nat) : ∀ (n : Nat) (l : List Int), (∀ x ∈ l, 1 ≤ x ∧ x ≤ (n : Int)) → (∀ x, l.count x ≤ k) → l.length ≤ k * n := by
  intro n
  induction n with
  | zero =>
    intro l h _
    cases l with
    | nil => simp
    | cons x r => have := h x (by simp); omega
  | succ n ih =>
    intro l h hk
    have h1 := ih (l.filter fun x => !(x == (n : Int) + 1)) (fun x hx => by
      obtain ⟨h1, h2⟩ := List.mem_filter.1 hx
      have := h x h1
      simp at h2
      omega) (fun x => Nat.le_trans (List.filter_sublist.count_le x) (hk x))
    have h2 := List.length_eq_countP_add_countP (fun x => x == (n : Int) + 1) (l := l)
    have h3 := hk ((n : Int) + 1)
    rw [← List.countP_eq_length_filter] at h1
    have h4 : l.count ((n : Int) + 1) = l.countP (fun x => x == (n : Int) + 1) := rfl
    have h5 : l.countP (fun x => !(x == (n : Int) + 1)) = l.countP (fun a => decide ¬(a == (n : Int) + 1) = true) := by
      congr 1; funext a; cases (a == (n : Int) + 1) <;> rfl
    rw [Nat.mul_succ]
    omega

/-- How often a term waits in all. -/
def cT (n : Nat) (W : Int → List Int) (h : Int) : Nat := sumN n fun y => (W y).count h
theorem cT_up (n : Nat) (W : Int → List Int) (y : Int) (l : List Int) (h : Int) (hy : 1 ≤ y ∧ y ≤ (n : Int)) : cT n (up W y l) h + (W y).count h = cT n W h + l.count h := by
  have e : (fun z => (up W y l z).count h) = up (fun z => (W z).count h) y (l.count h) := by
    funext z; unfold up; split <;> rfl
  unfold cT
  rw [e]
  exact sumN_up (f := fun z => (W z).count h) (l.count h) hy
theorem cT_wait {n : Nat} {S : MS} {x : Int} {l : List Int} (hl : ∀ y ∈ l, 1 ≤ y ∧ y ≤ (n : Int)) (h : Int) : cT n (waitP S x l).waits h = cT n S.waits h + if x = h then l.length else 0 := by
  induction l generalizing S with
  | nil => simp [waitP]
  | cons y r ih =>
    have h1 := ih (S := { S with waits := up S.waits y (S.waits y ++ [x]) }) fun z hz => hl z (by simp [hz])
    have h2 := cT_up n S.waits y (S.waits y ++ [x]) h (hl y (by simp))
    have e : waitP S x (y :: r) = waitP { S with waits := up S.waits y (S.waits y ++ [x]) } x r := rfl
    rw [e, h1]
    simp only [List.count_append, List.count_singleton, beq_iff_eq, List.length_cons] at h2 ⊢
    split at h2 <;> split <;> first | omega | simp_all
theorem lack_one {S : MS} {can : Int → Bool} {h k : Int} {ps : List Int} (h8 : k ≠ 8) : (lackP S can h k ps).length ≤ 1 := by
  unfold lackP
  split
  · simp
  · first
    | (rw [if_neg h8]; unfold oneL; split <;> simp)
    | (unfold oneL; split <;> simp)
theorem lack_in {S : MS} {can : Int → Bool} {h k : Int} {ps : List Int} {y : Int} (hy : y ∈ lackP S can h k ps) : y ∈ ps ∨ (k = 2 ∧ y = h) := by
  unfold lackP at hy
  split at hy
  · rename_i e
    simp at hy
    exact .inr ⟨e, hy⟩
  · split at hy
    · split at hy
      · cases hy
      · exact .inl hy
    · cases hf : ps.find? (fun y => !can y) with
      | none => rw [hf] at hy; cases hy
      | some z =>
        rw [hf] at hy
        simp only [oneL, List.mem_singleton] at hy
        subst hy
        exact .inl (List.mem_of_find?_eq_some hf)
/-- How often a term is asked for at once. -/
def lim (k : Int) : Nat := if k = 8 then 2 else 1
theorem rise_waits (S : MS) (x to : Int) : (riseP S x to).waits = S.waits := by
  unfold riseP; split <;> rfl
theorem rises_waits (S : MS) (l : List Int) : (rises S l).waits = S.waits := by
  induction l generalizing S with
  | nil => rfl
  | cons x r ih => exact (ih (riseP S x 3)).trans (rise_waits S x 3)
theorem cT_ask {N : List Nd} (hN : Wf N) {S : MS} {x : Int} (hx : 1 ≤ x ∧ x ≤ (N.length : Int)) (h : Int) :
    cT N.length (askP S x (kindN N x) (partsN N x)).waits h ≤ cT N.length S.waits h + if x = h then lim (kindN N x) else 0 := by
  unfold askP
  split
  · rw [rise_waits]; omega
  · rw [cT_wait (fun y hy => by
      rcases lack_in hy with e | ⟨_, rfl⟩
      · have := hN.low x hx.1 hx.2 y e; omega
      · exact hx) h]
    split
    · unfold lim
      split
      · rename_i e
        have := lack_len S (canP S) x (kindN N x) (partsN N x) (fun e => (hN.two x e).1)
        omega
      · rename_i e
        have := lack_one (S := S) (can := canP S) (h := x) (ps := partsN N x) e
        omega
    · omega
theorem cT_wakes {N : List Nd} (hN : Wf N) {S : MS} {l : List Int} (hl : ∀ x ∈ l, 1 ≤ x ∧ x ≤ (N.length : Int)) (h : Int) :
    cT N.length (l.foldl (wakeStep N) S).waits h ≤ cT N.length S.waits h + l.count h * lim (kindN N h) := by
  induction l generalizing S with
  | nil => simp
  | cons x r ih =>
    have h1 := ih (S := wakeStep N S x) fun z hz => hl z (by simp [hz])
    have h2 : cT N.length (wakeStep N S x).waits h ≤ cT N.length S.waits h + if x = h then lim (kindN N x) else 0 := by
      unfold wakeStep
      split
      · omega
      · exact cT_ask hN (hl x (by simp)) h
    simp only [List.foldl_cons, List.count_cons, beq_iff_eq]
    by_cases e : x = h
    · subst e
      simp only [if_true] at h2 ⊢
      rw [Nat.add_mul]
      omega
    · rw [if_neg e] at h2
      rw [if_neg e, Nat.add_zero]
      omega
/-- A wake. -/
theorem cT_wake {N : List Nd} (hN : Wf N) {S : MS} {y : Int} (hy : 1 ≤ y ∧ y ≤ (N.length : Int)) (hl : ∀ x ∈ S.waits y, 1 ≤ x ∧ x ≤ (N.length : Int)) (h : Int) :
    cT N.length (wakeP N S y).waits h ≤ cT N.length S.waits h + if kindN N h = 8 then (S.waits y).count h else 0 := by
  have h1 := cT_wakes hN (S := { S with waits := up S.waits y [] }) hl h
  have h2 := cT_up N.length S.waits y [] h hy
  have e : wakeP N S y = (S.waits y).foldl (wakeStep N) { S with waits := up S.waits y [] } := rfl
  rw [e]
  simp only [List.count_nil] at h2
  simp only at h1
  unfold lim at h1
  split
  · rename_i e8
    rw [if_pos e8] at h1
    omega
  · rename_i e8
    rw [if_neg e8] at h1
    omega
theorem cT_le {n : Nat} {W : Int → List Int} {y : Int} (hy : 1 ≤ y ∧ y ≤ (n : Int)) (h : Int) : (W y).count h ≤ cT n W h := le_sumN (f := fun z => (W z).count h) hy
#print axioms cT_wake
end Go.Proofs.Ytmplcibaoanlnaa
