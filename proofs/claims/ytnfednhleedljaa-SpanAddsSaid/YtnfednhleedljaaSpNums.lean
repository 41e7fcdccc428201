/- The numbers that spans hold, rising; the spans that numbers make. Plain. -/
import Derived.Test.YtnfednhleedljaaSpPure
namespace Go.Proofs.Ytnfednhleedljaa

def sg (f : Int) (k : Nat) : List Int := (List.range k).map (fun i : Nat => f + (i : Int))
def nums : List Sp → List Int
  | [] => []
  | p :: r => nums r ++ sg p.1 (p.2 - p.1 + 1).toNat
theorem sg_len (f : Int) (k : Nat) : (sg f k).length = k := by simp [sg]
theorem sg_mem {f : Int} {k : Nat} {m : Int} : m ∈ sg f k ↔ f ≤ m ∧ m < f + k := by
  simp only [sg, List.mem_map, List.mem_range]
  constructor
  · rintro ⟨i, h, rfl⟩; omega
  · rintro ⟨h1, h2⟩; exact ⟨(m - f).toNat, by omega, by omega⟩
theorem sg_succ (f : Int) (k : Nat) : sg f (k + 1) = sg f k ++ [f + (k : Int)] := by simp [sg, List.range_succ]
theorem sg_inc (f : Int) (k : Nat) : (sg f k).Pairwise (· < ·) := by
  induction k with
  | zero => simp [sg]
  | succ k ih =>
    rw [sg_succ, List.pairwise_append]
    refine ⟨ih, by simp, fun a ha b hb => ?_⟩
    have := sg_mem.1 ha
    have := List.mem_singleton.1 hb
    omega
theorem inS_cons' {p : Sp} {r : List Sp} {m : Int} : inS (p :: r) m ↔ (p.1 ≤ m ∧ m ≤ p.2) ∨ inS r m := by
  unfold inS; simp
theorem nums_mem {S : List Sp} {m : Int} : m ∈ nums S ↔ inS S m := by
  induction S with
  | nil => simp [nums, inS]
  | cons p r ih =>
    rw [nums, List.mem_append, inS_cons', sg_mem, ih]
    constructor
    · rintro (h | h)
      · exact Or.inr h
      · exact Or.inl (by omega)
    · rintro (h | h)
      · exact Or.inr (by omega)
      · exact Or.inl h
theorem nums_inc {S : List Sp} (h : WF S) : (nums S).Pairwise (· < ·) := by
  induction S with
  | nil => simp [nums]
  | cons p r ih =>
    have ht := h.tail
    rw [nums, List.pairwise_append]
    refine ⟨ih ht.1, sg_inc _ _, fun a ha b hb => ?_⟩
    obtain ⟨q, hq, hx⟩ := nums_mem.1 ha
    have := ht.2.1 q hq
    have := sg_mem.1 hb
    omega
theorem nums_app (A B : List Sp) : nums (A ++ B) = nums B ++ nums A := by
  induction A with
  | nil => simp [nums]
  | cons p r ih => simp [nums, ih]
theorem inc_ext : ∀ (L M : List Int), L.Pairwise (· < ·) → M.Pairwise (· < ·) → (∀ x, x ∈ L ↔ x ∈ M) → L = M
  | [], [], _, _, _ => rfl
  | [], b :: M, _, _, h => by have := (h b).2 (by simp); cases this
  | a :: L, [], _, _, h => by have := (h a).1 (by simp); cases this
  | a :: L, b :: M, hL, hM, h => by
    have h1 := List.pairwise_cons.1 hL
    have h2 := List.pairwise_cons.1 hM
    have e : a = b := by
      rcases List.mem_cons.1 ((h a).1 (by simp)) with e | e
      · exact e
      · rcases List.mem_cons.1 ((h b).2 (by simp)) with e' | e'
        · exact e'.symm
        · have := h1.1 b e'; have := h2.1 a e; omega
    subst e
    rw [inc_ext L M h1.2 h2.2 fun x => ?_]
    constructor
    · intro hx
      rcases List.mem_cons.1 ((h x).1 (List.mem_cons_of_mem _ hx)) with e | e
      · have := h1.1 x hx; omega
      · exact e
    · intro hx
      rcases List.mem_cons.1 ((h x).2 (List.mem_cons_of_mem _ hx)) with e | e
      · have := h2.1 x hx; omega
      · exact e

/-- One number more, from above. -/
def spStep (out : List Sp) (x : Int) : List Sp := match out.getLast? with | some q => if q.1 = x + 1 then out.dropLast ++ [(x, q.2)] else out ++ [(x, x)] | none => out ++ [(x, x)]
theorem spStep_join (o : List Sp) (x t : Int) : spStep (o ++ [(x + 1, t)]) x = o ++ [(x, t)] := by simp [spStep]
theorem spStep_new {o : List Sp} {x : Int} (h : ∀ q, o.getLast? = some q → q.1 ≠ x + 1) : spStep o x = o ++ [(x, x)] := by
  unfold spStep
  split
  · rename_i q hq; rw [if_neg (h q hq)]
  · rfl
theorem fold_sg (o : List Sp) (f t : Int) : ∀ k : Nat, (sg f k).reverse.foldl spStep (o ++ [(f + (k : Int), t)]) = o ++ [(f, t)]
  | 0 => by simp [sg]
  | k + 1 => by
    rw [sg_succ, List.reverse_append]
    simp only [List.reverse_cons, List.reverse_nil, List.nil_append, List.singleton_append, List.foldl_cons]
    have e : f + ((k + 1 : Nat) : Int) = f + (k : Int) + 1 := by omega
    rw [e, spStep_join]
    exact fold_sg o f t k
theorem fold_nums : ∀ (S o : List Sp), WF (o ++ S) → (nums S).reverse.foldl spStep o = o ++ S
  | [], o, _ => by simp [nums]
  | p :: r, o, h => by
    have h1 := List.pairwise_append.1 h.1
    have hp := h.2 p (by simp)
    obtain ⟨k, hk⟩ : ∃ k : Nat, (p.2 - p.1 + 1).toNat = k + 1 := ⟨(p.2 - p.1).toNat, by omega⟩
    have e2 : p.1 + (k : Int) = p.2 := by omega
    rw [nums, List.reverse_append, List.foldl_append, hk, sg_succ, List.reverse_append]
    simp only [List.reverse_cons, List.reverse_nil, List.nil_append, List.singleton_append, List.foldl_cons]
    rw [spStep_new (fun q hq => ?_), fold_sg, e2]
    · have := fold_nums r (o ++ [p]) (by simpa using h)
      simpa using this
    · obtain ⟨ys, rfl⟩ := List.getLast?_eq_some_iff.1 hq
      have := h1.2.2 q (by simp) p (by simp)
      omega
def spansOf (L : List Int) : List Sp := L.reverse.foldl spStep []
theorem spans_nums {S : List Sp} (h : WF S) : spansOf (nums S) = S := fold_nums S [] (by simpa using h)
/-- A number put where it belongs. -/
theorem nums_mid {S : List Sp} {n : Int} {k : Nat} (h : WF S) (hm : WF (midS S n) ∧ ∀ m, inS (midS S n) m ↔ inS S m ∨ m = n) (hn : n ∉ nums S) (h1 : ∀ x ∈ (nums S).take k, x ≤ n) (h2 : ∀ x ∈ (nums S).drop k, n < x) :
    (nums S).take k ++ [n] ++ (nums S).drop k = nums (midS S n) := by
  have hi := nums_inc h
  refine inc_ext _ _ ?_ (nums_inc hm.1) fun x => ?_
  · have hs : (nums S).Pairwise (· < ·) := hi
    rw [← List.take_append_drop k (nums S)] at hs
    rw [List.pairwise_append] at hs
    rw [List.append_assoc, List.pairwise_append]
    refine ⟨hs.1, ?_, ?_⟩
    · rw [List.singleton_append, List.pairwise_cons]; exact ⟨h2, hs.2.1⟩
    · intro a ha b hb
      rcases List.mem_append.1 hb with hb | hb
      · have := List.mem_singleton.1 hb
        have h3 := h1 a ha
        have : a ≠ n := fun e => hn (e ▸ List.mem_of_mem_take ha)
        omega
      · exact hs.2.2 a ha b hb
  · rw [nums_mem, hm.2 x, ← nums_mem, List.append_assoc, List.mem_append, List.mem_append, List.mem_singleton]
    have e : x ∈ nums S ↔ x ∈ (nums S).take k ∨ x ∈ (nums S).drop k := by
      conv => lhs; rw [← List.take_append_drop k (nums S)]
      exact List.mem_append
    rw [e]
    constructor
    · rintro (h | h | h)
      · exact Or.inl (Or.inl h)
      · exact Or.inr h
      · exact Or.inl (Or.inr h)
    · rintro ((h | h) | h)
      · exact Or.inl h
      · exact Or.inr (Or.inr h)
      · exact Or.inr (Or.inl h)
/-- The lowest span goes. -/
theorem nums_drop {M : List Sp} {p : Sp} (h : WF M) (hl : M.length = 33) (hp : M.getD 32 (0, 0) = p) : nums (M.take 32) = (nums M).drop (p.2 - p.1 + 1).toNat ∧ (p.2 - p.1 + 1).toNat ≤ (nums M).length ∧ p.1 ≤ p.2 ∧ p ∈ M := by
  have hm : p ∈ M := by
    have : M.getD 32 (0, 0) = M[32] := by simp [hl]
    rw [this] at hp; rw [← hp]; exact List.getElem_mem _
  have hx := h.2 p hm
  have e : M = M.take 32 ++ [p] := by
    have h2 := List.take_append_drop 32 M
    have h3 : M.drop 32 = [p] := by
      rw [List.drop_eq_getElem_cons (by omega)]
      have : M.drop 33 = [] := List.drop_eq_nil_of_le (by omega)
      rw [this]
      have : M.getD 32 (0, 0) = M[32] := by simp [hl]
      rw [← this, hp]
    rw [h3] at h2; exact h2.symm
  have e2 : nums M = sg p.1 (p.2 - p.1 + 1).toNat ++ nums (M.take 32) := by
    conv => lhs; rw [e]
    rw [nums_app]; simp [nums]
  have hk := sg_len p.1 (p.2 - p.1 + 1).toNat
  refine ⟨?_, ?_, hx.2.1, hm⟩
  · rw [e2]
    conv => rhs; rw [← hk]
    rw [hk]
    have := List.drop_left (l₁ := sg p.1 (p.2 - p.1 + 1).toNat) (l₂ := nums (M.take 32))
    rw [hk] at this
    exact this.symm
  · rw [e2, List.length_append, hk]; omega
theorem nums_has {S : List Sp} (h : WF S) (n : Int) : hasB S n = (nums S).contains n := by
  rw [Bool.eq_iff_iff, hasB_iff h, ← nums_mem]; simp
theorem nums_bound {S : List Sp} (h : WF S) : ∀ x ∈ nums S, 0 ≤ x ∧ x ≤ 4611686018427387903 := fun x hx => by
  obtain ⟨p, hp, h1, h2⟩ := nums_mem.1 hx
  have := h.2 p hp
  omega
end Go.Proofs.Ytnfednhleedljaa
