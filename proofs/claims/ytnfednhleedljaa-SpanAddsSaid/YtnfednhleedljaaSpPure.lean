/- Plain lists of spans: what a number added makes of them, and the numbers that they hold. -/
namespace Go.Proofs.Ytnfednhleedljaa

abbrev Sp := Int × Int
def top62 : Int := 4611686018427387903
/-- What spans of a set are: the greatest first, at least one number missing between two. -/
def WF (S : List Sp) : Prop := S.Pairwise (fun p q => q.2 + 1 < p.1) ∧ ∀ p ∈ S, 0 ≤ p.1 ∧ p.1 ≤ p.2 ∧ p.2 ≤ 4611686018427387903
/-- Is a number in them? -/
def inS (S : List Sp) (m : Int) : Prop := ∃ p ∈ S, p.1 ≤ m ∧ m ≤ p.2
def abv (S : List Sp) (n : Int) : List Sp := S.takeWhile (fun p => decide (n < p.1))
def blw (S : List Sp) (n : Int) : List Sp := S.dropWhile (fun p => decide (n < p.1))
theorem abv_blw (S : List Sp) (n : Int) : abv S n ++ blw S n = S := List.takeWhile_append_dropWhile
def hasB (S : List Sp) (n : Int) : Bool := match blw S n with | [] => false | p :: _ => decide (n ≤ p.2)
def topA (A : List Sp) (n : Int) : List Sp × Int := match A.getLast? with | some p => if p.1 = n + 1 then (A.dropLast, p.2) else (A, n) | none => (A, n)
def botB (B : List Sp) (n : Int) : List Sp × Int := match B with | p :: r => if p.2 = n - 1 then (r, p.1) else (p :: r, n) | [] => ([], n)
/-- What a number makes of them, that is not in them. -/
def midS (S : List Sp) (n : Int) : List Sp := (topA (abv S n) n).1 ++ [((botB (blw S n) n).2, (topA (abv S n) n).2)] ++ (botB (blw S n) n).1

theorem abv_all {S : List Sp} {n : Int} : ∀ p ∈ abv S n, n < p.1 := by
  intro p hp
  induction S with
  | nil => simp [abv] at hp
  | cons q r ih =>
    unfold abv at hp ih
    rw [List.takeWhile_cons] at hp
    split at hp
    · rename_i h
      rcases List.mem_cons.1 hp with rfl | hp
      · exact of_decide_eq_true h
      · exact ih hp
    · cases hp
theorem blw_head {S : List Sp} {n : Int} {p : Sp} {r : List Sp} (h : blw S n = p :: r) : p.1 ≤ n := by
  induction S with
  | nil => simp [blw] at h
  | cons q s ih =>
    unfold blw at h ih
    rw [List.dropWhile_cons] at h
    split at h
    · exact ih h
    · rename_i hn
      simp only [List.cons.injEq] at h
      obtain ⟨rfl, _⟩ := h
      simp at hn; omega
theorem WF.parts {S : List Sp} {n : Int} (h : WF S) : WF (abv S n) ∧ WF (blw S n) ∧ ∀ p ∈ abv S n, ∀ q ∈ blw S n, q.2 + 1 < p.1 := by
  have h1 := h.1
  have h2 := h.2
  rw [← abv_blw S n] at h1 h2
  rw [List.pairwise_append] at h1
  exact ⟨⟨h1.1, fun p hp => h2 p (List.mem_append.2 (Or.inl hp))⟩, ⟨h1.2.1, fun p hp => h2 p (List.mem_append.2 (Or.inr hp))⟩, h1.2.2⟩
/-- All below are below the number, but for the first one, which may hold it. -/
theorem WF.tail {p : Sp} {r : List Sp} (h : WF (p :: r)) : WF r ∧ (∀ q ∈ r, q.2 + 1 < p.1) ∧ 0 ≤ p.1 ∧ p.1 ≤ p.2 ∧ p.2 ≤ 4611686018427387903 := by
  have h1 := List.pairwise_cons.1 h.1
  exact ⟨⟨h1.2, fun q hq => h.2 q (List.mem_cons_of_mem _ hq)⟩, h1.1, h.2 p (List.mem_cons_self ..)⟩
theorem hasB_iff {S : List Sp} {n : Int} (h : WF S) : hasB S n = true ↔ inS S n := by
  have hp := h.parts (n := n)
  constructor
  · intro hb
    unfold hasB at hb
    split at hb
    · cases hb
    · rename_i p r hr
      refine ⟨p, ?_, blw_head hr, of_decide_eq_true hb⟩
      rw [← abv_blw S n, hr]; simp
  · rintro ⟨p, hm, h1, h2⟩
    rw [← abv_blw S n] at hm
    rcases List.mem_append.1 hm with hm | hm
    · have := abv_all p hm; omega
    · unfold hasB
      split
      · rename_i hr; rw [hr] at hm; cases hm
      · rename_i q r hr
        rw [hr] at hm
        rcases List.mem_cons.1 hm with rfl | hm
        · exact decide_eq_true h2
        · have h3 := blw_head hr
          have h4 := hp.2.1
          rw [hr] at h4
          have := h4.tail.2.1 p hm
          exact decide_eq_true (by omega)
/-- What is above and below, with the number's own span between. -/
theorem topA_cases (A : List Sp) (n : Int) : (topA A n = (A, n) ∧ (∀ p, A.getLast? = some p → p.1 ≠ n + 1)) ∨ ∃ A' t, A = A' ++ [(n + 1, t)] ∧ topA A n = (A', t) := by
  unfold topA
  split
  · rename_i p hp
    split
    · rename_i he
      refine Or.inr ⟨A.dropLast, p.2, ?_, rfl⟩
      have h2 := List.getLast?_eq_some_iff.1 hp
      obtain ⟨ys, rfl⟩ := h2
      simp
      rw [← he]
    · rename_i he
      exact Or.inl ⟨rfl, fun q hq => by rw [hp] at hq; cases hq; exact he⟩
  · rename_i hp
    exact Or.inl ⟨rfl, fun p h => by rw [hp] at h; cases h⟩
theorem botB_cases (B : List Sp) (n : Int) : (botB B n = (B, n) ∧ (∀ p r, B = p :: r → p.2 ≠ n - 1)) ∨ ∃ f r, B = (f, n - 1) :: r ∧ botB B n = (r, f) := by
  unfold botB
  split
  · rename_i p r
    split
    · rename_i he
      exact Or.inr ⟨p.1, r, by rw [← he], rfl⟩
    · rename_i he
      refine Or.inl ⟨rfl, fun q s hq => ?_⟩
      simp only [List.cons.injEq] at hq
      obtain ⟨rfl, _⟩ := hq
      exact he
  · exact Or.inl ⟨rfl, fun q s hq => by cases hq⟩
theorem last_low {A : List Sp} {n : Int} (h : WF A) (ha : ∀ p ∈ A, n < p.1) (hl : ∀ p, A.getLast? = some p → p.1 ≠ n + 1) : ∀ p ∈ A, n + 1 < p.1 := by
  intro p hp
  rcases List.eq_nil_or_concat A with rfl | ⟨A', q, rfl⟩
  · cases hp
  · rw [List.concat_eq_append] at *
    have h1 := List.pairwise_append.1 h.1
    have hq : n < q.1 := ha q (List.mem_append.2 (Or.inr (List.mem_singleton.2 rfl)))
    have hq2 : q.1 ≠ n + 1 := hl q (List.getLast?_concat)
    rcases List.mem_append.1 hp with hp | hp
    · have := h1.2.2 p hp q (List.mem_singleton.2 rfl)
      have := h.2 q (List.mem_append.2 (Or.inr (List.mem_singleton.2 rfl)))
      omega
    · have := List.mem_singleton.1 hp; subst this; omega
theorem first_low {S B : List Sp} {n : Int} (h : WF B) (hb : B = blw S n) (hn : ¬ inS B n) (hl : ∀ p r, B = p :: r → p.2 ≠ n - 1) : ∀ p ∈ B, p.2 + 1 < n := by
  intro p hp
  cases B with
  | nil => cases hp
  | cons q r =>
    have h1 := blw_head hb.symm
    have h2 : ¬ n ≤ q.2 := fun hc => hn ⟨q, by simp, h1, hc⟩
    have h3 := hl q r rfl
    have h4 := h.tail
    rcases List.mem_cons.1 hp with rfl | hp
    · omega
    · have := h4.2.1 p hp; omega
/-- The laws of a number added that is not in them. -/
theorem mid_wf {S : List Sp} {n : Int} (h : WF S) (h0 : 0 ≤ n) (h1 : n ≤ 4611686018427387903) (hn : ¬ inS S n) : WF (midS S n) ∧ (∀ m, inS (midS S n) m ↔ inS S m ∨ m = n) ∧ (midS S n).length ≤ S.length + 1 ∧ 0 < (midS S n).length := by
  have hp := h.parts (n := n)
  have hs := abv_blw S n
  have ha : ∀ p ∈ abv S n, n < p.1 := abv_all
  have hnb : ¬ inS (blw S n) n := fun ⟨p, hm, hx⟩ => hn ⟨p, by rw [← hs]; exact List.mem_append.2 (Or.inr hm), hx⟩
  have hfl := first_low (S := S) hp.2.1 rfl hnb
  have hll := last_low hp.1 ha
  unfold midS
  generalize abv S n = A at *
  generalize blw S n = B at *
  subst hs
  obtain ⟨hA, hB, hAB⟩ := hp
  rcases topA_cases A n with ⟨e1, f1⟩ | ⟨A', t, rfl, e1⟩ <;> rcases botB_cases B n with ⟨e2, f2⟩ | ⟨f, r, rfl, e2⟩ <;> rw [e1, e2]
  · have g1 := hll f1
    have g2 := hfl f2
    refine ⟨⟨?_, ?_⟩, fun m => ?_, by simp <;> omega, by simp <;> omega⟩
    · simp only [List.pairwise_append, List.mem_append, List.mem_singleton]
      refine ⟨⟨hA.1, by simp, fun p hp q hq => by subst hq; exact g1 p hp⟩, hB.1, ?_⟩
      rintro p (hp | rfl) q hq
      · exact hAB p hp q hq
      · exact g2 q hq
    · intro p hp
      rcases List.mem_append.1 hp with hp | hp
      · rcases List.mem_append.1 hp with hp | hp
        · exact hA.2 p hp
        · have := List.mem_singleton.1 hp; subst this; exact ⟨h0, Int.le_refl _, h1⟩
      · exact hB.2 p hp
    · constructor
      · rintro ⟨p, hp, hx⟩
        rcases List.mem_append.1 hp with hp | hp
        · rcases List.mem_append.1 hp with hp | hp
          · exact Or.inl ⟨p, List.mem_append.2 (Or.inl hp), hx⟩
          · have := List.mem_singleton.1 hp; subst this; right; simp at hx; omega
        · exact Or.inl ⟨p, List.mem_append.2 (Or.inr hp), hx⟩
      · rintro (⟨p, hp, hx⟩ | rfl)
        · rcases List.mem_append.1 hp with hp | hp
          · exact ⟨p, by simp [hp], hx⟩
          · exact ⟨p, by simp [hp], hx⟩
        · exact ⟨(m, m), by simp, Int.le_refl _, Int.le_refl _⟩
  · have g1 := hll f1
    have hB' := hB.tail
    simp only at hB'
    refine ⟨⟨?_, ?_⟩, fun m => ?_, by simp <;> omega, by simp <;> omega⟩
    · simp only [List.pairwise_append, List.mem_append, List.mem_singleton]
      refine ⟨⟨hA.1, by simp, fun p hp q hq => by subst hq; exact g1 p hp⟩, hB'.1.1, ?_⟩
      rintro p (hp | rfl) q hq
      · exact hAB p hp q (List.mem_cons_of_mem _ hq)
      · exact hB'.2.1 q hq
    · intro p hp
      rcases List.mem_append.1 hp with hp | hp
      · rcases List.mem_append.1 hp with hp | hp
        · exact hA.2 p hp
        · have := List.mem_singleton.1 hp; subst this; simp only; omega
      · exact hB'.1.2 p hp
    · constructor
      · rintro ⟨p, hp, hx⟩
        rcases List.mem_append.1 hp with hp | hp
        · rcases List.mem_append.1 hp with hp | hp
          · exact Or.inl ⟨p, List.mem_append.2 (Or.inl hp), hx⟩
          · have := List.mem_singleton.1 hp; subst this
            simp at hx
            by_cases hm : m = n
            · exact Or.inr hm
            · exact Or.inl ⟨(f, n - 1), by simp, by simp; omega⟩
        · exact Or.inl ⟨p, List.mem_append.2 (Or.inr (List.mem_cons_of_mem _ hp)), hx⟩
      · rintro (⟨p, hp, hx⟩ | rfl)
        · rcases List.mem_append.1 hp with hp | hp
          · exact ⟨p, by simp [hp], hx⟩
          · rcases List.mem_cons.1 hp with rfl | hp
            · exact ⟨(f, n), by simp, by simp at hx ⊢; omega⟩
            · exact ⟨p, by simp [hp], hx⟩
        · exact ⟨(f, m), by simp, by simp; omega⟩
  · have g2 := hfl f2
    have hA1 := List.pairwise_append.1 hA.1
    have ht := hA.2 (n + 1, t) (by simp)
    simp only at ht
    refine ⟨⟨?_, ?_⟩, fun m => ?_, by simp <;> omega, by simp <;> omega⟩
    · simp only [List.pairwise_append, List.mem_append, List.mem_singleton]
      refine ⟨⟨hA1.1, by simp, fun p hp q hq => by subst hq; have := hA1.2.2 p hp (n + 1, t) (by simp); simpa using this⟩, hB.1, ?_⟩
      rintro p (hp | rfl) q hq
      · exact hAB p (by simp [hp]) q hq
      · exact g2 q hq
    · intro p hp
      rcases List.mem_append.1 hp with hp | hp
      · rcases List.mem_append.1 hp with hp | hp
        · exact hA.2 p (by simp [hp])
        · have := List.mem_singleton.1 hp; subst this; simp only; omega
      · exact hB.2 p hp
    · constructor
      · rintro ⟨p, hp, hx⟩
        rcases List.mem_append.1 hp with hp | hp
        · rcases List.mem_append.1 hp with hp | hp
          · exact Or.inl ⟨p, by simp [hp], hx⟩
          · have := List.mem_singleton.1 hp; subst this
            simp at hx
            by_cases hm : m = n
            · exact Or.inr hm
            · exact Or.inl ⟨(n + 1, t), by simp, by simp; omega⟩
        · exact Or.inl ⟨p, by simp [hp], hx⟩
      · rintro (⟨p, hp, hx⟩ | rfl)
        · simp only [List.mem_append, List.mem_singleton] at hp
          rcases hp with (hp | rfl) | hp
          · exact ⟨p, by simp [hp], hx⟩
          · exact ⟨(n, t), by simp, by simp at hx ⊢; omega⟩
          · exact ⟨p, by simp [hp], hx⟩
        · exact ⟨(m, t), by simp, by simp; omega⟩
  · have hA1 := List.pairwise_append.1 hA.1
    have ht := hA.2 (n + 1, t) (by simp)
    have hB' := hB.tail
    simp only at ht hB'
    refine ⟨⟨?_, ?_⟩, fun m => ?_, by simp <;> omega, by simp <;> omega⟩
    · simp only [List.pairwise_append, List.mem_append, List.mem_singleton]
      refine ⟨⟨hA1.1, by simp, fun p hp q hq => by subst hq; have := hA1.2.2 p hp (n + 1, t) (by simp); simpa using this⟩, hB'.1.1, ?_⟩
      rintro p (hp | rfl) q hq
      · exact hAB p (by simp [hp]) q (List.mem_cons_of_mem _ hq)
      · exact hB'.2.1 q hq
    · intro p hp
      rcases List.mem_append.1 hp with hp | hp
      · rcases List.mem_append.1 hp with hp | hp
        · exact hA.2 p (by simp [hp])
        · have := List.mem_singleton.1 hp; subst this; simp only; omega
      · exact hB'.1.2 p hp
    · constructor
      · rintro ⟨p, hp, hx⟩
        rcases List.mem_append.1 hp with hp | hp
        · rcases List.mem_append.1 hp with hp | hp
          · exact Or.inl ⟨p, by simp [hp], hx⟩
          · have := List.mem_singleton.1 hp; subst this
            simp at hx
            by_cases hm : m = n
            · exact Or.inr hm
            · by_cases hm2 : n < m
              · exact Or.inl ⟨(n + 1, t), by simp, by simp; omega⟩
              · exact Or.inl ⟨(f, n - 1), by simp, by simp; omega⟩
        · exact Or.inl ⟨p, by simp [hp], hx⟩
      · rintro (⟨p, hp, hx⟩ | rfl)
        · simp only [List.mem_append, List.mem_cons, List.not_mem_nil, or_false] at hp
          rcases hp with (hp | rfl) | (rfl | hp)
          · exact ⟨p, by simp [hp], hx⟩
          · exact ⟨(f, t), by simp, by simp at hx ⊢; omega⟩
          · exact ⟨(f, t), by simp, by simp at hx ⊢; omega⟩
          · exact ⟨p, by simp [hp], hx⟩
        · exact ⟨(f, t), by simp, by simp; omega⟩

/-- The spans and the floor behind a number, and whether it was added. -/
abbrev Set0 := List Sp × Int
def okB (s : Set0) (n : Int) : Bool := decide (0 ≤ n) && decide (n ≤ 4611686018427387903) && decide (s.2 ≤ n) && !hasB s.1 n
def keepS (l : List Sp) (f : Int) : Set0 := if 32 < l.length then (l.take 32, (l.getD 32 (0, 0)).2 + 1) else (l, f)
def addS (s : Set0) (n : Int) : Set0 := if okB s n = true then keepS (midS s.1 n) s.2 else s
/-- What holds of every set. -/
def OkS (s : Set0) : Prop := WF s.1 ∧ s.1.length ≤ 32 ∧ 0 ≤ s.2 ∧ s.2 ≤ 4611686018427387904
theorem OkS.nil : OkS ([], 0) := ⟨⟨List.Pairwise.nil, fun p h => by cases h⟩, by simp, by simp, by simp⟩
theorem okB_iff {s : Set0} {n : Int} : okB s n = true ↔ 0 ≤ n ∧ n ≤ 4611686018427387903 ∧ s.2 ≤ n ∧ hasB s.1 n = false := by
  simp [okB]; constructor
  · rintro ⟨⟨⟨a, b⟩, c⟩, d⟩; exact ⟨a, b, c, d⟩
  · rintro ⟨a, b, c, d⟩; exact ⟨⟨⟨a, b⟩, c⟩, d⟩
theorem ok_mid {s : Set0} {n : Int} (h : OkS s) (hb : okB s n = true) : WF (midS s.1 n) ∧ (∀ m, inS (midS s.1 n) m ↔ inS s.1 m ∨ m = n) ∧ (midS s.1 n).length ≤ s.1.length + 1 ∧ 0 < (midS s.1 n).length := by
  rw [okB_iff] at hb
  refine mid_wf h.1 hb.1 hb.2.1 fun hc => ?_
  rw [← hasB_iff h.1, hb.2.2.2] at hc
  cases hc
theorem OkS.keep {l : List Sp} {f : Int} (h : WF l) (hl : l.length ≤ 33) (h0 : 0 ≤ f) (h1 : f ≤ 4611686018427387904) : OkS (keepS l f) := by
  unfold keepS
  split
  · rename_i hlt
    have hm : l.getD 32 (0, 0) ∈ l := by
      have : l.getD 32 (0, 0) = l[32] := by simp [hlt]
      rw [this]; exact List.getElem_mem hlt
    have := h.2 _ hm
    refine ⟨⟨h.1.sublist (List.take_sublist _ _), fun p hp => h.2 p (List.mem_of_mem_take hp)⟩, by simp; omega, ?_, ?_⟩
    · show (0 : Int) ≤ (l.getD 32 (0, 0)).2 + 1; omega
    · show (l.getD 32 (0, 0)).2 + 1 ≤ _; omega
  · exact ⟨h, by show l.length ≤ 32; omega, h0, h1⟩
theorem OkS.add {s : Set0} (h : OkS s) (n : Int) : OkS (addS s n) := by
  unfold addS
  split
  · rename_i hb
    have hm := ok_mid h hb
    exact OkS.keep hm.1 (by have := h.2.1; omega) h.2.2.1 h.2.2.2
  · exact h
end Go.Proofs.Ytnfednhleedljaa
