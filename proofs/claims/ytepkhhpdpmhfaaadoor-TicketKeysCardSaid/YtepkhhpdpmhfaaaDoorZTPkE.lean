/- What follows, and what can be made; what holds of a mind that is told, step by step. -/
import Derived.Test.YtepkhhpdpmhfaaaDoorZTPkB
import Derived.Test.YtepkhhpdpmhfaaaDoorZTMgT
namespace Go.Proofs.YtepkhhpdpmhfaaaDoor.T
open Go Go.RowKit

/-- How often a term may rise yet. -/
def rr (s : Int) : Nat := if s ≤ 1 then 2 else if s = 2 then 1 else 0
/-- The public one of a secret; 0: there is none. -/
def pubN (N : List Nd) (a : Int) : Int := match (List.range N.length).find? (fun (i : Nat) => decide (kindN N ((i : Int) + 1) = 7) && decide (partsN N ((i : Int) + 1) = [a])) with
  | some i => (i : Int) + 1
  | none => 0
theorem kind_in {N : List Nd} {x : Int} (h : kindN N x ≠ 0) : 1 ≤ x ∧ x ≤ (N.length : Int) := by
  unfold kindN at h
  split at h
  · exact absurd rfl h
  · rename_i h1
    refine ⟨by omega, ?_⟩
    cases e : N[(x - 1).toNat]? with
    | none => rw [e] at h; exact absurd rfl h
    | some p => have := (List.getElem?_eq_some_iff.1 e).1; omega
theorem pubN_of {N : List Nd} (hN : Wf N) {p a : Int} (h1 : kindN N p = 7) (h2 : partsN N p = [a]) : pubN N a = p := by
  have hin := kind_in (x := p) (by rw [h1]; decide)
  unfold pubN
  cases hf : (List.range N.length).find? (fun (i : Nat) => decide (kindN N ((i : Int) + 1) = 7) && decide (partsN N ((i : Int) + 1) = [a])) with
  | none =>
    have := List.find?_eq_none.1 hf (p - 1).toNat (List.mem_range.2 (by omega))
    rw [show (((p - 1).toNat : Nat) : Int) + 1 = p by omega] at this
    simp [h1, h2] at this
  | some i =>
    have := List.find?_some hf
    simp only [Bool.and_eq_true, decide_eq_true_eq] at this
    exact hN.pub _ _ this.1 h1 (by rw [this.2, h2])
def es (N : List Nd) (pops : Int → Nat) (a : Int) : Nat := pops a + pops (pubN N a)
def eN (N : List Nd) (pops : Int → Nat) (h : Int) : Nat := es N pops ((partsN N h).getD 0 0) + es N pops ((partsN N h).getD 1 0)
def pop1 (pops : Int → Nat) (x : Int) : Int → Nat := up pops x (pops x + 1)
theorem pop1_le (pops : Int → Nat) (x y : Int) : pops y ≤ pop1 pops x y := by
  unfold pop1 up; split
  · rename_i e; subst e; omega
  · omega
theorem es_mono (N : List Nd) (pops : Int → Nat) (x a : Int) : es N pops a ≤ es N (pop1 pops x) a := by
  have := pop1_le pops x a
  have := pop1_le pops x (pubN N a)
  unfold es; omega
theorem es_self (N : List Nd) (pops : Int → Nat) (x : Int) : es N pops x + 1 ≤ es N (pop1 pops x) x := by
  have h1 : pop1 pops x x = pops x + 1 := up_same _ _ _
  have := pop1_le pops x (pubN N x)
  unfold es; omega
theorem es_pub {N : List Nd} (hN : Wf N) (pops : Int → Nat) {x a : Int} (h1 : kindN N x = 7) (h2 : partsN N x = [a]) : es N pops a + 1 ≤ es N (pop1 pops x) a := by
  have h3 := pubN_of hN h1 h2
  have h4 : pop1 pops x x = pops x + 1 := up_same _ _ _
  have := pop1_le pops x a
  unfold es; rw [h3]; omega
theorem eN_mono (N : List Nd) (pops : Int → Nat) (x h : Int) : eN N pops h ≤ eN N (pop1 pops x) h := by
  have := es_mono N pops x ((partsN N h).getD 0 0)
  have := es_mono N pops x ((partsN N h).getD 1 0)
  unfold eN; omega
theorem eN_more {N : List Nd} (hN : Wf N) (pops : Int → Nat) {x a h : Int} (h8 : kindN N h = 8) (ha : a ∈ partsN N h) (hx : es N pops a + 1 ≤ es N (pop1 pops x) a) : eN N pops h + 1 ≤ eN N (pop1 pops x) h := by
  have hlen := (hN.two h h8).1
  have e0 := es_mono N pops x ((partsN N h).getD 0 0)
  have e1 := es_mono N pops x ((partsN N h).getD 1 0)
  unfold eN
  match hp : partsN N h, hlen with
  | [p, q], _ =>
    rw [hp] at ha e0 e1
    simp only [List.getD_cons_zero, List.getD_cons_succ] at e0 e1 ⊢
    simp only [List.mem_cons, List.not_mem_nil, or_false] at ha
    rcases ha with rfl | rfl <;> omega

/-- What does not hang on how often things wait. -/
structure Cn0 (N : List Nd) (S : MS) (pops : Int → Nat) : Prop where
  c1 : ∀ y, pops y + S.news.count y + rr (S.st y) ≤ 2
  wp : ∀ y h, h ∈ S.waits y → y ∈ partsN N h ∨ (kindN N h = 2 ∧ y = h)
  t0 : ∀ h, S.st h = 0 → cT N.length S.waits h = 0
theorem Cn0.rise {N : List Nd} {S : MS} {pops : Int → Nat} (c : Cn0 N S pops) (x to : Int) (ht : 2 ≤ to) (ht3 : to ≤ 3) : Cn0 N (riseP S x to) pops := by
  refine ⟨fun y => ?_, fun y h hh => c.wp y h (by rw [rise_waits] at hh; exact hh), fun h hh => ?_⟩
  · have h1 := c.c1 y
    unfold riseP
    split
    · rename_i hlt
      show pops y + (S.news ++ [x]).count y + rr (up S.st x to y) ≤ 2
      by_cases e : y = x
      · subst e
        rw [up_same, List.count_append, List.count_singleton]
        simp only [beq_self_eq_true, if_true]
        unfold rr at h1 ⊢
        split at h1 <;> split <;> (try split at h1) <;> (try split) <;> omega
      · rw [up_other _ _ e, List.count_append, List.count_singleton, if_neg (by simpa using fun h => e h.symm)]
        exact h1
    · exact h1
  · rw [rise_waits]
    refine c.t0 h ?_
    unfold riseP at hh
    split at hh
    · by_cases e : h = x
      · subst e
        simp only [up_same] at hh; omega
      · simpa [up_other _ _ e] using hh
    · exact hh
theorem wait_other (S : MS) (x : Int) (l : List Int) (y h : Int) : h ∈ (waitP S x l).waits y → h ∈ S.waits y ∨ (h = x ∧ y ∈ l) := by
  induction l generalizing S with
  | nil => exact .inl
  | cons z r ih =>
    intro hh
    rcases ih _ hh with e | ⟨e1, e2⟩
    · by_cases ez : y = z
      · subst ez
        simp only [up_same, List.mem_append, List.mem_singleton] at e
        rcases e with e | e
        · exact .inl e
        · exact .inr ⟨e, by simp⟩
      · simp only [up_other _ _ ez] at e; exact .inl e
    · exact .inr ⟨e1, by simp [e2]⟩
theorem ask_st (S : MS) (x k : Int) (ps : List Int) (y : Int) : S.st y ≤ (askP S x k ps).st y ∧ (y ≠ x → (askP S x k ps).st y = S.st y) := by
  unfold askP
  split
  · unfold riseP
    split
    · rename_i hlt
      show S.st y ≤ up S.st x 2 y ∧ (y ≠ x → up S.st x 2 y = S.st y)
      by_cases e : y = x
      · subst e; rw [up_same]; exact ⟨by omega, fun h => absurd rfl h⟩
      · rw [up_other _ _ e]; exact ⟨by omega, fun _ => rfl⟩
    · exact ⟨Int.le_refl _, fun _ => rfl⟩
  · rw [(waitP_st S x _).1]; exact ⟨Int.le_refl _, fun _ => rfl⟩
theorem Cn0.ask {N : List Nd} (hN : Wf N) {S : MS} {pops : Int → Nat} (c : Cn0 N S pops) {x : Int} (hx : 1 ≤ x ∧ x ≤ (N.length : Int)) (hst : S.st x ≠ 0) : Cn0 N (askP S x (kindN N x) (partsN N x)) pops := by
  have hT := fun h => cT_ask hN (S := S) hx h
  have hst2 := ask_st S x (kindN N x) (partsN N x)
  by_cases hL : lackP S (canP S) x (kindN N x) (partsN N x) = []
  · have e : askP S x (kindN N x) (partsN N x) = riseP S x 2 := by unfold askP; rw [if_pos hL]
    rw [e]; exact c.rise x 2 (by decide) (by decide)
  · have e : askP S x (kindN N x) (partsN N x) = waitP S x (lackP S (canP S) x (kindN N x) (partsN N x)) := by unfold askP; rw [if_neg hL]
    refine ⟨fun y => ?_, fun y h hh => ?_, fun h hh => ?_⟩
    · rw [e, (waitP_st S x _).1, (waitP_st S x _).2.2.2]; exact c.c1 y
    · rw [e] at hh
      rcases wait_other S x _ y h hh with h1 | ⟨rfl, h2⟩
      · exact c.wp y h h1
      · exact lack_in h2
    · have h0 : S.st h = 0 := by rw [e, (waitP_st S x _).1] at hh; exact hh
      have h1 := hT h
      rw [c.t0 h h0, if_neg (fun (e2 : x = h) => hst (by rw [e2]; exact h0))] at h1
      omega
theorem Cn0.wakes {N : List Nd} (hN : Wf N) {S : MS} {pops : Int → Nat} (c : Cn0 N S pops) {l : List Int} (hl : ∀ x ∈ l, (1 ≤ x ∧ x ≤ (N.length : Int)) ∧ 0 < S.st x) : Cn0 N (l.foldl (wakeStep N) S) pops := by
  induction l generalizing S with
  | nil => exact c
  | cons x r ih =>
    obtain ⟨hx, hs⟩ := hl x (by simp)
    have c1 : Cn0 N (wakeStep N S x) pops := by
      unfold wakeStep
      split
      · exact c
      · exact c.ask hN hx (by omega)
    refine ih c1 fun y hy => ⟨(hl y (by simp [hy])).1, ?_⟩
    have h1 := (hl y (by simp [hy])).2
    unfold wakeStep
    split
    · exact h1
    · have := (ask_st S x (kindN N x) (partsN N x) y).1; omega
theorem Cn0.wake {N : List Nd} (hN : Wf N) {S : MS} {pops : Int → Nat} (c : Cn0 N S pops) (hi : Inr N.length S) {y : Int} (hy : 1 ≤ y ∧ y ≤ (N.length : Int)) : Cn0 N (wakeP N S y) pops := by
  have e : wakeP N S y = (S.waits y).foldl (wakeStep N) { S with waits := up S.waits y [] } := rfl
  have c0 : Cn0 N { S with waits := up S.waits y [] } pops := ⟨c.c1, fun z h hh => by
    by_cases ez : z = y
    · subst ez; simp [up_same] at hh
    · simp only [up_other _ _ ez] at hh; exact c.wp z h hh, fun h hh => by
    have h1 := cT_up N.length S.waits y [] h hy
    have h2 := c.t0 h hh
    simp only at h1 ⊢
    simp only [List.count_nil] at h1
    omega⟩
  rw [e]
  refine c0.wakes hN fun x hx => ⟨hi.waits y x hx, ?_⟩
  have h1 := (hi.stb x).1
  have h2 : S.st x ≠ 0 := fun e => by
    have h3 := c.t0 x e
    have h4 := cT_le (W := S.waits) hy x
    have h5 := List.count_pos_iff.2 hx
    omega
  show 0 < S.st x
  omega
theorem cT_opens {N : List Nd} (hN : Wf N) {S : MS} {l : List Int} (hl : ∀ x ∈ l, 1 ≤ x ∧ x ≤ (N.length : Int)) (h : Int) :
    cT N.length (l.foldl (openStep N) S).waits h ≤ cT N.length S.waits h + l.count h * lim (kindN N h) := by
  induction l generalizing S with
  | nil => simp
  | cons x r ih =>
    have h1 := ih (S := openStep N S x) fun z hz => hl z (by simp [hz])
    have h2 : cT N.length (openStep N S x).waits h ≤ cT N.length S.waits h + if x = h then lim (kindN N x) else 0 := cT_ask (S := { S with st := up S.st x 1 }) hN (hl x (by simp)) h
    simp only [List.foldl_cons, List.count_cons, beq_iff_eq]
    by_cases e : x = h
    · subst e
      simp only [if_true] at h2 ⊢
      rw [Nat.add_mul]
      omega
    · rw [if_neg e] at h2
      rw [if_neg e, Nat.add_zero]
      omega
theorem Cn0.opens {N : List Nd} (hN : Wf N) {S : MS} {pops : Int → Nat} (c : Cn0 N S pops) {l : List Int} (hn : l.Nodup) (hl : ∀ x ∈ l, (1 ≤ x ∧ x ≤ (N.length : Int)) ∧ S.st x = 0) : Cn0 N (l.foldl (openStep N) S) pops := by
  induction l generalizing S with
  | nil => exact c
  | cons x r ih =>
    obtain ⟨hx, hs⟩ := hl x (by simp)
    obtain ⟨n1, n2⟩ := List.nodup_cons.1 hn
    have c0 : Cn0 N { S with st := up S.st x 1 } pops := ⟨fun y => by
      have h1 := c.c1 y
      show pops y + S.news.count y + rr (up S.st x 1 y) ≤ 2
      by_cases e : y = x
      · subst e
        rw [up_same]
        rw [hs] at h1
        exact h1
      · rw [up_other _ _ e]; exact h1, c.wp, fun h hh => c.t0 h (by
      by_cases e : h = x
      · rw [e]; exact hs
      · simpa [up_other _ _ e] using hh)⟩
    have c1 : Cn0 N (openStep N S x) pops := c0.ask hN hx (by simp [up_same])
    refine ih c1 n2 fun y hy => ⟨(hl y (by simp [hy])).1, ?_⟩
    have hne : y ≠ x := fun e => n1 (e ▸ hy)
    have := (ask_st { S with st := up S.st x 1 } x (kindN N x) (partsN N x) y).2 hne
    show (askP { S with st := up S.st x 1 } x (kindN N x) (partsN N x)).st y = 0
    rw [this]
    simp only [up_other _ _ hne]
    exact (hl y (by simp [hy])).2
theorem Cn0.rises {N : List Nd} {S : MS} {pops : Int → Nat} (c : Cn0 N S pops) (l : List Int) : Cn0 N (rises S l) pops := by
  induction l generalizing S with
  | nil => exact c
  | cons x r ih => exact ih (c.rise x 3 (by decide) (by decide))
#print axioms Cn0.opens
end Go.Proofs.YtepkhhpdpmhfaaaDoor.T
namespace Go.Proofs.YtepkhhpdpmhfaaaDoor.T
open Go Go.RowKit

structure Cn (N : List Nd) (S : MS) (pops : Int → Nat) : Prop where
  c0 : Cn0 N S pops
  t1 : ∀ h, kindN N h ≠ 8 → cT N.length S.waits h ≤ 1
  t8 : ∀ h, kindN N h = 8 → cT N.length S.waits h ≤ 2 ^ (1 + eN N pops h)
  s1 : ∀ y, (S.shut y).length ≤ sumN N.length pops
theorem wakeStep_shut (N : List Nd) (S : MS) (x : Int) : (wakeStep N S x).shut = S.shut := by
  unfold wakeStep askP
  split
  · rfl
  · split
    · exact rise_shut _ _ _
    · exact (waitP_st _ _ _).2.2.1
theorem wakes_shut (N : List Nd) (S : MS) (l : List Int) : (l.foldl (wakeStep N) S).shut = S.shut := by
  induction l generalizing S with
  | nil => rfl
  | cons x r ih => exact (ih _).trans (wakeStep_shut N S x)
theorem wakeP_shut (N : List Nd) (S : MS) (y : Int) : (wakeP N S y).shut = S.shut := wakes_shut N { S with waits := up S.waits y [] } (S.waits y)
theorem opens_shut (N : List Nd) (S : MS) (l : List Int) : (l.foldl (openStep N) S).shut = S.shut := by
  induction l generalizing S with
  | nil => rfl
  | cons x r ih =>
    refine (ih _).trans ?_
    show (askP { S with st := up S.st x 1 } x (kindN N x) (partsN N x)).shut = S.shut
    unfold askP
    split
    · exact rise_shut _ _ _
    · exact (waitP_st _ _ _).2.2.1
/-- What unfolding makes of the counts. -/
theorem unfold_cn {N : List Nd} (hN : Wf N) {S S1 : MS} {pops : Int → Nat} (c : Cn0 N S pops) (hi : Inr N.length S) {x : Int} (hx : 1 ≤ x ∧ x ≤ (N.length : Int)) (hu : unfoldR N S x S1) {m : Nat} (hs : ∀ y, (S.shut y).length ≤ m) :
    Cn0 N S1 pops ∧ Inr N.length S1 ∧ (∀ y, (S1.shut y).length ≤ m + 1) ∧ ∀ h, cT N.length S1.waits h ≤ max (lim (kindN N h)) (cT N.length S.waits h + if kindN N x = 7 ∧ kindN N h = 8 then (S.waits ((partsN N x).getD 0 0)).count h else 0) := by
  have hlow := hN.low x hx.1 hx.2
  have hin : ∀ y ∈ partsN N x, 1 ≤ y ∧ y ≤ (N.length : Int) := fun y hy => by have := hlow y hy; omega
  unfold unfoldR at hu
  split at hu
  · subst hu
    refine ⟨c.rises _, hi.rises hin, fun y => by rw [rises_shut]; have := hs y; omega, fun h => ?_⟩
    rw [rises_waits]
    omega
  · split at hu
    · rename_i k7
      subst hu
      have hy : 1 ≤ (partsN N x).getD 0 0 ∧ (partsN N x).getD 0 0 ≤ (N.length : Int) := hin _ (getD_mem (by rw [(hN.one x k7).1]; decide))
      have c1 : Cn0 N { S with sh := up S.sh ((partsN N x).getD 0 0) true } pops := ⟨c.c1, c.wp, c.t0⟩
      have hi1 : Inr N.length { S with sh := up S.sh ((partsN N x).getD 0 0) true } := ⟨hi.st0, hi.stb, fun z hz => by
        by_cases e : z = (partsN N x).getD 0 0
        · rw [e]; exact hy
        · have hz' : up S.sh ((partsN N x).getD 0 0) true z = true := hz
          rw [up_other _ _ e] at hz'
          exact hi.sh0 z hz', hi.shut, hi.waits, hi.news⟩
      refine ⟨c1.wake hN hi1 hy, ?_, fun y => by rw [wakeP_shut]; have := hs y; simp only; omega, fun h => ?_⟩
      · exact (hi1.clear1 _).steps (fun z hz => hi.waits _ z hz)
      · have h1 := cT_wake hN (S := { S with sh := up S.sh ((partsN N x).getD 0 0) true }) hy (hi.waits _) h
        simp only at h1
        by_cases e8 : kindN N h = 8
        · rw [if_pos e8] at h1
          rw [if_pos ⟨k7, e8⟩]
          omega
        · rw [if_neg e8] at h1
          omega
    · split at hu
      · rename_i k9
        subst hu
        refine ⟨c.rise _ 3 (by decide) (by decide), hi.rise (hin _ (getD_mem (by rw [hN.sig x k9]; decide))) (by decide), fun y => by rw [rise_shut]; have := hs y; omega, fun h => ?_⟩
        rw [rise_waits]
        omega
      · split at hu
        · rename_i k10
          obtain ⟨l, hl, rfl⟩ := hu
          have hnd : l.Nodup := hl.sorted.imp fun {a b} hh e => by omega
          have hlin : ∀ z ∈ l, (1 ≤ z ∧ z ≤ (N.length : Int)) ∧ S.st z = 0 := fun z hz => ⟨⟨(hl.inn z hz).1, (hl.inn z hz).2.1⟩, (hl.inn z hz).2.2⟩
          have c1 := c.opens hN hnd hlin
          have hT := fun h => cT_opens hN (S := S) (fun z hz => (hlin z hz).1) h
          have hio : Inr N.length (l.foldl (openStep N) S) := by
            clear c1 hT hl hnd
            have : ∀ (l : List Int) (S : MS), Inr N.length S → (∀ z ∈ l, 1 ≤ z ∧ z ≤ (N.length : Int)) → Inr N.length (l.foldl (openStep N) S) := by
              intro l
              induction l with
              | nil => intro S h _; exact h
              | cons z r ih => intro S h hz; exact ih _ ((h.low (hz z (by simp))).ask (hz z (by simp)) _ _) fun y hy => hz y (by simp [hy])
            exact this l S hi fun z hz => (hlin z hz).1
          have hTT : ∀ h, cT N.length (l.foldl (openStep N) S).waits h ≤ max (lim (kindN N h)) (cT N.length S.waits h + if kindN N x = 7 ∧ kindN N h = 8 then (S.waits ((partsN N x).getD 0 0)).count h else 0) := fun h => by
            have h1 := hT h
            have h2 := List.nodup_iff_count.1 hnd h
            by_cases hm : h ∈ l
            · rw [c.t0 h (hlin h hm).2] at h1
              have h3 : l.count h * lim (kindN N h) ≤ 1 * lim (kindN N h) := Nat.mul_le_mul_right _ h2
              omega
            · rw [List.count_eq_zero_of_not_mem hm, Nat.zero_mul] at h1
              omega
          have hlen := hN.sea x k10
          unfold openP
          split
          · refine ⟨c1.rise _ 3 (by decide) (by decide), hio.rise (hin _ (getD_mem (by omega))) (by decide), fun y => by rw [rise_shut, opens_shut]; have := hs y; omega, fun h => by rw [rise_waits]; exact hTT h⟩
          · refine ⟨⟨c1.c1, c1.wp, c1.t0⟩, hio.more0 (hin _ (getD_mem (by omega))) _, fun y => ?_, hTT⟩
            show (up (l.foldl (openStep N) S).shut ((partsN N x).getD 0 0) ((l.foldl (openStep N) S).shut ((partsN N x).getD 0 0) ++ [(partsN N x).getD 2 0]) y).length ≤ m + 1
            rw [opens_shut]
            generalize (partsN N x).getD 0 0 = k
            have h1 := hs y
            have h2 := hs k
            unfold up
            split
            · rw [List.length_append, List.length_singleton]; omega
            · omega
        · subst hu
          exact ⟨c, hi, fun y => by have := hs y; omega, fun h => by omega⟩
/-- What one spread makes of them. -/
theorem spread_cn {N : List Nd} (hN : Wf N) {S S' : MS} {pops : Int → Nat} {rest : List Int} {x : Int} (c : Cn N S pops) (hi : Inr N.length S) (hnews : S.news = rest ++ [x]) (hs : spreadR N { S with news := rest } x S') : Cn N S' (pop1 pops x) := by
  have hx : 1 ≤ x ∧ x ≤ (N.length : Int) := hi.news x (by rw [hnews]; simp)
  obtain ⟨S1, h1, h2, rfl⟩ := hs
  have c0 : Cn0 N { S with news := rest } (pop1 pops x) := ⟨fun y => by
    have h3 := c.c0.c1 y
    rw [hnews, List.count_append, List.count_singleton] at h3
    show pop1 pops x y + rest.count y + rr (S.st y) ≤ 2
    unfold pop1
    by_cases e : y = x
    · subst e; rw [up_same]; simp only [beq_self_eq_true, if_true] at h3; omega
    · rw [up_other _ _ e]; rw [if_neg (by simpa using fun h => e h.symm)] at h3; exact h3, c.c0.wp, c.c0.t0⟩
  have hi0 : Inr N.length { S with news := rest } := ⟨hi.st0, hi.stb, hi.sh0, hi.shut, hi.waits, fun y hy => hi.news y (by rw [hnews]; simp [hy])⟩
  have hsum : sumN N.length (pop1 pops x) = sumN N.length pops + 1 := by
    have := sumN_up (f := pops) (pops x + 1) hx
    unfold pop1; omega
  have hU : Cn0 N S1 (pop1 pops x) ∧ Inr N.length S1 ∧ (∀ y, (S1.shut y).length ≤ sumN N.length pops + 1) ∧ ∀ h, cT N.length S1.waits h ≤ max (lim (kindN N h)) (cT N.length S.waits h + if kindN N x = 7 ∧ kindN N h = 8 then (S.waits ((partsN N x).getD 0 0)).count h else 0) := by
    by_cases e3 : S.st x = 3
    · exact unfold_cn hN c0 hi0 hx (h1 e3) c.s1
    · rw [h2 e3]
      exact ⟨c0, hi0, fun y => by have := c.s1 y; simp only; omega, fun h => by simp only; omega⟩
  obtain ⟨u1, u2, u3, u4⟩ := hU
  have c2 : Cn0 N { rises S1 (S1.shut x) with shut := up (rises S1 (S1.shut x)).shut x [] } (pop1 pops x) := ⟨(u1.rises _).c1, (u1.rises _).wp, (u1.rises _).t0⟩
  have hi2 : Inr N.length { rises S1 (S1.shut x) with shut := up (rises S1 (S1.shut x)).shut x [] } := (u2.rises (u2.shut x)).clear0 x
  have hw : ∀ h, cT N.length (wakeP N { rises S1 (S1.shut x) with shut := up (rises S1 (S1.shut x)).shut x [] } x).waits h ≤ cT N.length S1.waits h + if kindN N h = 8 then (S1.waits x).count h else 0 := fun h => by
    have := cT_wake hN hx (hi2.waits x) h
    simpa only [rises_waits] using this
  refine ⟨c2.wake hN hi2 hx, fun h hk => ?_, fun h hk => ?_, fun y => ?_⟩
  · have a1 := hw h
    have a2 := u4 h
    have a3 := c.t1 h hk
    rw [if_neg hk] at a1
    rw [if_neg (fun e => hk e.2)] at a2
    unfold lim at a2
    rw [if_neg hk] at a2
    omega
  · have a1 := hw h
    have a2 := u4 h
    have a3 := c.t8 h hk
    have m1 := eN_mono N pops x h
    rw [if_pos hk] at a1
    unfold lim at a2
    rw [if_pos hk] at a2
    have p0 : (2 : Nat) ^ 1 ≤ 2 ^ (1 + eN N pops h) := Nat.pow_le_pow_right (by decide) (by omega)
    have p1 : (2 : Nat) ^ 1 ≤ 2 ^ (1 + eN N (pop1 pops x) h) := Nat.pow_le_pow_right (by decide) (by omega)
    have p2 : (2 : Nat) ^ (1 + eN N pops h) ≤ 2 ^ (1 + eN N (pop1 pops x) h) := Nat.pow_le_pow_right (by decide) (by omega)
    have more : ∀ a, a ∈ partsN N h → es N pops a + 1 ≤ es N (pop1 pops x) a → 2 * (2 : Nat) ^ (1 + eN N pops h) ≤ 2 ^ (1 + eN N (pop1 pops x) h) := fun a ha he => by
      have e1 := eN_more hN pops hk ha he
      have e2 : (2 : Nat) ^ (1 + eN N pops h + 1) ≤ 2 ^ (1 + eN N (pop1 pops x) h) := Nat.pow_le_pow_right (by decide) (by omega)
      rw [Nat.pow_succ] at e2
      omega
    by_cases hc : (S1.waits x).count h = 0
    · rw [hc] at a1
      by_cases h7 : kindN N x = 7
      · rw [if_pos ⟨h7, hk⟩] at a2
        by_cases hd : (S.waits ((partsN N x).getD 0 0)).count h = 0
        · rw [hd] at a2; omega
        · have hmem := List.count_pos_iff.1 (Nat.pos_of_ne_zero hd)
          have hlen := (hN.one x h7).1
          have hps : partsN N x = [(partsN N x).getD 0 0] := by
            match hp : partsN N x, hlen with
            | [p], _ => rfl
          have hain : 1 ≤ (partsN N x).getD 0 0 ∧ (partsN N x).getD 0 0 ≤ (N.length : Int) := by
            have := hN.low x hx.1 hx.2 _ (getD_mem (j := 0) (by rw [hlen]; decide)); omega
          have hle := cT_le (W := S.waits) hain h
          rcases c.c0.wp _ _ hmem with e | ⟨e, _⟩
          · have := more _ e (es_pub hN pops h7 hps)
            omega
          · omega
      · rw [if_neg (fun e => h7 e.1)] at a2
        omega
    · have hmem := List.count_pos_iff.1 (Nat.pos_of_ne_zero hc)
      have hle := cT_le (W := S1.waits) hx h
      rcases u1.wp _ _ hmem with e | ⟨e, _⟩
      · have hk2 := (hN.two h hk).2 x e
        rw [if_neg (fun e7 => by rw [hk2] at e7; exact absurd e7.1 (by decide))] at a2
        have := more x e (es_self N pops x)
        omega
      · omega
  · rw [wakeP_shut, hsum]
    show (up (rises S1 (S1.shut x)).shut x [] y).length ≤ _
    have := u3 y
    rw [rises_shut]
    unfold up
    split
    · exact Nat.zero_le _
    · exact this
/-- .. so all lists stay short, and one may be popped only so often. -/
theorem Cn.room {N : List Nd} (hN : Wf N) {S : MS} {pops : Int → Nat} (c : Cn N S pops) (hi : Inr N.length S) : Room S 1073741824 := by
  have hfew := hN.few
  have hp : ∀ y, pops y ≤ 2 := fun y => by have := c.c0.c1 y; omega
  have hs : sumN N.length pops ≤ 2 * N.length := sumN_le fun y _ _ => hp y
  have hE : ∀ h, eN N pops h ≤ 8 := fun h => by
    have h1 := hp ((partsN N h).getD 0 0)
    have h2 := hp ((partsN N h).getD 1 0)
    have h3 := hp (pubN N ((partsN N h).getD 0 0))
    have h4 := hp (pubN N ((partsN N h).getD 1 0))
    unfold eN es; omega
  refine ⟨fun y => by have := c.s1 y; omega, fun y => ?_, ?_⟩
  · by_cases hy : S.waits y = []
    · rw [hy]; exact Nat.zero_le _
    · obtain ⟨h0, hh0⟩ := List.exists_mem_of_ne_nil _ hy
      have hyin : 1 ≤ y ∧ y ≤ (N.length : Int) := by
        have hh := hi.waits y h0 hh0
        rcases c.c0.wp y h0 hh0 with e | ⟨_, rfl⟩
        · have := hN.low h0 hh.1 hh.2 y e; omega
        · exact hh
      have := few_k 512 N.length (S.waits y) (hi.waits y) fun h => by
        have h1 := cT_le (W := S.waits) hyin h
        by_cases hk : kindN N h = 8
        · have h2 := c.t8 h hk
          have h3 : (2 : Nat) ^ (1 + eN N pops h) ≤ 2 ^ 9 := Nat.pow_le_pow_right (by decide) (by have := hE h; omega)
          omega
        · have h2 := c.t1 h hk; omega
      omega
  · have := few_k 2 N.length S.news hi.news fun h => by have := c.c0.c1 h; omega
    omega
theorem Cn.pop {N : List Nd} {S : MS} {pops : Int → Nat} (c : Cn N S pops) (hi : Inr N.length S) {rest : List Int} {x : Int} (hnews : S.news = rest ++ [x]) : sumN N.length pops < 2 * N.length ∧ sumN N.length (pop1 pops x) = sumN N.length pops + 1 := by
  have hx : 1 ≤ x ∧ x ≤ (N.length : Int) := hi.news x (by rw [hnews]; simp)
  have hsum : sumN N.length (pop1 pops x) = sumN N.length pops + 1 := by
    have := sumN_up (f := pops) (pops x + 1) hx
    unfold pop1; omega
  refine ⟨?_, hsum⟩
  have : sumN N.length (pop1 pops x) ≤ 2 * N.length := sumN_le fun y _ _ => by
    have h3 := c.c0.c1 y
    unfold pop1
    by_cases e : y = x
    · subst e
      rw [hnews, List.count_append, List.count_singleton] at h3
      simp only [beq_self_eq_true, if_true] at h3
      rw [up_same]; omega
    · rw [up_other _ _ e]; omega
  omega
#print axioms spread_cn
#print axioms Cn.room
end Go.Proofs.YtepkhhpdpmhfaaaDoor.T
namespace Go.Proofs.YtepkhhpdpmhfaaaDoor.T
open Go Go.RowKit

/-- What follows of the terms Bs (true), what can be made of them (false). -/
inductive Der (N : List Nd) (Bs : Int → Prop) : Bool → Int → Prop
  | base {h : Int} : Bs h → 1 ≤ h → h ≤ (N.length : Int) → Der N Bs true h
  | row {h x : Int} : Der N Bs true h → kindN N h = 3 → x ∈ partsN N h → Der N Bs true x
  | signed {h : Int} : Der N Bs true h → kindN N h = 9 → Der N Bs true ((partsN N h).getD 1 0)
  | sealed {h : Int} : Der N Bs true h → kindN N h = 10 → Der N Bs false ((partsN N h).getD 0 0) → Der N Bs true ((partsN N h).getD 2 0)
  | fo {h : Int} : Der N Bs true h → Der N Bs false h
  | made {h : Int} : 1 ≤ h → h ≤ (N.length : Int) → kindN N h ≠ 2 → kindN N h ≠ 8 → (∀ x ∈ partsN N h, Der N Bs false x) → Der N Bs false h
  | both {h : Int} : kindN N h = 8 → Der N Bs true ((partsN N h).getD 0 0) → Der N Bs true ((partsN N h).getD 1 0) → Der N Bs false h
  | left {h q : Int} : kindN N h = 8 → Der N Bs true ((partsN N h).getD 0 0) → Der N Bs true q → kindN N q = 7 → partsN N q = [(partsN N h).getD 1 0] → Der N Bs false h
  | right {h q : Int} : kindN N h = 8 → Der N Bs true ((partsN N h).getD 1 0) → Der N Bs true q → kindN N q = 7 → partsN N q = [(partsN N h).getD 0 0] → Der N Bs false h

structure Snd (N : List Nd) (Bs : Int → Prop) (S : MS) : Prop where
  s3 : ∀ h, S.st h = 3 → Der N Bs true h
  s2 : ∀ h, 2 ≤ S.st h → Der N Bs false h
  ssh : ∀ a, S.sh a = true → ∃ q, Der N Bs true q ∧ kindN N q = 7 ∧ partsN N q = [a]
  ssh' : ∀ k, ∀ u ∈ S.shut k, ∃ h, Der N Bs true h ∧ kindN N h = 10 ∧ (partsN N h).getD 0 0 = k ∧ (partsN N h).getD 2 0 = u
theorem Snd.rise {N : List Nd} {Bs : Int → Prop} {S : MS} (s : Snd N Bs S) {x to : Int} (h2 : Der N Bs false x) (h3 : to = 3 → Der N Bs true x) : Snd N Bs (riseP S x to) := by
  unfold riseP
  split
  · refine ⟨fun h hh => ?_, fun h hh => ?_, s.ssh, s.ssh'⟩
    · by_cases e : h = x
      · subst e; simp only [up_same] at hh; exact h3 hh
      · simp only [up_other _ _ e] at hh; exact s.s3 h hh
    · by_cases e : h = x
      · subst e; exact h2
      · simp only [up_other _ _ e] at hh; exact s.s2 h hh
  · exact s
theorem agr_der {N : List Nd} {Bs : Int → Prop} {S : MS} (s : Snd N Bs S) {a b : Int} (h : agrP S a b = true) : Der N Bs true a ∧ (Der N Bs true b ∨ ∃ q, Der N Bs true q ∧ kindN N q = 7 ∧ partsN N q = [b]) := by
  unfold agrP at h
  simp only [Bool.and_eq_true, Bool.or_eq_true, decide_eq_true_eq] at h
  exact ⟨s.s3 a h.1, h.2.elim (fun e => .inr (s.ssh b e)) (fun e => .inl (s.s3 b e))⟩
/-- What lacks nothing can be made. -/
theorem lack_der {N : List Nd} (hN : Wf N) {Bs : Int → Prop} {S : MS} (s : Snd N Bs S) {x : Int} (hx : 1 ≤ x ∧ x ≤ (N.length : Int)) {can : Int → Bool} (hc : ∀ y, can y = true → Der N Bs false y) (hl : lackP S can x (kindN N x) (partsN N x) = []) : Der N Bs false x := by
  unfold lackP at hl
  split at hl
  · cases hl
  · rename_i h2
    split at hl
    · rename_i h8
      split at hl
      · rename_i ha
        rcases Bool.or_eq_true_iff.1 ha with ha | ha
        · obtain ⟨d1, d2 | ⟨q, d2, d3, d4⟩⟩ := agr_der s ha
          · exact .both h8 d1 d2
          · exact .left h8 d1 d2 d3 d4
        · obtain ⟨d1, d2 | ⟨q, d2, d3, d4⟩⟩ := agr_der s ha
          · exact .both h8 d2 d1
          · exact .right h8 d1 d2 d3 d4
      · have := (hN.two x h8).1
        rw [hl] at this
        cases this
    · rename_i h8
      cases hf : (partsN N x).find? (fun y => !can y) with
      | some z => rw [hf] at hl; cases hl
      | none =>
        refine .made hx.1 hx.2 h2 h8 fun y hy => hc y ?_
        have := List.find?_eq_none.1 hf y hy
        simpa using this
theorem Snd.ask {N : List Nd} (hN : Wf N) {Bs : Int → Prop} {S : MS} (s : Snd N Bs S) {x : Int} (hx : 1 ≤ x ∧ x ≤ (N.length : Int)) : Snd N Bs (askP S x (kindN N x) (partsN N x)) := by
  unfold askP
  split
  · rename_i hl
    exact s.rise (lack_der hN s hx (fun y hy => s.s2 y (by unfold canP at hy; simpa using hy)) hl) (fun e => absurd e (by decide))
  · have e := waitP_st S x (lackP S (canP S) x (kindN N x) (partsN N x))
    exact ⟨fun h hh => s.s3 h (by rw [e.1] at hh; exact hh), fun h hh => s.s2 h (by rw [e.1] at hh; exact hh), fun a ha => s.ssh a (by rw [e.2.1] at ha; exact ha), fun k u hu => s.ssh' k u (by rw [e.2.2.1] at hu; exact hu)⟩
theorem Snd.wakes {N : List Nd} (hN : Wf N) {Bs : Int → Prop} {S : MS} (s : Snd N Bs S) {l : List Int} (hl : ∀ x ∈ l, 1 ≤ x ∧ x ≤ (N.length : Int)) : Snd N Bs (l.foldl (wakeStep N) S) := by
  induction l generalizing S with
  | nil => exact s
  | cons x r ih =>
    refine ih (S := wakeStep N S x) ?_ fun y hy => hl y (by simp [hy])
    unfold wakeStep
    split
    · exact s
    · exact s.ask hN (hl x (by simp))
theorem Snd.wake {N : List Nd} (hN : Wf N) {Bs : Int → Prop} {S : MS} (s : Snd N Bs S) {y : Int} (hl : ∀ x ∈ S.waits y, 1 ≤ x ∧ x ≤ (N.length : Int)) : Snd N Bs (wakeP N S y) :=
  Snd.wakes (S := { S with waits := up S.waits y [] }) hN ⟨s.s3, s.s2, s.ssh, s.ssh'⟩ hl
theorem Snd.opens {N : List Nd} (hN : Wf N) {Bs : Int → Prop} {S : MS} (s : Snd N Bs S) {l : List Int} (hl : ∀ x ∈ l, 1 ≤ x ∧ x ≤ (N.length : Int)) : Snd N Bs (l.foldl (openStep N) S) := by
  induction l generalizing S with
  | nil => exact s
  | cons x r ih =>
    refine ih (S := openStep N S x) ?_ fun y hy => hl y (by simp [hy])
    refine Snd.ask (S := { S with st := up S.st x 1 }) hN ⟨fun h hh => ?_, fun h hh => ?_, s.ssh, s.ssh'⟩ (hl x (by simp))
    · by_cases e : h = x
      · subst e; simp only [up_same] at hh; omega
      · simp only [up_other _ _ e] at hh; exact s.s3 h hh
    · by_cases e : h = x
      · subst e; simp only [up_same] at hh; omega
      · simp only [up_other _ _ e] at hh; exact s.s2 h hh
theorem Snd.mrises {N : List Nd} {Bs : Int → Prop} {S : MS} (s : Snd N Bs S) {l : List Int} (hl : ∀ x ∈ l, Der N Bs true x) : Snd N Bs (rises S l) := by
  induction l generalizing S with
  | nil => exact s
  | cons x r ih => exact ih (s.rise (.fo (hl x (by simp))) fun _ => hl x (by simp)) fun y hy => hl y (by simp [hy])
theorem Snd.unfold {N : List Nd} (hN : Wf N) {Bs : Int → Prop} {S S1 : MS} (s : Snd N Bs S) (hi : Inr N.length S) {x : Int} (h3 : S.st x = 3) (hu : unfoldR N S x S1) : Snd N Bs S1 := by
  have hd := s.s3 x h3
  unfold unfoldR at hu
  split at hu
  · rename_i k3
    subst hu
    exact s.mrises fun y hy => .row hd k3 hy
  · split at hu
    · rename_i k7
      subst hu
      have hlen := (hN.one x k7).1
      have hps : partsN N x = [(partsN N x).getD 0 0] := by
        match hp : partsN N x, hlen with
        | [p], _ => rfl
      refine Snd.wake (S := { S with sh := up S.sh ((partsN N x).getD 0 0) true }) hN ⟨s.s3, s.s2, fun a ha => ?_, s.ssh'⟩ (hi.waits _)
      by_cases e : a = (partsN N x).getD 0 0
      · exact ⟨x, hd, k7, by rw [e]; exact hps⟩
      · have ha' : up S.sh ((partsN N x).getD 0 0) true a = true := ha
        rw [up_other _ _ e] at ha'
        exact s.ssh a ha'
    · split at hu
      · rename_i k9
        subst hu
        exact s.rise (.fo (.signed hd k9)) fun _ => .signed hd k9
      · split at hu
        · rename_i k10
          obtain ⟨l, hl, rfl⟩ := hu
          have s1 := s.opens hN (l := l) fun z hz => ⟨(hl.inn z hz).1, (hl.inn z hz).2.1⟩
          unfold openP
          split
          · rename_i hc
            have hk := s1.s2 _ (show 2 ≤ _ by unfold canP at hc; simpa using hc)
            exact s1.rise (.fo (.sealed hd k10 hk)) fun _ => .sealed hd k10 hk
          · refine ⟨s1.s3, s1.s2, s1.ssh, fun k u hu => ?_⟩
            have hu' : u ∈ up (l.foldl (openStep N) S).shut ((partsN N x).getD 0 0) ((l.foldl (openStep N) S).shut ((partsN N x).getD 0 0) ++ [(partsN N x).getD 2 0]) k := hu
            by_cases e : k = (partsN N x).getD 0 0
            · rw [e, up_same] at hu'
              rcases List.mem_append.1 hu' with h | h
              · rw [e]; exact s1.ssh' _ u h
              · rw [List.mem_singleton] at h
                exact ⟨x, hd, k10, e.symm, h.symm⟩
            · rw [up_other _ _ e] at hu'; exact s1.ssh' k u hu'
        · subst hu; exact s
theorem opens_inr {N : List Nd} : ∀ (l : List Int) (S : MS), Inr N.length S → (∀ z ∈ l, 1 ≤ z ∧ z ≤ (N.length : Int)) → Inr N.length (l.foldl (openStep N) S) := by
  intro l
  induction l with
  | nil => intro S h _; exact h
  | cons z r ih => intro S h hz; exact ih _ ((h.low (hz z (by simp))).ask (hz z (by simp)) _ _) fun y hy => hz y (by simp [hy])
theorem Snd.spread {N : List Nd} (hN : Wf N) {Bs : Int → Prop} {S S' : MS} (s : Snd N Bs S) {pops : Int → Nat} (c : Cn0 N S pops) {m : Nat} (hm : ∀ y, (S.shut y).length ≤ m) (hi : Inr N.length S) {x : Int} (hx : 1 ≤ x ∧ x ≤ (N.length : Int)) (h2 : 2 ≤ S.st x) (hs : spreadR N S x S') : Snd N Bs S' := by
  obtain ⟨S1, a1, a2, rfl⟩ := hs
  have hS1 : Snd N Bs S1 ∧ Inr N.length S1 := by
    by_cases e : S.st x = 3
    · exact ⟨s.unfold hN hi e (a1 e), (unfold_cn hN c hi hx (a1 e) hm).2.1⟩
    · rw [a2 e]; exact ⟨s, hi⟩
  obtain ⟨s1, i1⟩ := hS1
  have hd : Der N Bs false x := s.s2 x h2
  have s2 : Snd N Bs (rises S1 (S1.shut x)) := s1.mrises fun u hu => by
    obtain ⟨h, d1, d2, d3, d4⟩ := s1.ssh' x u hu
    rw [← d4]
    exact .sealed d1 d2 (by rw [d3]; exact hd)
  refine Snd.wake (S := { rises S1 (S1.shut x) with shut := up (rises S1 (S1.shut x)).shut x [] }) hN ⟨s2.s3, s2.s2, s2.ssh, fun k u hu => ?_⟩ (((i1.rises (i1.shut x)).clear0 x).waits x)
  have hu' : u ∈ up (rises S1 (S1.shut x)).shut x [] k := hu
  by_cases e : k = x
  · rw [e, up_same] at hu'; cases hu'
  · rw [up_other _ _ e] at hu'; exact s2.ssh' k u hu'
#print axioms Snd.spread
end Go.Proofs.YtepkhhpdpmhfaaaDoor.T
