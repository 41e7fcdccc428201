/- A mind's lists stay short, however often it is told: what one spread makes of the counts. -/
import Derived.Test.YtmplcibaoanlnaaPkC
namespace Go.Proofs.Ytmplcibaoanlnaa
open Go Go.RowKit

structure Cn (N : List Nd) (S : MS) (pops : Int → Nat) : Prop where
  c0 : Cn0 N S pops
  t1 : ∀ h, kindN N h ≠ 8 → cT N.length S.waits h ≤ 1
  t8 : ∀ h, kindN N h = 8 → cT N.length S.waits h ≤ 2 ^ (1 + eN N pops h)
  s1 : ∀ y, (S.shut y).length ≤ sumN N.length pops
theorem wakeStep_shut (N : List Nd) (S : MS) (x : Int) : (wakeStep N S x).shut = S.shut := by
  unfold wakeStep askP
  split
  · rfl
  · split
    · exact rise_shut _ _ _
    · exact (waitP_st _ _ _).2.2.1
theorem wakes_shut (N : List Nd) (S : MS) (l : List Int) : (l.foldl (wakeStep N) S).shut = S.shut := by
  induction l generalizing S with
  | nil => rfl
  | cons x r ih => exact (ih _).trans (wakeStep_shut N S x)
theorem wakeP_shut (N : List Nd) (S : MS) (y : Int) : (wakeP N S y).shut = S.shut := wakes_shut N { S with waits := up S.waits y [] } (S.waits y)
theorem opens_shut (N : List Nd) (S : MS) (l : List Int) : (l.foldl (openStep N) S).shut = S.shut := by
  induction l generalizing S with
  | nil => rfl
  | cons x r ih =>
    refine (ih _).trans ?_
    show (askP { S with st := up S.st x 1 } x (kindN N x) (partsN N x)).shut = S.shut
    unfold askP
    split
    · exact rise_shut _ _ _
    · exact (waitP_st _ _ _).2.2.1
/-- What unfolding makes of the counts. -/
theorem unfold_cn {N : List Nd} (hN : Wf N) {S S1 : MS} {pops : Int → Nat} (c : Cn0 N S pops) (hi : Inr N.length S) {x : Int} (hx : 1 ≤ x ∧ x ≤ (N.length : Int)) (hu : unfoldR N S x S1) {m : Nat} (hs : ∀ y, (S.shut y).length ≤ m) :
    Cn0 N S1 pops ∧ Inr N.length S1 ∧ (∀ y, (S1.shut y).length ≤ m + 1) ∧ ∀ h, cT N.length S1.waits h ≤ max (lim (kindN N h)) (cT N.length S.waits h + if kindN N x = 7 ∧ kindN N h = 8 then (S.waits ((partsN N x).getD 0 0)).count h else 0) := by
  have hlow := hN.low x hx.1 hx.2
  have hin : ∀ y ∈ partsN N x, 1 ≤ y ∧ y ≤ (N.length : Int) := fun y hy => by have := hlow y hy; omega
  unfold unfoldR at hu
  split at hu
  · subst hu
    refine ⟨c.rises _, hi.rises hin, fun y => by rw [rises_shut]; have := hs y; omega, fun h => ?_⟩
    rw [rises_waits]
    omega
  · split at hu
    · rename_i k7
      subst hu
      have hy : 1 ≤ (partsN N x).getD 0 0 ∧ (partsN N x).getD 0 0 ≤ (N.length : Int) := hin _ (getD_mem (by rw [(hN.one x k7).1]; decide))
      have c1 : Cn0 N { S with sh := up S.sh ((partsN N x).getD 0 0) true } pops := ⟨c.c1, c.wp, c.t0⟩
      have hi1 : Inr N.length { S with sh := up S.sh ((partsN N x).getD 0 0) true } := ⟨hi.st0, hi.stb, fun z hz => by
        by_cases e : z = (partsN N x).getD 0 0
        · rw [e]; exact hy
        · have hz' : up S.sh ((partsN N x).getD 0 0) true z = true := hz
          rw [up_other _ _ e] at hz'
          exact hi.sh0 z hz', hi.shut, hi.waits, hi.news⟩
      refine ⟨c1.wake hN hi1 hy, ?_, fun y => by rw [wakeP_shut]; have := hs y; simp only; omega, fun h => ?_⟩
      · exact (hi1.clear1 _).steps (fun z hz => hi.waits _ z hz)
      · have h1 := cT_wake hN (S := { S with sh := up S.sh ((partsN N x).getD 0 0) true }) hy (hi.waits _) h
        simp only at h1
        by_cases e8 : kindN N h = 8
        · rw [if_pos e8] at h1
          rw [if_pos ⟨k7, e8⟩]
          omega
        · rw [if_neg e8] at h1
          omega
    · split at hu
      · rename_i k9
        subst hu
        refine ⟨c.rise _ 3 (by decide) (by decide), hi.rise (hin _ (getD_mem (by rw [hN.sig x k9]; decide))) (by decide), fun y => by rw [rise_shut]; have := hs y; omega, fun h => ?_⟩
        rw [rise_waits]
        omega
      · split at hu
        · rename_i k10
          obtain ⟨l, hl, rfl⟩ := hu
          have hnd : l.Nodup := hl.sorted.imp fun {a b} hh e => by omega
          have hlin : ∀ z ∈ l, (1 ≤ z ∧ z ≤ (N.length : Int)) ∧ S.st z = 0 := fun z hz => ⟨⟨(hl.inn z hz).1, (hl.inn z hz).2.1⟩, (hl.inn z hz).2.2⟩
          have c1 := c.opens hN hnd hlin
          have hT := fun h => cT_opens hN (S := S) (fun z hz => (hlin z hz).1) h
          have hio : Inr N.length (l.foldl (openStep N) S) := by
            clear c1 hT hl hnd
            have : ∀ (l : List Int) (S : MS), Inr N.length S → (∀ z ∈ l, 1 ≤ z ∧ z ≤ (N.length : Int)) → Inr N.length (l.foldl (openStep N) S) := by
              intro l
              induction l with
              | nil => intro S h _; exact h
              | cons z r ih => intro S h hz; exact ih _ ((h.low (hz z (by simp))).ask (hz z (by simp)) _ _) fun y hy => hz y (by simp [hy])
            exact this l S hi fun z hz => (hlin z hz).1
          have hTT : ∀ h, cT N.length (l.foldl (openStep N) S).waits h ≤ max (lim (kindN N h)) (cT N.length S.waits h + if kindN N x = 7 ∧ kindN N h = 8 then (S.waits ((partsN N x).getD 0 0)).count h else 0) := fun h => by
            have h1 := hT h
            have h2 := List.nodup_iff_count.1 hnd h
            by_cases hm : h ∈ l
            · rw [c.t0 h (hlin h hm).2] at h1
              have h3 : l.count h * lim (kindN N h) ≤ 1 * lim (kindN N h) := Nat.mul_le_mul_right _ h2
              omega
            · rw [List.count_eq_zero_of_not_mem hm, Nat.zero_mul] at h1
              omega
          have hlen := hN.sea x k10
          unfold openP
          split
          · refine ⟨c1.rise _ 3 (by decide) (by decide), hio.rise (hin _ (getD_mem (by omega))) (by decide), fun y => by rw [rise_shut, opens_shut]; have := hs y; omega, fun h => by rw [rise_waits]; exact hTT h⟩
          · refine ⟨⟨c1.c1, c1.wp, c1.t0⟩, hio.more0 (hin _ (getD_mem (by omega))) _, fun y => ?_, hTT⟩
            show (up (l.foldl (openStep N) S).shut ((partsN N x).getD 0 0) ((l.foldl (openStep N) S).shut ((partsN N x).getD 0 0) ++ [(partsN N x).getD 2 0]) y).length ≤ m + 1
            rw [opens_shut]
            generalize (partsN N x).getD 0 0 = k
            have h1 := hs y
            have h2 := hs k
            unfold up
            split
            · rw [List.length_append, List.length_singleton]; omega
            · omega
        · subst hu
          exact ⟨c, hi, fun y => by have := hs y; omega, fun h => by omega⟩
/-- What one spread makes of them. -/
theorem spread_cn {N : List Nd} (hN : Wf N) {S S' : MS} {pops : Int → Nat} {rest : List Int} {x : Int} (c : Cn N S pops) (hi : Inr N.length S) (hnews : S.news = rest ++ [x]) (hs : spreadR N { S with news := rest } x S') : Cn N S' (pop1 pops x) := by
  have hx : 1 ≤ x ∧ x ≤ (N.length : Int) := hi.news x (by rw [hnews]; simp)
  obtain ⟨S1, h1, h2, rfl⟩ := hs
  have c0 : Cn0 N { S with news := rest } (pop1 pops x) := ⟨fun y => by
    have h3 := c.c0.c1 y
    rw [hnews, List.count_append, List.count_singleton] at h3
    show pop1 pops x y + rest.count y + rr (S.st y) ≤ 2
    unfold pop1
    by_cases e : y = x
    · subst e; rw [up_same]; simp only [beq_self_eq_true, if_true] at h3; omega
    · rw [up_other _ _ e]; rw [if_neg (by simpa using fun h => e h.symm)] at h3; exact h3, c.c0.wp, c.c0.t0⟩
  have hi0 : Inr N.length { S with news := rest } := ⟨hi.st0, hi.stb, hi.sh0, hi.shut, hi.waits, fun y hy => hi.news y (by rw [hnews]; simp [hy])⟩
  have hsum : sumN N.length (pop1 pops x) = sumN N.length pops + 1 := by
    have := sumN_up (f := pops) (pops x + 1) hx
    unfold pop1; omega
  have hU : Cn0 N S1 (pop1 pops x) ∧ Inr N.length S1 ∧ (∀ y, (S1.shut y).length ≤ sumN N.length pops + 1) ∧ ∀ h, cT N.length S1.waits h ≤ max (lim (kindN N h)) (cT N.length S.waits h + if kindN N x = 7 ∧ kindN N h = 8 then (S.waits ((partsN N x).getD 0 0)).count h else 0) := by
    by_cases e3 : S.st x = 3
    · exact unfold_cn hN c0 hi0 hx (h1 e3) c.s1
    · rw [h2 e3]
      exact ⟨c0, hi0, fun y => by have := c.s1 y; simp only; omega, fun h => by simp only; omega⟩
  obtain ⟨u1, u2, u3, u4⟩ := hU
  have c2 : Cn0 N { rises S1 (S1.shut x) with shut := up (rises S1 (S1.shut x)).shut x [] } (pop1 pops x) := ⟨(u1.rises _).c1, (u1.rises _).wp, (u1.rises _).t0⟩
  have hi2 : Inr N.length { rises S1 (S1.shut x) with shut := up (rises S1 (S1.shut x)).shut x [] } := (u2.rises (u2.shut x)).clear0 x
  have hw : ∀ h, cT N.length (wakeP N { rises S1 (S1.shut x) with shut := up (rises S1 (S1.shut x)).shut x [] } x).waits h ≤ cT N.length S1.waits h + if kindN N h = 8 then (S1.waits x).count h else 0 := fun h => by
    have := cT_wake hN hx (hi2.waits x) h
    simpa only [rises_waits] using this
  refine ⟨c2.wake hN hi2 hx, fun h hk => ?_, fun h hk => ?_, fun y => ?_⟩
  · have a1 := hw h
    have a2 := u4 h
    have a3 := c.t1 h hk
    rw [if_neg hk] at a1
    rw [if_neg (fun e => hk e.2)] at a2
    unfold lim at a2
    rw [if_neg hk] at a2
    omega
  · have a1 := hw h
    have a2 := u4 h
    have a3 := c.t8 h hk
    have m1 := eN_mono N pops x h
    rw [if_pos hk] at a1
    unfold lim at a2
    rw [if_pos hk] at a2
    have p0 : (2 : Nat) ^ 1 ≤ 2 ^ (1 + eN N pops h) := Nat.pow_le_pow_right (by decide) (by omega)
    have p1 : (2 : Nat) ^ 1 ≤ 2 ^ (1 + eN N (pop1 pops x) h) := Nat.pow_le_pow_right (by decide) (by omega)
    have p2 : (2 : Nat) ^ (1 + eN N pops h) ≤ 2 ^ (1 + eN N (pop1 pops x) h) := Nat.pow_le_pow_right (by decide) (by omega)
    have more : ∀ a, a ∈ partsN N h → es N pops a + 1 ≤ es N (pop1 pops x) a → 2 * (2 : Nat) ^ (1 + eN N pops h) ≤ 2 ^ (1 + eN N (pop1 pops x) h) := fun a ha he => by
      have e1 := eN_more hN pops hk ha he
      have e2 : (2 : Nat) ^ (1 + eN N pops h + 1) ≤ 2 ^ (1 + eN N (pop1 pops x) h) := Nat.pow_le_pow_right (by decide) (by omega)
      rw [Nat.pow_succ] at e2
      omega
    by_cases hc : (S1.waits x).count h = 0
    · rw [hc] at a1
      by_cases h7 : kindN N x = 7
      · rw [if_pos ⟨h7, hk⟩] at a2
        by_cases hd : (S.waits ((partsN N x).getD 0 0)).count h = 0
        · rw [hd] at a2; omega
        · have hmem := List.count_pos_iff.1 (Nat.pos_of_ne_zero hd)
          have hlen := (hN.one x h7).1
          have hps : partsN N x = [(partsN N x).getD 0 0] := by
            match hp : partsN N x, hlen with
            | [p], _ => rfl
          have hain : 1 ≤ (partsN N x).getD 0 0 ∧ (partsN N x).getD 0 0 ≤ (N.length : Int) := by
            have := hN.low x hx.1 hx.2 _ (getD_mem (j := 0) (by rw [hlen]; decide)); omega
          have hle := cT_le (W := S.waits) hain h
          rcases c.c0.wp _ _ hmem with e | ⟨e, _⟩
          · have := more _ e (es_pub hN pops h7 hps)
            omega
          · omega
      · rw [if_neg (fun e => h7 e.1)] at a2
        omega
    · have hmem := List.count_pos_iff.1 (Nat.pos_of_ne_zero hc)
      have hle := cT_le (W := S1.waits) hx h
      rcases u1.wp _ _ hmem with e | ⟨e, _⟩
      · have hk2 := (hN.two h hk).2 x e
        rw [if_neg (fun e7 => by rw [hk2] at e7; exact absurd e7.1 (by decide))] at a2
        have := more x e (es_self N pops x)
        omega
      · omega
  · rw [wakeP_shut, hsum]
    show (up (rises S1 (S1.shut x)).shut x [] y).length ≤ _
    have := u3 y
    rw [rises_shut]
    unfold up
    split
    · exact Nat.zero_le _
    · exact this
/-- .. so all lists stay short, and one may be popped only so often. -/
theorem Cn.room {N : List Nd} (hN : Wf N) {S : MS} {pops : Int → Nat} (c : Cn N S pops) (hi : Inr N.length S) : Room S 1073741824 := by
  have hfew := hN.few
  have hp : ∀ y, pops y ≤ 2 := fun y => by have := c.c0.c1 y; omega
  have hs : sumN N.length pops ≤ 2 * N.length := sumN_le fun y _ _ => hp y
  have hE : ∀ h, eN N pops h ≤ 8 := fun h => by
    have h1 := hp ((partsN N h).getD 0 0)
    have h2 := hp ((partsN N h).getD 1 0)
    have h3 := hp (pubN N ((partsN N h).getD 0 0))
    have h4 := hp (pubN N ((partsN N h).getD 1 0))
    unfold eN es; omega
  refine ⟨fun y => by have := c.s1 y; omega, fun y => ?_, ?_⟩
  · by_cases hy : S.waits y = []
    · rw [hy]; exact Nat.zero_le _
    · obtain ⟨h0, hh0⟩ := List.exists_mem_of_ne_nil _ hy
      have hyin : 1 ≤ y ∧ y ≤ (N.length : Int) := by
        have hh := hi.waits y h0 hh0
        rcases c.c0.wp y h0 hh0 with e | ⟨_, rfl⟩
        · have := hN.low h0 hh.1 hh.2 y e; omega
        · exact hh
      have := few_k 512 N.length (S.waits y) (hi.waits y) fun h => by
        have h1 := cT_le (W := S.waits) hyin h
        by_cases hk : kindN N h = 8
        · have h2 := c.t8 h hk
          have h3 : (2 : Nat) ^ (1 + eN N pops h) ≤ 2 ^ 9 := Nat.pow_le_pow_right (by decide) (by have := hE h; omega)
          omega
        · have h2 := c.t1 h hk; omega
      omega
  · have := few_k 2 N.length S.news hi.news fun h => by have := c.c0.c1 h; omega
    omega
theorem Cn.pop {N : List Nd} {S : MS} {pops : Int → Nat} (c : Cn N S pops) (hi : Inr N.length S) {rest : List Int} {x : Int} (hnews : S.news = rest ++ [x]) : sumN N.length pops < 2 * N.length ∧ sumN N.length (pop1 pops x) = sumN N.length pops + 1 := by
  have hx : 1 ≤ x ∧ x ≤ (N.length : Int) := hi.news x (by rw [hnews]; simp)
  have hsum : sumN N.length (pop1 pops x) = sumN N.length pops + 1 := by
    have := sumN_up (f := pops) (pops x + 1) hx
    unfold pop1; omega
  refine ⟨?_, hsum⟩
  have : sumN N.length (pop1 pops x) ≤ 2 * N.length := sumN_le fun y _ _ => by
    have h3 := c.c0.c1 y
    unfold pop1
    by_cases e : y = x
    · subst e
      rw [hnews, List.count_append, List.count_singleton] at h3
      simp only [beq_self_eq_true, if_true] at h3
      rw [up_same]; omega
    · rw [up_other _ _ e]; omega
  omega
#print axioms spread_cn
#print axioms Cn.room
end Go.Proofs.Ytmplcibaoanlnaa
