/- A mind that is told misses nothing: what holds of it, step by step. -/
import Derived.Test.YtmplcibaoanlnaaPkE
namespace Go.Proofs.Ytmplcibaoanlnaa
open Go Go.RowKit

def No : Int → Prop := fun _ => False
/-- What is unfolded of a term. -/
structure Uf (N : List Nd) (S : MS) (h : Int) : Prop where
  u3 : kindN N h = 3 → ∀ x ∈ partsN N h, S.st x = 3
  u9 : kindN N h = 9 → S.st ((partsN N h).getD 1 0) = 3
  u7 : kindN N h = 7 → S.sh ((partsN N h).getD 0 0) = true
  u10 : kindN N h = 10 → S.st ((partsN N h).getD 2 0) = 3 ∨ ((partsN N h).getD 2 0 ∈ S.shut ((partsN N h).getD 0 0) ∧ 1 ≤ S.st ((partsN N h).getD 0 0))
/-- Why a term lacks. -/
def Rs (N : List Nd) (S : MS) (P4 : Int → Prop) (x : Int) : Prop :=
  kindN N x = 2 ∨
  (kindN N x = 8 ∧ x ∈ S.waits ((partsN N x).getD 0 0) ∧ x ∈ S.waits ((partsN N x).getD 1 0) ∧ ((agrP S ((partsN N x).getD 0 0) ((partsN N x).getD 1 0) = false ∧ agrP S ((partsN N x).getD 1 0) ((partsN N x).getD 0 0) = false) ∨ ((partsN N x).getD 0 0 ∈ S.news ∨ P4 ((partsN N x).getD 0 0)) ∨ ((partsN N x).getD 1 0 ∈ S.news ∨ P4 ((partsN N x).getD 1 0)))) ∨
  (kindN N x ≠ 2 ∧ kindN N x ≠ 8 ∧ ∃ y ∈ partsN N x, x ∈ S.waits y ∧ (S.st y < 2 ∨ y ∈ S.news ∨ P4 y))
structure Inv (N : List Nd) (S : MS) (P1 P2 P4 A : Int → Prop) : Prop where
  i1 : ∀ h, S.st h = 3 → h ∈ S.news ∨ P1 h ∨ Uf N S h
  i2 : ∀ k, 2 ≤ S.st k → k ∈ S.news ∨ P2 k ∨ S.shut k = []
  i3 : ∀ x, S.st x = 1 → kindN N x ≠ 8 → ∀ y ∈ partsN N x, 1 ≤ S.st y
  i4 : ∀ x, S.st x = 1 → A x ∨ Rs N S P4 x
theorem rise_mono (S : MS) (x to y : Int) : S.st y ≤ (riseP S x to).st y := by
  unfold riseP
  split
  · rename_i h
    show S.st y ≤ up S.st x to y
    by_cases e : y = x
    · subst e; rw [up_same]; omega
    · rw [up_other _ _ e]; omega
  · exact Int.le_refl _
theorem Inv.rise {N : List Nd} {S : MS} {P1 P2 P4 A : Int → Prop} (v : Inv N S P1 P2 P4 A) (x to : Int) (ht : 2 ≤ to ∧ to ≤ 3) : Inv N (riseP S x to) P1 P2 P4 A := by
  unfold riseP
  split
  · rename_i hlt
    have k3 : ∀ y, S.st y = 3 → up S.st x to y = 3 := fun y hy => by
      by_cases e : y = x
      · subst e; omega
      · rw [up_other _ _ e]; exact hy
    have k1 : ∀ y, 1 ≤ S.st y → 1 ≤ up S.st x to y := fun y hy => by
      by_cases e : y = x
      · subst e; rw [up_same]; omega
      · rw [up_other _ _ e]; exact hy
    have kn : ∀ y, y ∈ S.news → y ∈ S.news ++ [x] := fun y hy => by simp [hy]
    have ka : ∀ a b, agrP S a b = false → agrP { S with st := up S.st x to, news := S.news ++ [x] } a b = false ∨ a = x ∨ b = x := fun a b h => by
      by_cases ea : a = x
      · exact .inr (.inl ea)
      · by_cases eb : b = x
        · exact .inr (.inr eb)
        · left
          unfold agrP at h ⊢
          simp only [up_other _ _ ea, up_other _ _ eb]
          exact h
    refine ⟨fun h hh => ?_, fun k hk => ?_, fun z hz hk y hy => ?_, fun z hz => ?_⟩
    · by_cases e : h = x
      · exact .inl (by simp [e])
      · have hh' : up S.st x to h = 3 := hh
        rw [up_other _ _ e] at hh'
        rcases v.i1 h hh' with h1 | h1 | h1
        · exact .inl (kn _ h1)
        · exact .inr (.inl h1)
        · exact .inr (.inr ⟨fun a y hy => k3 y (h1.u3 a y hy), fun a => k3 _ (h1.u9 a), h1.u7, fun a => (h1.u10 a).imp (k3 _) fun ⟨b, c⟩ => ⟨b, k1 _ c⟩⟩)
    · by_cases e : k = x
      · exact .inl (by simp [e])
      · have hk' : 2 ≤ up S.st x to k := hk
        rw [up_other _ _ e] at hk'
        rcases v.i2 k hk' with h1 | h1 | h1
        · exact .inl (kn _ h1)
        · exact .inr (.inl h1)
        · exact .inr (.inr h1)
    · have hz' : up S.st x to z = 1 := hz
      by_cases e : z = x
      · subst e; rw [up_same] at hz'; omega
      · rw [up_other _ _ e] at hz'
        exact k1 y (v.i3 z hz' hk y hy)
    · have hz' : up S.st x to z = 1 := hz
      by_cases e : z = x
      · subst e; rw [up_same] at hz'; omega
      · rw [up_other _ _ e] at hz'
        rcases v.i4 z hz' with h1 | h1 | ⟨h1, h2, h3, h4⟩ | ⟨h1, h2, y, h3, h4, h5⟩
        · exact .inl h1
        · exact .inr (.inl h1)
        · refine .inr (.inr (.inl ⟨h1, h2, h3, ?_⟩))
          rcases h4 with ⟨h4, h5⟩ | h4 | h4
          · rcases ka _ _ h4 with e1 | e1 | e1
            · rcases ka _ _ h5 with e2 | e2 | e2
              · exact .inl ⟨e1, e2⟩
              · exact .inr (.inr (.inl (by rw [e2]; simp)))
              · exact .inr (.inl (.inl (by rw [e2]; simp)))
            · exact .inr (.inl (.inl (by rw [e1]; simp)))
            · exact .inr (.inr (.inl (by rw [e1]; simp)))
          · exact .inr (.inl (h4.imp (kn _) id))
          · exact .inr (.inr (h4.imp (kn _) id))
        · refine .inr (.inr (.inr ⟨h1, h2, y, h3, h4, ?_⟩))
          rcases h5 with h5 | h5 | h5
          · by_cases ey : y = x
            · exact .inr (.inl (by simp [ey]))
            · left
              show up S.st x to y < 2
              rw [up_other _ _ ey]; exact h5
          · exact .inr (.inl (kn _ h5))
          · exact .inr (.inr h5)
  · exact v
theorem Inv.weak {N : List Nd} {S : MS} {P1 P2 P4 A P1' P2' P4' A' : Int → Prop} (v : Inv N S P1 P2 P4 A) (h1 : ∀ x, P1 x → P1' x) (h2 : ∀ x, P2 x → P2' x) (h4 : ∀ x, P4 x → P4' x) (hA : ∀ x, A x → A' x) : Inv N S P1' P2' P4' A' :=
  ⟨fun h hh => (v.i1 h hh).imp id (.imp (h1 h) id), fun k hk => (v.i2 k hk).imp id (.imp (h2 k) id), v.i3, fun x hx => (v.i4 x hx).imp (hA x) fun r => r.imp id (.imp (fun ⟨a, b, c, d⟩ => ⟨a, b, c, d.imp id (.imp (.imp id (h4 _)) (.imp id (h4 _)))⟩) fun ⟨a, b, y, c, d, e⟩ => ⟨a, b, y, c, d, e.imp id (.imp id (h4 y))⟩)⟩
theorem wait_mono (S : MS) (x : Int) (l : List Int) : (∀ y h, h ∈ S.waits y → h ∈ (waitP S x l).waits y) ∧ ∀ y ∈ l, x ∈ (waitP S x l).waits y := by
  induction l generalizing S with
  | nil => exact ⟨fun y h hh => hh, fun y hy => by cases hy⟩
  | cons z r ih =>
    obtain ⟨h1, h2⟩ := ih { S with waits := up S.waits z (S.waits z ++ [x]) }
    have h3 : ∀ y h, h ∈ S.waits y → h ∈ up S.waits z (S.waits z ++ [x]) y := fun y h hh => by
      by_cases e : y = z
      · subst e; rw [up_same]; simp [hh]
      · rw [up_other _ _ e]; exact hh
    refine ⟨fun y h hh => h1 y h (h3 y h hh), fun y hy => ?_⟩
    rcases List.mem_cons.1 hy with rfl | hy
    · exact h1 y x (by show x ∈ up S.waits y (S.waits y ++ [x]) y; rw [up_same]; simp)
    · exact h2 y hy
/-- One is asked: it is excused no more. -/
theorem Inv.ask {N : List Nd} (hN : Wf N) {S : MS} {P1 P2 P4 A : Int → Prop} (v : Inv N S P1 P2 P4 A) (x : Int) : Inv N (askP S x (kindN N x) (partsN N x)) P1 P2 P4 (fun z => A z ∧ z ≠ x) := by
  by_cases hL : lackP S (canP S) x (kindN N x) (partsN N x) = []
  · have e : askP S x (kindN N x) (partsN N x) = riseP S x 2 := by unfold askP; rw [if_pos hL]
    rw [e]
    have v1 := v.rise x 2 (by decide)
    refine ⟨v1.i1, v1.i2, v1.i3, fun z hz => ?_⟩
    have hne : z ≠ x := fun e => by
      subst e
      unfold riseP at hz
      split at hz
      · simp only [up_same] at hz; omega
      · omega
    exact (v1.i4 z hz).imp (fun h => ⟨h, hne⟩) id
  · have e : askP S x (kindN N x) (partsN N x) = waitP S x (lackP S (canP S) x (kindN N x) (partsN N x)) := by unfold askP; rw [if_neg hL]
    rw [e]
    obtain ⟨w1, w2, w3, w4⟩ := waitP_st S x (lackP S (canP S) x (kindN N x) (partsN N x))
    obtain ⟨m1, m2⟩ := wait_mono S x (lackP S (canP S) x (kindN N x) (partsN N x))
    have ag : ∀ a b, agrP (waitP S x (lackP S (canP S) x (kindN N x) (partsN N x))) a b = agrP S a b := fun a b => by unfold agrP; rw [w1, w2]
    refine ⟨fun h hh => ?_, fun k hk => ?_, fun z hz hk y hy => ?_, fun z hz => ?_⟩
    · rw [w1] at hh
      rw [w4]
      refine (v.i1 h hh).imp id (.imp id fun u => ⟨?_, ?_, ?_, ?_⟩)
      · rw [w1]; exact u.u3
      · rw [w1]; exact u.u9
      · rw [w2]; exact u.u7
      · rw [w1, w3]; exact u.u10
    · rw [w1] at hk
      rw [w4, w3]
      exact v.i2 k hk
    · rw [w1] at hz ⊢
      exact v.i3 z hz hk y hy
    · rw [w1] at hz
      have old : ∀ z, Rs N S P4 z → Rs N (waitP S x (lackP S (canP S) x (kindN N x) (partsN N x))) P4 z := fun z r => by
        unfold Rs
        rw [ag, ag, w4, w1]
        exact r.imp id (.imp (fun ⟨a, b, c, d⟩ => ⟨a, m1 _ _ b, m1 _ _ c, d⟩) fun ⟨a, b, y, c, d, e⟩ => ⟨a, b, y, c, m1 _ _ d, e⟩)
      by_cases ez : z = x
      · right
        subst ez
        unfold Rs
        rw [ag, ag, w4, w1]
        by_cases k2 : kindN N z = 2
        · exact .inl k2
        · by_cases k8 : kindN N z = 8
          · refine .inr (.inl ⟨k8, ?_⟩)
            have hlen := (hN.two z k8).1
            unfold lackP at hL m2 ⊢
            rw [if_neg k2, if_pos k8] at hL m2 ⊢
            split at hL
            · exact absurd rfl hL
            · rename_i hag
              rw [if_neg hag] at m2 ⊢
              refine ⟨m2 _ (getD_mem (by rw [hlen]; decide)), m2 _ (getD_mem (by rw [hlen]; decide)), .inl ?_⟩
              simp only [Bool.or_eq_true, not_or, Bool.not_eq_true] at hag
              exact hag
          · refine .inr (.inr ⟨k2, k8, ?_⟩)
            unfold lackP at hL m2 ⊢
            rw [if_neg k2, if_neg k8] at hL m2 ⊢
            cases hf : (partsN N z).find? (fun y => !canP S y) with
            | none => rw [hf] at hL; exact absurd rfl hL
            | some y =>
              rw [hf] at m2
              refine ⟨y, List.mem_of_find?_eq_some hf, m2 y (by simp [oneL]), .inl ?_⟩
              have := List.find?_some hf
              unfold canP at this
              simp at this
              exact this
      · exact (v.i4 z hz).imp (fun h => ⟨h, ez⟩) (old z)
#print axioms Inv.ask
end Go.Proofs.Ytmplcibaoanlnaa
