/- A mind that is told misses nothing: a wake, what is opened, one spread; what that means when nothing more has risen. -/
import Derived.Test.YtmplcibaoanlnaaPkF
namespace Go.Proofs.Ytmplcibaoanlnaa
open Go Go.RowKit

theorem Inv.wakes {N : List Nd} (hN : Wf N) {S : MS} {P1 P2 P4 A : Int → Prop} (v : Inv N S P1 P2 P4 A) (l : List Int) : Inv N (l.foldl (wakeStep N) S) P1 P2 P4 (fun z => A z ∧ z ∉ l) := by
  induction l generalizing S A with
  | nil => exact v.weak (fun _ h => h) (fun _ h => h) (fun _ h => h) (fun _ h => ⟨h, by simp⟩)
  | cons x r ih =>
    have v1 : Inv N (wakeStep N S x) P1 P2 P4 (fun z => A z ∧ z ≠ x) := by
      unfold wakeStep
      split
      · rename_i hc
        refine ⟨v.i1, v.i2, v.i3, fun z hz => (v.i4 z hz).imp (fun h => ⟨h, fun e => ?_⟩) id⟩
        subst e
        unfold canP at hc
        simp at hc
        omega
      · exact v.ask hN x
    exact (ih v1).weak (fun _ h => h) (fun _ h => h) (fun _ h => h) (fun z ⟨⟨h1, h2⟩, h3⟩ => ⟨h1, by simp [h2, h3]⟩)
theorem Inv.wake {N : List Nd} (hN : Wf N) {S : MS} {P1 P2 P4 : Int → Prop} {y : Int} (v : Inv N S P1 P2 (fun z => P4 z ∨ z = y) No) : Inv N (wakeP N S y) P1 P2 P4 No := by
  have e : wakeP N S y = (S.waits y).foldl (wakeStep N) { S with waits := up S.waits y [] } := rfl
  have v0 : Inv N { S with waits := up S.waits y [] } P1 P2 P4 (fun z => z ∈ S.waits y) := by
    refine ⟨fun h hh => (v.i1 h hh).imp id (.imp id fun u => ⟨u.u3, u.u9, u.u7, u.u10⟩), v.i2, v.i3, fun x hx => ?_⟩
    by_cases hm : x ∈ S.waits y
    · exact .inl hm
    · right
      have keep : ∀ z, x ∈ S.waits z → z ≠ y ∧ x ∈ up S.waits y [] z := fun z hz => by
        have hne : z ≠ y := fun e => hm (e ▸ hz)
        exact ⟨hne, by rw [up_other _ _ hne]; exact hz⟩
      rcases v.i4 x hx with h | h | ⟨h1, h2, h3, h4⟩ | ⟨h1, h2, z, h3, h4, h5⟩
      · exact h.elim
      · exact .inl h
      · have a := keep _ h2
        have b := keep _ h3
        refine .inr (.inl ⟨h1, a.2, b.2, h4.imp id (.imp (.imp id ?_) (.imp id ?_))⟩)
        · exact fun h => h.elim id fun e => absurd e a.1
        · exact fun h => h.elim id fun e => absurd e b.1
      · have a := keep _ h4
        exact .inr (.inr ⟨h1, h2, z, h3, a.2, h5.imp id (.imp id fun h => h.elim id fun e => absurd e a.1)⟩)
  rw [e]
  exact (v0.wakes hN _).weak (fun _ h => h) (fun _ h => h) (fun _ h => h) (fun z h => h.2 h.1)
theorem Inv.mrises {N : List Nd} {S : MS} {P1 P2 P4 A : Int → Prop} (v : Inv N S P1 P2 P4 A) (l : List Int) : Inv N (rises S l) P1 P2 P4 A := by
  induction l generalizing S with
  | nil => exact v
  | cons x r ih => exact ih (v.rise x 3 (by decide))
theorem rises_st (S : MS) (hb : ∀ y, S.st y ≤ 3) (l : List Int) : (∀ y, S.st y ≤ (rises S l).st y) ∧ (∀ y, (rises S l).st y ≤ 3) ∧ ∀ y ∈ l, (rises S l).st y = 3 := by
  induction l generalizing S with
  | nil => exact ⟨fun y => Int.le_refl _, hb, fun y hy => by cases hy⟩
  | cons x r ih =>
    have h0 : ∀ y, (riseP S x 3).st y ≤ 3 := fun y => by
      unfold riseP
      split
      · show up S.st x 3 y ≤ 3
        by_cases e : y = x
        · rw [e, up_same]; decide
        · rw [up_other _ _ e]; exact hb y
      · exact hb y
    obtain ⟨h1, h2, h3⟩ := ih (riseP S x 3) h0
    refine ⟨fun y => Int.le_trans (rise_mono S x 3 y) (h1 y), h2, fun y hy => ?_⟩
    rcases List.mem_cons.1 hy with rfl | hy
    · have a : (riseP S y 3).st y = 3 := by
        have := hb y
        unfold riseP
        split
        · exact up_same _ _ _
        · omega
      have b := h1 y
      have c := h2 y
      show (rises (riseP S y 3) r).st y = 3
      omega
    · exact h3 y hy
theorem wakeStep_sh (N : List Nd) (S : MS) (x : Int) : (wakeStep N S x).sh = S.sh := by
  unfold wakeStep askP riseP
  split
  · rfl
  · split
    · split <;> rfl
    · exact (waitP_st _ _ _).2.1
theorem wakes_sh (N : List Nd) (S : MS) (l : List Int) : (l.foldl (wakeStep N) S).sh = S.sh := by
  induction l generalizing S with
  | nil => rfl
  | cons x r ih => exact (ih _).trans (wakeStep_sh N S x)
theorem Inv.opens {N : List Nd} (hN : Wf N) {S : MS} {P1 P2 P4 : Int → Prop} (v : Inv N S P1 P2 P4 No) {l : List Int} (hs : l.Pairwise (· < ·)) (hz : ∀ x ∈ l, S.st x = 0) (hd : ∀ x ∈ l, ∀ y ∈ partsN N x, (y ∈ l ∨ S.st y ≠ 0) ∧ y < x) (hnn : ∀ y, 0 ≤ S.st y) :
    Inv N (l.foldl (openStep N) S) P1 P2 P4 No ∧ (∀ y, S.st y ≤ (l.foldl (openStep N) S).st y) ∧ ∀ x ∈ l, 1 ≤ (l.foldl (openStep N) S).st x := by
  induction l generalizing S with
  | nil => exact ⟨v, fun y => Int.le_refl _, fun x hx => by cases hx⟩
  | cons x r ih =>
    obtain ⟨s1, s2⟩ := List.pairwise_cons.1 hs
    have hx0 := hz x (by simp)
    have v0 : Inv N { S with st := up S.st x 1 } P1 P2 P4 (fun z => z = x) := by
      have k3 : ∀ y, S.st y = 3 → up S.st x 1 y = 3 := fun y hy => by rw [up_other _ _ (fun e => by rw [e] at hy; omega)]; exact hy
      have k1 : ∀ y, 1 ≤ S.st y → 1 ≤ up S.st x 1 y := fun y hy => by rw [up_other _ _ (fun e => by rw [e] at hy; omega)]; exact hy
      have kb : ∀ y k, k ≠ 1 → k ≠ 0 → up S.st x 1 y = k → S.st y = k := fun y k h1 h0 hy => by
        by_cases e : y = x
        · subst e; rw [up_same] at hy; exact absurd hy.symm h1
        · rw [up_other _ _ e] at hy; exact hy
      have ag : ∀ a b, agrP { S with st := up S.st x 1 } a b = agrP S a b := fun a b => by
        have key : ∀ a, decide (up S.st x 1 a = 3) = decide (S.st a = 3) := fun a => by
          by_cases e : a = x
          · subst e; rw [up_same, hx0]; rfl
          · rw [up_other _ _ e]
        unfold agrP
        simp only [key]
      refine ⟨fun h hh => ?_, fun k hk => ?_, fun z hz' hk y hy => ?_, fun z hz' => ?_⟩
      · exact (v.i1 h (kb h 3 (by decide) (by decide) hh)).imp id (.imp id fun u => ⟨fun a y hy => k3 y (u.u3 a y hy), fun a => k3 _ (u.u9 a), u.u7, fun a => (u.u10 a).imp (k3 _) fun ⟨b, c⟩ => ⟨b, k1 _ c⟩⟩)
      · refine v.i2 k ?_
        have hk' : 2 ≤ up S.st x 1 k := hk
        by_cases e : k = x
        · subst e; rw [up_same] at hk'; omega
        · rw [up_other _ _ e] at hk'; exact hk'
      · have hz2 : up S.st x 1 z = 1 := hz'
        show 1 ≤ up S.st x 1 y
        by_cases e : z = x
        · subst e
          have h1 := hd z (by simp) y hy
          rcases h1.1 with h2 | h2
          · rcases List.mem_cons.1 h2 with rfl | h2
            · omega
            · have := s1 y h2; omega
          · have := hnn y
            exact k1 y (by omega)
        · rw [up_other _ _ e] at hz2
          exact k1 y (v.i3 z hz2 hk y hy)
      · have hz2 : up S.st x 1 z = 1 := hz'
        by_cases e : z = x
        · exact .inl e
        · rw [up_other _ _ e] at hz2
          right
          rcases v.i4 z hz2 with h | h
          · exact h.elim
          · unfold Rs at h ⊢
            rw [ag, ag]
            refine h.imp id (.imp id fun ⟨a, b, y, c, d, f⟩ => ⟨a, b, y, c, d, f.imp (fun h => ?_) id⟩)
            show up S.st x 1 y < 2
            by_cases ey : y = x
            · rw [ey, up_same]; decide
            · rw [up_other _ _ ey]; exact h
    have v1 : Inv N (openStep N S x) P1 P2 P4 No := (v0.ask hN x).weak (fun _ h => h) (fun _ h => h) (fun _ h => h) (fun z h => h.2 h.1)
    have hst := fun y => ask_st { S with st := up S.st x 1 } x (kindN N x) (partsN N x) y
    have hmono : ∀ y, S.st y ≤ (openStep N S x).st y := fun y => by
      refine Int.le_trans ?_ (hst y).1
      show S.st y ≤ up S.st x 1 y
      by_cases e : y = x
      · rw [e, up_same, hx0]; decide
      · rw [up_other _ _ e]; exact Int.le_refl _
    have hx1 : 1 ≤ (openStep N S x).st x := by
      have := (hst x).1
      simp only [up_same] at this
      exact this
    have hsame : ∀ y, y ≠ x → (openStep N S x).st y = S.st y := fun y hy => by
      have := (hst y).2 hy
      simp only [up_other _ _ hy] at this
      exact this
    obtain ⟨i1, i2, i3⟩ := ih v1 s2 (fun z hz' => by rw [hsame z (fun e => by have := s1 z hz'; omega)]; exact hz z (by simp [hz'])) (fun z hz' y hy => ⟨by
      rcases (hd z (by simp [hz']) y hy).1 with h | h
      · rcases List.mem_cons.1 h with rfl | h
        · right; omega
        · exact .inl h
      · right
        have := hmono y
        have := hnn y
        omega, (hd z (by simp [hz']) y hy).2⟩) (fun y => Int.le_trans (hnn y) (hmono y))
    refine ⟨i1, fun y => Int.le_trans (hmono y) (i2 y), fun z hz' => ?_⟩
    rcases List.mem_cons.1 hz' with rfl | hz'
    · exact Int.le_trans hx1 (i2 z)
    · exact i3 z hz'
theorem Inv.unfold {N : List Nd} (hN : Wf N) {S S1 : MS} {P1 P2 P4 : Int → Prop} {x : Int} (v : Inv N S (fun z => P1 z ∨ z = x) P2 P4 No) (hi : Inr N.length S) (hx : 1 ≤ x ∧ x ≤ (N.length : Int)) (hu : unfoldR N S x S1) : Inv N S1 P1 P2 P4 No := by
  have drop : ∀ {S2 : MS}, Inv N S2 (fun z => P1 z ∨ z = x) P2 P4 No → Uf N S2 x → Inv N S2 P1 P2 P4 No := fun v u => ⟨fun h hh => by
    rcases v.i1 h hh with h1 | (h1 | h1) | h1
    · exact .inl h1
    · exact .inr (.inl h1)
    · exact .inr (.inr (h1 ▸ u))
    · exact .inr (.inr h1), v.i2, v.i3, v.i4⟩
  have hb : ∀ y, S.st y ≤ 3 := fun y => (hi.stb y).2
  have hlow := hN.low x hx.1 hx.2
  unfold unfoldR at hu
  split at hu
  · rename_i k3
    subst hu
    exact drop (v.mrises _) ⟨fun _ y hy => (rises_st S hb _).2.2 y hy, fun k => by omega, fun k => by omega, fun k => by omega⟩
  · split at hu
    · rename_i k3 k7
      subst hu
      generalize hya : (partsN N x).getD 0 0 = a at *
      have v1 : Inv N { S with sh := up S.sh a true } (fun z => P1 z ∨ z = x) P2 (fun z => P4 z ∨ z = a) No := by
        have ag : ∀ p q, agrP S p q = false → agrP { S with sh := up S.sh a true } p q = false ∨ q = a := fun p q h => by
          by_cases e : q = a
          · exact .inr e
          · left
            unfold agrP at h ⊢
            simp only [up_other _ _ e]
            exact h
        refine ⟨fun h hh => (v.i1 h hh).imp id (.imp id fun u => ⟨u.u3, u.u9, fun k => ?_, u.u10⟩), v.i2, v.i3, fun z hz => ?_⟩
        · show up S.sh a true _ = true
          by_cases e : (partsN N h).getD 0 0 = a
          · rw [e, up_same]
          · rw [up_other _ _ e]; exact u.u7 k
        · rcases v.i4 z hz with h | h | ⟨h1, h2, h3, h4⟩ | ⟨h1, h2, y, h3, h4, h5⟩
          · exact h.elim
          · exact .inr (.inl h)
          · refine .inr (.inr (.inl ⟨h1, h2, h3, ?_⟩))
            rcases h4 with ⟨h4, h5⟩ | h4 | h4
            · rcases ag _ _ h4 with e | e
              · rcases ag _ _ h5 with e2 | e2
                · exact .inl ⟨e, e2⟩
                · exact .inr (.inl (.inr (.inr e2)))
              · exact .inr (.inr (.inr (.inr e)))
            · exact .inr (.inl (h4.imp id .inl))
            · exact .inr (.inr (h4.imp id .inl))
          · exact .inr (.inr (.inr ⟨h1, h2, y, h3, h4, h5.imp id (.imp id .inl)⟩))
      refine drop (v1.wake hN) ⟨fun k => by omega, fun k => by omega, fun _ => ?_, fun k => by omega⟩
      have : (wakeP N { S with sh := up S.sh a true } a).sh = up S.sh a true := wakes_sh N _ _
      rw [this, hya, up_same]
    · split at hu
      · rename_i k3 k7 k9
        subst hu
        refine drop (v.rise _ 3 (by decide)) ⟨fun k => by omega, fun _ => ?_, fun k => by omega, fun k => by omega⟩
        exact (rises_st S hb [(partsN N x).getD 1 0]).2.2 _ (by simp)
      · split at hu
        · rename_i k3 k7 k9 k10
          obtain ⟨l, hl, rfl⟩ := hu
          have hlen := hN.sea x k10
          have hkm : (partsN N x).getD 0 0 ∈ partsN N x := getD_mem (by omega)
          have hkin := hlow _ hkm
          obtain ⟨o1, o2, o3⟩ := v.opens hN hl.sorted (fun z hz => (hl.inn z hz).2.2) (fun z hz y hy => by
            have hzi := hl.inn z hz
            have := hN.low z hzi.1 hzi.2.1 y hy
            exact ⟨hl.down z hz y hy this.1 (by omega), this.2⟩) (fun y => (hi.stb y).1)
          have hk1 : 1 ≤ (l.foldl (openStep N) S).st ((partsN N x).getD 0 0) := by
            rcases hl.top hkin.1 (by omega) with e | e
            · exact o3 _ e
            · have h1 := o2 ((partsN N x).getD 0 0)
              have h2 := (hi.stb ((partsN N x).getD 0 0)).1
              omega
          have hio := opens_inr l S hi fun z hz => ⟨(hl.inn z hz).1, (hl.inn z hz).2.1⟩
          unfold openP
          split
          · refine drop (o1.rise _ 3 (by decide)) ⟨fun k => by omega, fun k => by omega, fun k => by omega, fun _ => .inl ?_⟩
            exact (rises_st _ (fun y => (hio.stb y).2) [(partsN N x).getD 2 0]).2.2 _ (by simp)
          · rename_i hc
            have hlt : (l.foldl (openStep N) S).st ((partsN N x).getD 0 0) < 2 := by
              unfold canP at hc
              simpa using hc
            generalize hSo : l.foldl (openStep N) S = So at *
            generalize hka : (partsN N x).getD 0 0 = k at *
            generalize hca : (partsN N x).getD 2 0 = u at *
            have q1 : ∀ j z, z ∈ So.shut j → z ∈ up So.shut k (So.shut k ++ [u]) j := fun j z hz => by
              by_cases e : j = k
              · rw [e, up_same]; rw [e] at hz; simp [hz]
              · rw [up_other _ _ e]; exact hz
            have q2 : ∀ j, 2 ≤ So.st j → j ∈ So.news ∨ P2 j ∨ up So.shut k (So.shut k ++ [u]) j = [] := fun j hj => by
              have hne : j ≠ k := fun e => by rw [e] at hj; omega
              rw [up_other _ _ hne]; exact o1.i2 j hj
            have q3 : u ∈ up So.shut k (So.shut k ++ [u]) k := by rw [up_same]; simp
            refine drop (S2 := { So with shut := up So.shut k (So.shut k ++ [u]) }) ⟨fun h hh => (o1.i1 h hh).imp id (.imp id fun w => ⟨w.u3, w.u9, w.u7, fun a => (w.u10 a).imp id fun ⟨b, c⟩ => ⟨q1 _ _ b, c⟩⟩), q2, o1.i3, o1.i4⟩ ⟨fun a => by omega, fun a => by omega, fun a => by omega, fun _ => .inr ?_⟩
            rw [hka, hca]
            exact ⟨q3, hk1⟩
        · rename_i k3 k7 k9 k10
          subst hu
          exact drop v ⟨fun k => absurd k k3, fun k => absurd k k9, fun k => absurd k k7, fun k => absurd k k10⟩
theorem unfold_inr {N : List Nd} (hN : Wf N) {S S1 : MS} (hi : Inr N.length S) {x : Int} (hx : 1 ≤ x ∧ x ≤ (N.length : Int)) (hu : unfoldR N S x S1) : Inr N.length S1 := by
  have hlow := hN.low x hx.1 hx.2
  have hin : ∀ y ∈ partsN N x, 1 ≤ y ∧ y ≤ (N.length : Int) := fun y hy => by have := hlow y hy; omega
  unfold unfoldR at hu
  split at hu
  · subst hu; exact hi.rises hin
  · split at hu
    · rename_i k7
      subst hu
      have hy : 1 ≤ (partsN N x).getD 0 0 ∧ (partsN N x).getD 0 0 ≤ (N.length : Int) := hin _ (getD_mem (by rw [(hN.one x k7).1]; decide))
      have hi1 : Inr N.length { S with sh := up S.sh ((partsN N x).getD 0 0) true } := ⟨hi.st0, hi.stb, fun z hz => by
        by_cases e : z = (partsN N x).getD 0 0
        · rw [e]; exact hy
        · have hz' : up S.sh ((partsN N x).getD 0 0) true z = true := hz
          rw [up_other _ _ e] at hz'
          exact hi.sh0 z hz', hi.shut, hi.waits, hi.news⟩
      exact (hi1.clear1 _).steps (fun z hz => hi.waits _ z hz)
    · split at hu
      · rename_i k9
        subst hu
        exact hi.rise (hin _ (getD_mem (by rw [hN.sig x k9]; decide))) (by decide)
      · split at hu
        · rename_i k10
          obtain ⟨l, hl, rfl⟩ := hu
          have hlen := hN.sea x k10
          have hio := opens_inr l S hi fun z hz => ⟨(hl.inn z hz).1, (hl.inn z hz).2.1⟩
          unfold openP
          split
          · exact hio.rise (hin _ (getD_mem (by omega))) (by decide)
          · exact hio.more0 (hin _ (getD_mem (by omega))) _
        · subst hu; exact hi
theorem Inv.spread {N : List Nd} (hN : Wf N) {S S' : MS} {rest : List Int} {x : Int} (v : Inv N S No No No No) (hi : Inr N.length S) (hnews : S.news = rest ++ [x]) (hs : spreadR N { S with news := rest } x S') : Inv N S' No No No No := by
  have hx : 1 ≤ x ∧ x ≤ (N.length : Int) := hi.news x (by rw [hnews]; simp)
  have hi0 : Inr N.length { S with news := rest } := ⟨hi.st0, hi.stb, hi.sh0, hi.shut, hi.waits, fun y hy => hi.news y (by rw [hnews]; simp [hy])⟩
  have v0 : Inv N { S with news := rest } (fun z => No z ∨ z = x) (fun z => z = x) (fun z => No z ∨ z = x) No := by
    have cv : ∀ z, z ∈ S.news → z ∈ rest ∨ z = x := fun z hz => by rw [hnews] at hz; simpa using hz
    refine ⟨fun h hh => ?_, fun k hk => ?_, v.i3, fun z hz => ?_⟩
    · rcases v.i1 h hh with h1 | h1 | h1
      · exact (cv h h1).imp id fun e => .inl (.inr e)
      · exact h1.elim
      · exact .inr (.inr ⟨h1.u3, h1.u9, h1.u7, h1.u10⟩)
    · rcases v.i2 k hk with h1 | h1 | h1
      · exact (cv k h1).imp id fun e => .inl e
      · exact h1.elim
      · exact .inr (.inr h1)
    · rcases v.i4 z hz with h | h | ⟨h1, h2, h3, h4⟩ | ⟨h1, h2, y, h3, h4, h5⟩
      · exact h.elim
      · exact .inr (.inl h)
      · refine .inr (.inr (.inl ⟨h1, h2, h3, h4.imp id (.imp ?_ ?_)⟩))
        · exact fun h => h.elim (fun h => (cv _ h).imp id .inr) fun h => h.elim
        · exact fun h => h.elim (fun h => (cv _ h).imp id .inr) fun h => h.elim
      · refine .inr (.inr (.inr ⟨h1, h2, y, h3, h4, h5.imp id fun h => ?_⟩))
        exact h.elim (fun h => (cv _ h).imp id .inr) fun h => h.elim
  obtain ⟨S1, a1, a2, rfl⟩ := hs
  have hS1 : Inv N S1 No (fun z => z = x) (fun z => No z ∨ z = x) No ∧ Inr N.length S1 := by
    by_cases e : S.st x = 3
    · exact ⟨v0.unfold hN hi0 hx (a1 e), unfold_inr hN hi0 hx (a1 e)⟩
    · rw [a2 e]
      refine ⟨⟨fun h hh => ?_, v0.i2, v0.i3, v0.i4⟩, hi0⟩
      rcases v0.i1 h hh with h1 | (h1 | h1) | h1
      · exact .inl h1
      · exact h1.elim
      · rw [h1] at hh; exact absurd hh e
      · exact .inr (.inr h1)
  obtain ⟨v1, i1⟩ := hS1
  have v2 := v1.mrises (S1.shut x)
  have hr := rises_st S1 (fun y => (i1.stb y).2) (S1.shut x)
  have hsh : (rises S1 (S1.shut x)).shut = S1.shut := rises_shut S1 _
  have v3 : Inv N { rises S1 (S1.shut x) with shut := up (rises S1 (S1.shut x)).shut x [] } No No (fun z => No z ∨ z = x) No := by
    refine ⟨fun h hh => (v2.i1 h hh).imp id (.imp id fun u => ⟨u.u3, u.u9, u.u7, fun a => ?_⟩), fun k hk => ?_, v2.i3, v2.i4⟩
    · rcases u.u10 a with b | ⟨b, c⟩
      · exact .inl b
      · by_cases e : (partsN N h).getD 0 0 = x
        · left
          rw [hsh, e] at b
          exact hr.2.2 _ b
        · right
          refine ⟨?_, c⟩
          show _ ∈ up (rises S1 (S1.shut x)).shut x [] _
          rw [up_other _ _ e]; exact b
    · show k ∈ (rises S1 (S1.shut x)).news ∨ No k ∨ up (rises S1 (S1.shut x)).shut x [] k = []
      by_cases e : k = x
      · rw [e, up_same]; exact .inr (.inr rfl)
      · rw [up_other _ _ e]
        exact (v2.i2 k hk).imp id (.imp (fun h => absurd h e) id)
  exact v3.wake hN
#print axioms Inv.spread
end Go.Proofs.Ytmplcibaoanlnaa
