/- What a mind that has been told tells: just what follows, and just what can be made. -/
import Derived.Test.YtmplcibaoanlnaaPkG
namespace Go.Proofs.Ytmplcibaoanlnaa
open Go Go.RowKit

def ownStep (N : List Nd) (S : MS) (own : Int → Bool) (x : Int) : Int → Bool := if lackP S (fun y => own y || canP S y) x (kindN N x) (partsN N x) = [] then up own x true else own
def ownF (N : List Nd) (S : MS) (l : List Int) : Int → Bool := l.foldl (ownStep N S) (fun _ => false)
theorem own_other (N : List Nd) (S : MS) (l : List Int) (own : Int → Bool) (y : Int) (h : y ∉ l) : l.foldl (ownStep N S) own y = own y := by
  induction l generalizing own with
  | nil => rfl
  | cons x r ih =>
    have hne : y ≠ x := fun e => h (by simp [e])
    refine (ih (ownStep N S own x) (fun e => h (by simp [e]))).trans ?_
    unfold ownStep
    split
    · exact up_other _ _ hne
    · rfl
theorem own_sub {N : List Nd} {S : MS} {l : List Int} {y : Int} (h : ownF N S l y = true) : y ∈ l := by
  refine Classical.byContradiction fun hn => ?_
  have := own_other N S l (fun _ => false) y hn
  unfold ownF at h
  rw [h] at this
  cases this
theorem own_snd {N : List Nd} (hN : Wf N) {Bs : Int → Prop} {S : MS} (s : Snd N Bs S) (l : List Int) (hl : ∀ x ∈ l, 1 ≤ x ∧ x ≤ (N.length : Int)) : ∀ y, ownF N S l y = true → Der N Bs false y := by
  have key : ∀ (l : List Int) (own : Int → Bool), (∀ x ∈ l, 1 ≤ x ∧ x ≤ (N.length : Int)) → (∀ y, own y = true → Der N Bs false y) → ∀ y, l.foldl (ownStep N S) own y = true → Der N Bs false y := by
    intro l
    induction l with
    | nil => intro own _ h; exact h
    | cons x r ih =>
      intro own hl h
      refine ih (ownStep N S own x) (fun z hz => hl z (by simp [hz])) fun y hy => ?_
      unfold ownStep at hy
      split at hy
      · rename_i hL
        by_cases e : y = x
        · subst e
          refine lack_der hN s (hl y (by simp)) (fun z hz => ?_) hL
          rcases Bool.or_eq_true_iff.1 hz with hz | hz
          · exact h z hz
          · exact s.s2 z (by unfold canP at hz; simpa using hz)
        · rw [up_other _ _ e] at hy; exact h y hy
      · exact h y hy
  exact key l _ hl (fun y hy => by cases hy)
theorem der_in {N : List Nd} (hN : Wf N) {Bs : Int → Prop} {b : Bool} {x : Int} (h : Der N Bs b x) : 1 ≤ x ∧ x ≤ (N.length : Int) := by
  have part : ∀ {h y : Int}, 1 ≤ h ∧ h ≤ (N.length : Int) → y ∈ partsN N h → 1 ≤ y ∧ y ≤ (N.length : Int) := fun hh hy => by have := hN.low _ hh.1 hh.2 _ hy; omega
  induction h with
  | base _ h1 h2 => exact ⟨h1, h2⟩
  | row _ _ hx ih => exact part ih hx
  | signed _ k ih => exact part ih (getD_mem (by rw [hN.sig _ k]; decide))
  | sealed _ k _ ih _ => exact part ih (getD_mem (by rw [hN.sea _ k]; decide))
  | fo _ ih => exact ih
  | made h1 h2 _ _ _ _ => exact ⟨h1, h2⟩
  | both k _ _ _ _ => exact kind_in (by rw [k]; decide)
  | left k _ _ _ _ _ _ => exact kind_in (by rw [k]; decide)
  | right k _ _ _ _ _ _ => exact kind_in (by rw [k]; decide)
/-- The mind S, at rest, told the terms Bs. -/
structure Mi (N : List Nd) (Bs : Int → Prop) (S : MS) (pops : Int → Nat) : Prop where
  news : S.news = []
  inr : Inr N.length S
  cn : Cn N S pops
  inv : Inv N S No No No No
  snd : Snd N Bs S
  told : ∀ h, Bs h → 1 ≤ h → h ≤ (N.length : Int) → S.st h = 3
theorem Mi.uf {N : List Nd} {Bs : Int → Prop} {S : MS} {pops : Int → Nat} (m : Mi N Bs S pops) {h : Int} (h3 : S.st h = 3) : Uf N S h := by
  rcases m.inv.i1 h h3 with e | e | e
  · rw [m.news] at e; cases e
  · exact e.elim
  · exact e
theorem Mi.rs {N : List Nd} {Bs : Int → Prop} {S : MS} {pops : Int → Nat} (m : Mi N Bs S pops) {x : Int} (h1 : S.st x = 1) : kindN N x = 2 ∨
    (kindN N x = 8 ∧ agrP S ((partsN N x).getD 0 0) ((partsN N x).getD 1 0) = false ∧ agrP S ((partsN N x).getD 1 0) ((partsN N x).getD 0 0) = false) ∨
    (kindN N x ≠ 2 ∧ kindN N x ≠ 8 ∧ ∃ y ∈ partsN N x, S.st y < 2) := by
  rcases m.inv.i4 x h1 with e | e | ⟨a, _, _, d⟩ | ⟨a, b, y, c, _, d⟩
  · exact e.elim
  · exact .inl e
  · refine .inr (.inl ⟨a, ?_⟩)
    rw [m.news] at d
    rcases d with d | (d | d) | (d | d)
    · exact d
    · cases d
    · exact d.elim
    · cases d
    · exact d.elim
  · refine .inr (.inr ⟨a, b, y, c, ?_⟩)
    rw [m.news] at d
    rcases d with d | d | d
    · exact d
    · cases d
    · exact d.elim
/-- What follows has come so far; what can be made has, or is made of what is below it. -/
theorem Mi.comp {N : List Nd} (hN : Wf N) {Bs : Int → Prop} {S : MS} {pops : Int → Nat} (m : Mi N Bs S pops) {b : Bool} {x : Int} (h : Der N Bs b x) :
    (b = true → S.st x = 3) ∧ (b = false → 2 ≤ S.st x ∨ (S.st x = 0 ∧ ∀ (h : Int) (l : List Int), Bel N S.st h l → x ∈ l → ownF N S l x = true)) := by
  have hst : ∀ y, 0 ≤ S.st y ∧ S.st y ≤ 3 := m.inr.stb
  have shared : ∀ {x : Int}, kindN N x = 8 → (agrP S ((partsN N x).getD 0 0) ((partsN N x).getD 1 0) = true ∨ agrP S ((partsN N x).getD 1 0) ((partsN N x).getD 0 0) = true) → 2 ≤ S.st x ∨ (S.st x = 0 ∧ ∀ (h : Int) (l : List Int), Bel N S.st h l → x ∈ l → ownF N S l x = true) := fun {x} k ha => by
    by_cases h2 : 2 ≤ S.st x
    · exact .inl h2
    · by_cases h1 : S.st x = 1
      · rcases m.rs h1 with e | ⟨_, e1, e2⟩ | ⟨_, e, _⟩
        · rw [k] at e; exact absurd e (by decide)
        · rw [e1, e2] at ha; simp at ha
        · exact absurd k e
      · refine .inr ⟨by have := hst x; omega, fun h l hl hx => ?_⟩
        obtain ⟨pre, post, rfl⟩ := List.append_of_mem hx
        have hnd : (pre ++ x :: post).Nodup := hl.sorted.imp fun {a b} hh e => by omega
        have hxp : x ∉ post := (List.nodup_cons.1 (List.nodup_append.1 hnd).2.1).1
        unfold ownF
        rw [List.foldl_append, List.foldl_cons, own_other N S post _ x hxp]
        unfold ownStep
        rw [if_pos, up_same]
        unfold lackP
        rw [if_neg (by rw [k]; decide), if_pos k, if_pos]
        exact Bool.or_eq_true_iff.2 ha
  induction h with
  | base h1 h2 h3 => exact ⟨fun _ => m.told _ h1 h2 h3, fun e => by cases e⟩
  | row _ k hx ih => exact ⟨fun _ => (m.uf (ih.1 rfl)).u3 k _ hx, fun e => by cases e⟩
  | signed _ k ih => exact ⟨fun _ => (m.uf (ih.1 rfl)).u9 k, fun e => by cases e⟩
  | @sealed h _ k _ ih ih2 =>
    refine ⟨fun _ => ?_, fun e => by cases e⟩
    rcases (m.uf (ih.1 rfl)).u10 k with e | ⟨e1, e2⟩
    · exact e
    · have h2 : 2 ≤ S.st ((partsN N h).getD 0 0) := by
        rcases ih2.2 rfl with e | ⟨e, _⟩
        · exact e
        · omega
      rcases m.inv.i2 _ h2 with e | e | e
      · rw [m.news] at e; cases e
      · exact e.elim
      · rw [e] at e1; cases e1
  | fo _ ih => exact ⟨fun e => (by cases e), fun _ => .inl (by have := ih.1 rfl; omega)⟩
  | @made x h1 h2 k2 k8 _ ih =>
    refine ⟨fun e => (by cases e), fun _ => ?_⟩
    by_cases g2 : 2 ≤ S.st x
    · exact .inl g2
    · by_cases g1 : S.st x = 1
      · rcases m.rs g1 with e | ⟨e, _⟩ | ⟨_, _, y, hy, hlt⟩
        · exact absurd e k2
        · exact absurd e k8
        · have h3 := m.inv.i3 x g1 k8 y hy
          rcases (ih y hy).2 rfl with e | ⟨e, _⟩ <;> omega
      · refine .inr ⟨by have := hst x; omega, fun h l hl hx => ?_⟩
        obtain ⟨pre, post, rfl⟩ := List.append_of_mem hx
        have hnd : (pre ++ x :: post).Nodup := hl.sorted.imp fun {a b} hh e => by omega
        have hxp : x ∉ post := (List.nodup_cons.1 (List.nodup_append.1 hnd).2.1).1
        have hso := (List.pairwise_cons.1 (List.pairwise_append.1 hl.sorted).2.1).1
        have hfo : ∀ own : Int → Bool, (pre ++ x :: post).foldl (ownStep N S) own = post.foldl (ownStep N S) (ownStep N S (pre.foldl (ownStep N S) own) x) := fun own => by rw [List.foldl_append, List.foldl_cons]
        unfold ownF
        rw [hfo, own_other N S post _ x hxp]
        unfold ownStep
        rw [if_pos, up_same]
        unfold lackP
        rw [if_neg k2, if_neg k8]
        have : (partsN N x).find? (fun y => !((pre.foldl (ownStep N S) (fun _ => false)) y || canP S y)) = none := by
          refine List.find?_eq_none.2 fun y hy => ?_
          have hlow := hN.low x h1 h2 y hy
          rcases (ih y hy).2 rfl with e | ⟨e, f⟩
          · have : canP S y = true := by unfold canP; simpa using e
            simp [this]
          · have hyl : y ∈ pre ++ x :: post := by
              rcases hl.down x hx y hy hlow.1 (by omega) with g | g
              · exact g
              · exact absurd e g
            have hyx : y ∉ x :: post := fun g => by
              rcases List.mem_cons.1 g with g | g
              · omega
              · have := hso y g; omega
            have ho := f h _ hl hyl
            unfold ownF at ho
            rw [List.foldl_append, own_other N S (x :: post) _ y hyx] at ho
            simp [ho]
        exact (congrArg oneL this).trans rfl
  | @both x k _ _ ih1 ih2 =>
    refine ⟨fun e => (by cases e), fun _ => shared k (.inl ?_)⟩
    unfold agrP
    rw [ih1.1 rfl, ih2.1 rfl]
    simp
  | @left x q k _ _ k7 hp ih1 ih2 =>
    refine ⟨fun e => (by cases e), fun _ => shared k (.inl ?_)⟩
    have := (m.uf (ih2.1 rfl)).u7 k7
    rw [hp] at this
    simp only [List.getD_cons_zero] at this
    unfold agrP
    rw [ih1.1 rfl, this]
    simp
  | @right x q k _ _ k7 hp ih1 ih2 =>
    refine ⟨fun e => (by cases e), fun _ => shared k (.inr ?_)⟩
    have := (m.uf (ih2.1 rfl)).u7 k7
    rw [hp] at this
    simp only [List.getD_cons_zero] at this
    unfold agrP
    rw [ih1.1 rfl, this]
    simp
/-- What a mind can make. -/
theorem Mi.can {N : List Nd} (hN : Wf N) {Bs : Int → Prop} {S : MS} {pops : Int → Nat} (m : Mi N Bs S pops) {h : Int} {l : List Int} (hl : Bel N S.st h l) : (ownF N S l h || canP S h) = true ↔ Der N Bs false h := by
  constructor
  · intro e
    rcases Bool.or_eq_true_iff.1 e with e | e
    · exact own_snd hN m.snd l (fun x hx => ⟨(hl.inn x hx).1, (hl.inn x hx).2.1⟩) h e
    · exact m.snd.s2 h (by unfold canP at e; simpa using e)
  · intro d
    have hin := der_in hN d
    rcases (m.comp hN d).2 rfl with e | ⟨e, f⟩
    · have : canP S h = true := by unfold canP; simpa using e
      simp [this]
    · rcases hl.top hin.1 hin.2 with g | g
      · simp [f h l hl g]
      · exact absurd e g
theorem Mi.knows {N : List Nd} (hN : Wf N) {Bs : Int → Prop} {S : MS} {pops : Int → Nat} (m : Mi N Bs S pops) (h : Int) : S.st h = 3 ↔ Der N Bs true h := ⟨m.snd.s3 h, fun d => (m.comp hN d).1 rfl⟩
#print axioms Mi.can
end Go.Proofs.Ytmplcibaoanlnaa
