/- A mind while it learns: what was known stays known; what has risen can be made. -/
import Derived.Test.YtepkhhpdpmhfaaaDoorZTPkG
namespace Go.Proofs.YtepkhhpdpmhfaaaDoor.T
open Go Go.RowKit

def ownStep (N : List Nd) (S : MS) (own : Int → Bool) (x : Int) : Int → Bool := if lackP S (fun y => own y || canP S y) x (kindN N x) (partsN N x) = [] then up own x true else own
def ownF (N : List Nd) (S : MS) (l : List Int) : Int → Bool := l.foldl (ownStep N S) (fun _ => false)
theorem own_other (N : List Nd) (S : MS) (l : List Int) (own : Int → Bool) (y : Int) (h : y ∉ l) : l.foldl (ownStep N S) own y = own y := by
  induction l generalizing own with
  | nil => rfl
  | cons x r ih =>
    have hne : y ≠ x := fun e => h (by simp [e])
    refine (ih (ownStep N S own x) (fun e => h (by simp [e]))).trans ?_
    unfold ownStep
    split
    · exact up_other _ _ hne
    · rfl
theorem own_sub {N : List Nd} {S : MS} {l : List Int} {y : Int} (h : ownF N S l y = true) : y ∈ l := by
  refine Classical.byContradiction fun hn => ?_
  have := own_other N S l (fun _ => false) y hn
  unfold ownF at h
  rw [h] at this
  cases this
theorem own_snd {N : List Nd} (hN : Wf N) {Bs : Int → Prop} {S : MS} (s : Snd N Bs S) (l : List Int) (hl : ∀ x ∈ l, 1 ≤ x ∧ x ≤ (N.length : Int)) : ∀ y, ownF N S l y = true → Der N Bs false y := by
  have key : ∀ (l : List Int) (own : Int → Bool), (∀ x ∈ l, 1 ≤ x ∧ x ≤ (N.length : Int)) → (∀ y, own y = true → Der N Bs false y) → ∀ y, l.foldl (ownStep N S) own y = true → Der N Bs false y := by
    intro l
    induction l with
    | nil => intro own _ h; exact h
    | cons x r ih =>
      intro own hl h
      refine ih (ownStep N S own x) (fun z hz => hl z (by simp [hz])) fun y hy => ?_
      unfold ownStep at hy
      split at hy
      · rename_i hL
        by_cases e : y = x
        · subst e
          refine lack_der hN s (hl y (by simp)) (fun z hz => ?_) hL
          rcases Bool.or_eq_true_iff.1 hz with hz | hz
          · exact h z hz
          · exact s.s2 z (by unfold canP at hz; simpa using hz)
        · rw [up_other _ _ e] at hy; exact h y hy
      · exact h y hy
  exact key l _ hl (fun y hy => by cases hy)
theorem der_in {N : List Nd} (hN : Wf N) {Bs : Int → Prop} {b : Bool} {x : Int} (h : Der N Bs b x) : 1 ≤ x ∧ x ≤ (N.length : Int) := by
  have part : ∀ {h y : Int}, 1 ≤ h ∧ h ≤ (N.length : Int) → y ∈ partsN N h → 1 ≤ y ∧ y ≤ (N.length : Int) := fun hh hy => by have := hN.low _ hh.1 hh.2 _ hy; omega
  induction h with
  | base _ h1 h2 => exact ⟨h1, h2⟩
  | row _ _ hx ih => exact part ih hx
  | signed _ k ih => exact part ih (getD_mem (by rw [hN.sig _ k]; decide))
  | sealed _ k _ ih _ => exact part ih (getD_mem (by rw [hN.sea _ k]; decide))
  | fo _ ih => exact ih
  | made h1 h2 _ _ _ _ => exact ⟨h1, h2⟩
  | both k _ _ _ _ => exact kind_in (by rw [k]; decide)
  | left k _ _ _ _ _ _ => exact kind_in (by rw [k]; decide)
  | right k _ _ _ _ _ _ => exact kind_in (by rw [k]; decide)
/-- The mind S, at rest, told the terms Bs. -/
structure Mi (N : List Nd) (Bs : Int → Prop) (S : MS) (pops : Int → Nat) : Prop where
  news : S.news = []
  inr : Inr N.length S
  cn : Cn N S pops
  inv : Inv N S No No No No
  snd : Snd N Bs S
  told : ∀ h, Bs h → 1 ≤ h → h ≤ (N.length : Int) → S.st h = 3
theorem Mi.uf {N : List Nd} {Bs : Int → Prop} {S : MS} {pops : Int → Nat} (m : Mi N Bs S pops) {h : Int} (h3 : S.st h = 3) : Uf N S h := by
  rcases m.inv.i1 h h3 with e | e | e
  · rw [m.news] at e; cases e
  · exact e.elim
  · exact e
theorem Mi.rs {N : List Nd} {Bs : Int → Prop} {S : MS} {pops : Int → Nat} (m : Mi N Bs S pops) {x : Int} (h1 : S.st x = 1) : kindN N x = 2 ∨
    (kindN N x = 8 ∧ agrP S ((partsN N x).getD 0 0) ((partsN N x).getD 1 0) = false ∧ agrP S ((partsN N x).getD 1 0) ((partsN N x).getD 0 0) = false) ∨
    (kindN N x ≠ 2 ∧ kindN N x ≠ 8 ∧ ∃ y ∈ partsN N x, S.st y < 2) := by
  rcases m.inv.i4 x h1 with e | e | ⟨a, _, _, d⟩ | ⟨a, b, y, c, _, d⟩
  · exact e.elim
  · exact .inl e
  · refine .inr (.inl ⟨a, ?_⟩)
    rw [m.news] at d
    rcases d with d | (d | d) | (d | d)
    · exact d
    · cases d
    · exact d.elim
    · cases d
    · exact d.elim
  · refine .inr (.inr ⟨a, b, y, c, ?_⟩)
    rw [m.news] at d
    rcases d with d | d | d
    · exact d
    · cases d
    · exact d.elim
/-- What follows has come so far; what can be made has, or is made of what is below it. -/
theorem Mi.comp {N : List Nd} (hN : Wf N) {Bs : Int → Prop} {S : MS} {pops : Int → Nat} (m : Mi N Bs S pops) {b : Bool} {x : Int} (h : Der N Bs b x) :
    (b = true → S.st x = 3) ∧ (b = false → 2 ≤ S.st x ∨ (S.st x = 0 ∧ ∀ (h : Int) (l : List Int), Bel N S.st h l → x ∈ l → ownF N S l x = true)) := by
  have hst : ∀ y, 0 ≤ S.st y ∧ S.st y ≤ 3 := m.inr.stb
  have shared : ∀ {x : Int}, kindN N x = 8 → (agrP S ((partsN N x).getD 0 0) ((partsN N x).getD 1 0) = true ∨ agrP S ((partsN N x).getD 1 0) ((partsN N x).getD 0 0) = true) → 2 ≤ S.st x ∨ (S.st x = 0 ∧ ∀ (h : Int) (l : List Int), Bel N S.st h l → x ∈ l → ownF N S l x = true) := fun {x} k ha => by
    by_cases h2 : 2 ≤ S.st x
    · exact .inl h2
    · by_cases h1 : S.st x = 1
      · rcases m.rs h1 with e | ⟨_, e1, e2⟩ | ⟨_, e, _⟩
        · rw [k] at e; exact absurd e (by decide)
        · rw [e1, e2] at ha; simp at ha
        · exact absurd k e
      · refine .inr ⟨by have := hst x; omega, fun h l hl hx => ?_⟩
        obtain ⟨pre, post, rfl⟩ := List.append_of_mem hx
        have hnd : (pre ++ x :: post).Nodup := hl.sorted.imp fun {a b} hh e => by omega
        have hxp : x ∉ post := (List.nodup_cons.1 (List.nodup_append.1 hnd).2.1).1
        unfold ownF
        rw [List.foldl_append, List.foldl_cons, own_other N S post _ x hxp]
        unfold ownStep
        rw [if_pos, up_same]
        unfold lackP
        rw [if_neg (by rw [k]; decide), if_pos k, if_pos]
        exact Bool.or_eq_true_iff.2 ha
  induction h with
  | base h1 h2 h3 => exact ⟨fun _ => m.told _ h1 h2 h3, fun e => by cases e⟩
  | row _ k hx ih => exact ⟨fun _ => (m.uf (ih.1 rfl)).u3 k _ hx, fun e => by cases e⟩
  | signed _ k ih => exact ⟨fun _ => (m.uf (ih.1 rfl)).u9 k, fun e => by cases e⟩
  | @sealed h _ k _ ih ih2 =>
    refine ⟨fun _ => ?_, fun e => by cases e⟩
    rcases (m.uf (ih.1 rfl)).u10 k with e | ⟨e1, e2⟩
    · exact e
    · have h2 : 2 ≤ S.st ((partsN N h).getD 0 0) := by
        rcases ih2.2 rfl with e | ⟨e, _⟩
        · exact e
        · omega
      rcases m.inv.i2 _ h2 with e | e | e
      · rw [m.news] at e; cases e
      · exact e.elim
      · rw [e] at e1; cases e1
  | fo _ ih => exact ⟨fun e => (by cases e), fun _ => .inl (by have := ih.1 rfl; omega)⟩
  | @made x h1 h2 k2 k8 _ ih =>
    refine ⟨fun e => (by cases e), fun _ => ?_⟩
    by_cases g2 : 2 ≤ S.st x
    · exact .inl g2
    · by_cases g1 : S.st x = 1
      · rcases m.rs g1 with e | ⟨e, _⟩ | ⟨_, _, y, hy, hlt⟩
        · exact absurd e k2
        · exact absurd e k8
        · have h3 := m.inv.i3 x g1 k8 y hy
          rcases (ih y hy).2 rfl with e | ⟨e, _⟩ <;> omega
      · refine .inr ⟨by have := hst x; omega, fun h l hl hx => ?_⟩
        obtain ⟨pre, post, rfl⟩ := List.append_of_mem hx
        have hnd : (pre ++ x :: post).Nodup := hl.sorted.imp fun {a b} hh e => by omega
        have hxp : x ∉ post := (List.nodup_cons.1 (List.nodup_append.1 hnd).2.1).1
        have hso := (List.pairwise_cons.1 (List.pairwise_append.1 hl.sorted).2.1).1
        have hfo : ∀ own : Int → Bool, (pre ++ x :: post).foldl (ownStep N S) own = post.foldl (ownStep N S) (ownStep N S (pre.foldl (ownStep N S) own) x) := fun own => by rw [List.foldl_append, List.foldl_cons]
        unfold ownF
        rw [hfo, own_other N S post _ x hxp]
        unfold ownStep
        rw [if_pos, up_same]
        unfold lackP
        rw [if_neg k2, if_neg k8]
        have : (partsN N x).find? (fun y => !((pre.foldl (ownStep N S) (fun _ => false)) y || canP S y)) = none := by
          refine List.find?_eq_none.2 fun y hy => ?_
          have hlow := hN.low x h1 h2 y hy
          rcases (ih y hy).2 rfl with e | ⟨e, f⟩
          · have : canP S y = true := by unfold canP; simpa using e
            simp [this]
          · have hyl : y ∈ pre ++ x :: post := by
              rcases hl.down x hx y hy hlow.1 (by omega) with g | g
              · exact g
              · exact absurd e g
            have hyx : y ∉ x :: post := fun g => by
              rcases List.mem_cons.1 g with g | g
              · omega
              · have := hso y g; omega
            have ho := f h _ hl hyl
            unfold ownF at ho
            rw [List.foldl_append, own_other N S (x :: post) _ y hyx] at ho
            simp [ho]
        exact (congrArg oneL this).trans rfl
  | @both x k _ _ ih1 ih2 =>
    refine ⟨fun e => (by cases e), fun _ => shared k (.inl ?_)⟩
    unfold agrP
    rw [ih1.1 rfl, ih2.1 rfl]
    simp
  | @left x q k _ _ k7 hp ih1 ih2 =>
    refine ⟨fun e => (by cases e), fun _ => shared k (.inl ?_)⟩
    have := (m.uf (ih2.1 rfl)).u7 k7
    rw [hp] at this
    simp only [List.getD_cons_zero] at this
    unfold agrP
    rw [ih1.1 rfl, this]
    simp
  | @right x q k _ _ k7 hp ih1 ih2 =>
    refine ⟨fun e => (by cases e), fun _ => shared k (.inr ?_)⟩
    have := (m.uf (ih2.1 rfl)).u7 k7
    rw [hp] at this
    simp only [List.getD_cons_zero] at this
    unfold agrP
    rw [ih1.1 rfl, this]
    simp
/-- What a mind can make. -/
theorem Mi.can {N : List Nd} (hN : Wf N) {Bs : Int → Prop} {S : MS} {pops : Int → Nat} (m : Mi N Bs S pops) {h : Int} {l : List Int} (hl : Bel N S.st h l) : (ownF N S l h || canP S h) = true ↔ Der N Bs false h := by
  constructor
  · intro e
    rcases Bool.or_eq_true_iff.1 e with e | e
    · exact own_snd hN m.snd l (fun x hx => ⟨(hl.inn x hx).1, (hl.inn x hx).2.1⟩) h e
    · exact m.snd.s2 h (by unfold canP at e; simpa using e)
  · intro d
    have hin := der_in hN d
    rcases (m.comp hN d).2 rfl with e | ⟨e, f⟩
    · have : canP S h = true := by unfold canP; simpa using e
      simp [this]
    · rcases hl.top hin.1 hin.2 with g | g
      · simp [f h l hl g]
      · exact absurd e g
theorem Mi.knows {N : List Nd} (hN : Wf N) {Bs : Int → Prop} {S : MS} {pops : Int → Nat} (m : Mi N Bs S pops) (h : Int) : S.st h = 3 ↔ Der N Bs true h := ⟨m.snd.s3 h, fun d => (m.comp hN d).1 rfl⟩
#print axioms Mi.can
end Go.Proofs.YtepkhhpdpmhfaaaDoor.T
namespace Go.Proofs.YtepkhhpdpmhfaaaDoor.T
open Go Go.RowKit

/-- No term falls back; what is new in the list of what has risen can be made. -/
structure Ups (S S' : MS) : Prop where
  st : ∀ y, S.st y ≤ S'.st y
  news : ∀ y ∈ S'.news, y ∈ S.news ∨ 2 ≤ S'.st y
theorem Ups.refl (S : MS) : Ups S S := ⟨fun _ => Int.le_refl _, fun _ h => .inl h⟩
theorem Ups.trans {S S1 S2 : MS} (h : Ups S S1) (h' : Ups S1 S2) : Ups S S2 := ⟨fun y => Int.le_trans (h.st y) (h'.st y), fun y hy => by
  rcases h'.news y hy with e | e
  · rcases h.news y e with e | e
    · exact .inl e
    · exact .inr (Int.le_trans e (h'.st y))
  · exact .inr e⟩
theorem Ups.same {S S' : MS} (h1 : S'.st = S.st) (h2 : S'.news = S.news) : Ups S S' := ⟨fun y => by rw [h1]; exact Int.le_refl _, fun y hy => .inl (by rw [h2] at hy; exact hy)⟩
theorem Ups.rise (S : MS) (x to : Int) (ht : 2 ≤ to) : Ups S (riseP S x to) := by
  refine ⟨rise_mono S x to, fun y hy => ?_⟩
  unfold riseP at hy ⊢
  split at hy
  · rename_i h
    rw [if_pos h]
    rcases List.mem_append.1 hy with e | e
    · exact .inl e
    · rw [List.mem_singleton] at e
      subst e
      exact .inr (by show 2 ≤ up S.st y to y; rw [up_same]; exact ht)
  · exact .inl hy
theorem wait_news (S : MS) (x : Int) (l : List Int) : (waitP S x l).news = S.news := by
  unfold waitP
  induction l generalizing S with
  | nil => rfl
  | cons y r ih => exact ih _
theorem Ups.ask (S : MS) (x k : Int) (ps : List Int) : Ups S (askP S x k ps) := by
  unfold askP
  split
  · exact .rise S x 2 (Int.le_refl _)
  · exact .same (waitP_st S x _).1 (wait_news S x _)
theorem Ups.wakes (N : List Nd) (S : MS) (l : List Int) : Ups S (l.foldl (wakeStep N) S) := by
  induction l generalizing S with
  | nil => exact .refl S
  | cons x r ih =>
    refine Ups.trans ?_ (ih (wakeStep N S x))
    unfold wakeStep
    split
    · exact .refl S
    · exact .ask S x _ _
theorem Ups.wake (N : List Nd) (S : MS) (h : Int) : Ups S (wakeP N S h) := (Ups.same (S := S) (S' := { S with waits := up S.waits h [] }) rfl rfl).trans (.wakes N _ _)
theorem Ups.mrises (S : MS) (l : List Int) : Ups S (rises S l) := by
  induction l generalizing S with
  | nil => exact .refl S
  | cons x r ih => exact (Ups.rise S x 3 (by decide)).trans (ih (riseP S x 3))
theorem Ups.opens (N : List Nd) (S : MS) (l : List Int) (hn : l.Nodup) (hl : ∀ x ∈ l, S.st x = 0) : Ups S (l.foldl (openStep N) S) := by
  induction l generalizing S with
  | nil => exact .refl S
  | cons x r ih =>
    obtain ⟨n1, n2⟩ := List.nodup_cons.1 hn
    have h0 : Ups S { S with st := up S.st x 1 } := ⟨fun y => by
      show S.st y ≤ up S.st x 1 y
      by_cases e : y = x
      · subst e; rw [up_same, hl y (by simp)]; decide
      · rw [up_other _ _ e]; exact Int.le_refl _, fun y hy => .inl hy⟩
    refine (h0.trans (.ask _ x (kindN N x) (partsN N x))).trans (ih _ n2 fun y hy => ?_)
    have hne : y ≠ x := fun e => n1 (e ▸ hy)
    have := (ask_st { S with st := up S.st x 1 } x (kindN N x) (partsN N x) y).2 hne
    show (askP { S with st := up S.st x 1 } x (kindN N x) (partsN N x)).st y = 0
    rw [this]
    simp only [up_other _ _ hne]
    exact hl y (by simp [hy])
theorem Ups.unfold {N : List Nd} {S S' : MS} {h : Int} (hu : unfoldR N S h S') : Ups S S' := by
  unfold unfoldR at hu
  split at hu
  · subst hu; exact .mrises S _
  · split at hu
    · subst hu
      exact (Ups.same (S := S) (S' := { S with sh := up S.sh ((partsN N h).getD 0 0) true }) rfl rfl).trans (.wake N _ _)
    · split at hu
      · subst hu; exact .rise S _ 3 (by decide)
      · split at hu
        · obtain ⟨l, hl, rfl⟩ := hu
          have h1 := Ups.opens N S l (hl.sorted.imp fun {a b} hh e => by omega) fun x hx => (hl.inn x hx).2.2
          unfold openP
          split
          · exact h1.trans (.rise _ _ 3 (by decide))
          · exact h1.trans (.same rfl rfl)
        · rw [hu]; exact .refl _
theorem Ups.spread {N : List Nd} {S S' : MS} {h : Int} (hs : spreadR N S h S') : Ups S S' := by
  obtain ⟨S1, a1, a2, rfl⟩ := hs
  have h1 : Ups S S1 := by
    by_cases e : S.st h = 3
    · exact .unfold (a1 e)
    · rw [a2 e]; exact .refl S
  exact ((h1.trans (.mrises S1 _)).trans (.same (S' := { rises S1 (S1.shut h) with shut := up (rises S1 (S1.shut h)).shut h [] }) rfl rfl)).trans (.wake N _ _)
theorem Der.mono {N : List Nd} {Bs Cs : Int → Prop} (hs : ∀ x, Bs x → Cs x) {b : Bool} {x : Int} (h : Der N Bs b x) : Der N Cs b x := by
  induction h with
  | base h1 h2 h3 => exact .base (hs _ h1) h2 h3
  | row _ k hx ih => exact .row ih k hx
  | signed _ k ih => exact .signed ih k
  | sealed _ k _ ih ih2 => exact .sealed ih k ih2
  | fo _ ih => exact .fo ih
  | made h1 h2 h3 h4 _ ih => exact .made h1 h2 h3 h4 ih
  | both k _ _ i1 i2 => exact .both k i1 i2
  | left k _ _ k7 hp i1 i2 => exact .left k i1 i2 k7 hp
  | right k _ _ k7 hp i1 i2 => exact .right k i1 i2 k7 hp
theorem Snd.mono {N : List Nd} {Bs Cs : Int → Prop} (hs : ∀ x, Bs x → Cs x) {S : MS} (s : Snd N Bs S) : Snd N Cs S :=
  ⟨fun h e => (s.s3 h e).mono hs, fun h e => (s.s2 h e).mono hs, fun a e => let ⟨q, q1, q2, q3⟩ := s.ssh a e; ⟨q, q1.mono hs, q2, q3⟩, fun k u e => let ⟨q, q1, q2⟩ := s.ssh' k u e; ⟨q, q1.mono hs, q2⟩⟩
/-- A mind on its way. -/
structure Mb (N : List Nd) (Bs : Int → Prop) (S : MS) (pops : Int → Nat) : Prop where
  cn : Cn N S pops
  inv : Inv N S No No No No
  snd : Snd N Bs S
  n2 : ∀ x ∈ S.news, 2 ≤ S.st x
theorem Mi.busy {N : List Nd} {Bs Cs : Int → Prop} {S : MS} {pops : Int → Nat} (m : Mi N Bs S pops) (hs : ∀ x, Bs x → Cs x) : Mb N Cs S pops := ⟨m.cn, m.inv, m.snd.mono hs, fun x hx => by rw [m.news] at hx; cases hx⟩
theorem Cn.rise {N : List Nd} {S : MS} {pops : Int → Nat} (c : Cn N S pops) (x to : Int) (ht : 2 ≤ to) (ht3 : to ≤ 3) : Cn N (riseP S x to) pops := by
  refine ⟨c.c0.rise x to ht ht3, fun h k => ?_, fun h k => ?_, fun y => ?_⟩
  · rw [rise_waits]; exact c.t1 h k
  · rw [rise_waits]; exact c.t8 h k
  · have : (riseP S x to).shut = S.shut := by unfold riseP; split <;> rfl
    rw [this]; exact c.s1 y
/-- One told. -/
theorem Mb.tell {N : List Nd} {Bs : Int → Prop} {S : MS} {pops : Int → Nat} (m : Mb N Bs S pops) {x : Int} (hx : 1 ≤ x ∧ x ≤ (N.length : Int)) (hb : Bs x) : Mb N Bs (riseP S x 3) pops :=
  ⟨m.cn.rise x 3 (by decide) (by decide), m.inv.rise x 3 (by decide), m.snd.rise (.fo (.base hb hx.1 hx.2)) (fun _ => .base hb hx.1 hx.2), fun y hy => by
    have u := Ups.rise S x 3 (by decide)
    rcases u.news y hy with e | e
    · exact Int.le_trans (m.n2 y e) (u.st y)
    · exact e⟩
theorem rise_top {S : MS} (hb : ∀ y, 0 ≤ S.st y ∧ S.st y ≤ 3) (x : Int) : (riseP S x 3).st x = 3 := by
  unfold riseP
  split
  · exact up_same _ _ _
  · have := hb x; omega
/-- One spread. -/
theorem Mb.spread {N : List Nd} (hN : Wf N) {Bs : Int → Prop} {S S' : MS} {pops : Int → Nat} (m : Mb N Bs S pops) (hi : Inr N.length S) {rest : List Int} {x : Int} (hnews : S.news = rest ++ [x]) (hs : spreadR N { S with news := rest } x S') :
    Mb N Bs S' (pop1 pops x) ∧ ∀ y, S.st y ≤ S'.st y := by
  have hx : 1 ≤ x ∧ x ≤ (N.length : Int) := hi.news x (by rw [hnews]; simp)
  have hi0 : Inr N.length { S with news := rest } := ⟨hi.st0, hi.stb, hi.sh0, hi.shut, hi.waits, fun y hy => hi.news y (by rw [hnews]; simp [hy])⟩
  have c0 : Cn0 N { S with news := rest } pops := ⟨fun y => by
    have h1 := m.cn.c0.c1 y
    rw [hnews, List.count_append] at h1
    show pops y + rest.count y + rr (S.st y) ≤ 2
    omega, m.cn.c0.wp, m.cn.c0.t0⟩
  have u := Ups.spread hs
  have s0 : Snd N Bs { S with news := rest } := ⟨m.snd.s3, m.snd.s2, m.snd.ssh, m.snd.ssh'⟩
  refine ⟨⟨spread_cn hN m.cn hi hnews hs, m.inv.spread hN hi hnews hs, s0.spread hN c0 m.cn.s1 hi0 hx (m.n2 x (by rw [hnews]; simp)) hs, fun y hy => ?_⟩, u.st⟩
  rcases u.news y hy with e | e
  · exact Int.le_trans (m.n2 y (by rw [hnews]; exact List.mem_append_left _ e)) (u.st y)
  · exact e
#print axioms Mb.spread
end Go.Proofs.YtepkhhpdpmhfaaaDoor.T
