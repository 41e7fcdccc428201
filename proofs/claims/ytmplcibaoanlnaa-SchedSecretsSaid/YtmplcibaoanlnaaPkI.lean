/- A mind while it learns: what was known stays known; what has risen can be made. -/
import Derived.Test.YtmplcibaoanlnaaPkH
namespace Go.Proofs.Ytmplcibaoanlnaa
open Go Go.RowKit

/-- No term falls back; what is new in the list of what has risen can be made. -/
structure Ups (S S' : MS) : Prop where
  st : ∀ y, S.st y ≤ S'.st y
  news : ∀ y ∈ S'.news, y ∈ S.news ∨ 2 ≤ S'.st y
theorem Ups.refl (S : MS) : Ups S S := ⟨fun _ => Int.le_refl _, fun _ h => .inl h⟩
theorem Ups.trans {S S1 S2 : MS} (h : Ups S S1) (h' : Ups S1 S2) : Ups S S2 := ⟨fun y => Int.le_trans (h.st y) (h'.st y), fun y hy => by
  rcases h'.news y hy with e | e
  · rcases h.news y e with e | e
    · exact .inl e
    · exact .inr (Int.le_trans e (h'.st y))
  · exact .inr e⟩
theorem Ups.same {S S' : MS} (h1 : S'.st = S.st) (h2 : S'.news = S.news) : Ups S S' := ⟨fun y => by rw [h1]; exact Int.le_refl _, fun y hy => .inl (by rw [h2] at hy; exact hy)⟩
theorem Ups.rise (S : MS) (x to : Int) (ht : 2 ≤ to) : Ups S (riseP S x to) := by
  refine ⟨rise_mono S x to, fun y hy => ?_⟩
  unfold riseP at hy ⊢
  split at hy
  · rename_i h
    rw [if_pos h]
    rcases List.mem_append.1 hy with e | e
    · exact .inl e
    · rw [List.mem_singleton] at e
      subst e
      exact .inr (by show 2 ≤ up S.st y to y; rw [up_same]; exact ht)
  · exact .inl hy
theorem wait_news (S : MS) (x : Int) (l : List Int) : (waitP S x l).news = S.news := by
  unfold waitP
  induction l generalizing S with
  | nil => rfl
  | cons y r ih => exact ih _
theorem Ups.ask (S : MS) (x k : Int) (ps : List Int) : Ups S (askP S x k ps) := by
  unfold askP
  split
  · exact .rise S x 2 (Int.le_refl _)
  · exact .same (waitP_st S x _).1 (wait_news S x _)
theorem Ups.wakes (N : List Nd) (S : MS) (l : List Int) : Ups S (l.foldl (wakeStep N) S) := by
  induction l generalizing S with
  | nil => exact .refl S
  | cons x r ih =>
    refine Ups.trans ?_ (ih (wakeStep N S x))
    unfold wakeStep
    split
    · exact .refl S
    · exact .ask S x _ _
theorem Ups.wake (N : List Nd) (S : MS) (h : Int) : Ups S (wakeP N S h) := (Ups.same (S := S) (S' := { S with waits := up S.waits h [] }) rfl rfl).trans (.wakes N _ _)
theorem Ups.mrises (S : MS) (l : List Int) : Ups S (rises S l) := by
  induction l generalizing S with
  | nil => exact .refl S
  | cons x r ih => exact (Ups.rise S x 3 (by decide)).trans (ih (riseP S x 3))
theorem Ups.opens (N : List Nd) (S : MS) (l : List Int) (hn : l.Nodup) (hl : ∀ x ∈ l, S.st x = 0) : Ups S (l.foldl (openStep N) S) := by
  induction l generalizing S with
  | nil => exact .refl S
  | cons x r ih =>
    obtain ⟨n1, n2⟩ := List.nodup_cons.1 hn
    have h0 : Ups S { S with st := up S.st x 1 } := ⟨fun y => by
      show S.st y ≤ up S.st x 1 y
      by_cases e : y = x
      · subst e; rw [up_same, hl y (by simp)]; decide
      · rw [up_other _ _ e]; exact Int.le_refl _, fun y hy => .inl hy⟩
    refine (h0.trans (.ask _ x (kindN N x) (partsN N x))).trans (ih _ n2 fun y hy => ?_)
    have hne : y ≠ x := fun e => n1 (e ▸ hy)
    have := (ask_st { S with st := up S.st x 1 } x (kindN N x) (partsN N x) y).2 hne
    show (askP { S with st := up S.st x 1 } x (kindN N x) (partsN N x)).st y = 0
    rw [this]
    simp only [up_other _ _ hne]
    exact hl y (by simp [hy])
theorem Ups.unfold {N : List Nd} {S S' : MS} {h : Int} (hu : unfoldR N S h S') : Ups S S' := by
  unfold unfoldR at hu
  split at hu
  · subst hu; exact .mrises S _
  · split at hu
    · subst hu
      exact (Ups.same (S := S) (S' := { S with sh := up S.sh ((partsN N h).getD 0 0) true }) rfl rfl).trans (.wake N _ _)
    · split at hu
      · subst hu; exact .rise S _ 3 (by decide)
      · split at hu
        · obtain ⟨l, hl, rfl⟩ := hu
          have h1 := Ups.opens N S l (hl.sorted.imp fun {a b} hh e => by omega) fun x hx => (hl.inn x hx).2.2
          unfold openP
          split
          · exact h1.trans (.rise _ _ 3 (by decide))
          · exact h1.trans (.same rfl rfl)
        · rw [hu]; exact .refl _
theorem Ups.spread {N : List Nd} {S S' : MS} {h : Int} (hs : spreadR N S h S') : Ups S S' := by
  obtain ⟨S1, a1, a2, rfl⟩ := hs
  have h1 : Ups S S1 := by
    by_cases e : S.st h = 3
    · exact .unfold (a1 e)
    · rw [a2 e]; exact .refl S
  exact ((h1.trans (.mrises S1 _)).trans (.same (S' := { rises S1 (S1.shut h) with shut := up (rises S1 (S1.shut h)).shut h [] }) rfl rfl)).trans (.wake N _ _)
theorem Der.mono {N : List Nd} {Bs Cs : Int → Prop} (hs : ∀ x, Bs x → Cs x) {b : Bool} {x : Int} (h : Der N Bs b x) : Der N Cs b x := by
  induction h with
  | base h1 h2 h3 => exact .base (hs _ h1) h2 h3
  | row _ k hx ih => exact .row ih k hx
  | signed _ k ih => exact .signed ih k
  | sealed _ k _ ih ih2 => exact .sealed ih k ih2
  | fo _ ih => exact .fo ih
  | made h1 h2 h3 h4 _ ih => exact .made h1 h2 h3 h4 ih
  | both k _ _ i1 i2 => exact .both k i1 i2
  | left k _ _ k7 hp i1 i2 => exact .left k i1 i2 k7 hp
  | right k _ _ k7 hp i1 i2 => exact .right k i1 i2 k7 hp
theorem Snd.mono {N : List Nd} {Bs Cs : Int → Prop} (hs : ∀ x, Bs x → Cs x) {S : MS} (s : Snd N Bs S) : Snd N Cs S :=
  ⟨fun h e => (s.s3 h e).mono hs, fun h e => (s.s2 h e).mono hs, fun a e => let ⟨q, q1, q2, q3⟩ := s.ssh a e; ⟨q, q1.mono hs, q2, q3⟩, fun k u e => let ⟨q, q1, q2⟩ := s.ssh' k u e; ⟨q, q1.mono hs, q2⟩⟩
/-- A mind on its way. -/
structure Mb (N : List Nd) (Bs : Int → Prop) (S : MS) (pops : Int → Nat) : Prop where
  cn : Cn N S pops
  inv : Inv N S No No No No
  snd : Snd N Bs S
  n2 : ∀ x ∈ S.news, 2 ≤ S.st x
theorem Mi.busy {N : List Nd} {Bs Cs : Int → Prop} {S : MS} {pops : Int → Nat} (m : Mi N Bs S pops) (hs : ∀ x, Bs x → Cs x) : Mb N Cs S pops := ⟨m.cn, m.inv, m.snd.mono hs, fun x hx => by rw [m.news] at hx; cases hx⟩
theorem Cn.rise {N : List Nd} {S : MS} {pops : Int → Nat} (c : Cn N S pops) (x to : Int) (ht : 2 ≤ to) (ht3 : to ≤ 3) : Cn N (riseP S x to) pops := by
  refine ⟨c.c0.rise x to ht ht3, fun h k => ?_, fun h k => ?_, fun y => ?_⟩
  · rw [rise_waits]; exact c.t1 h k
  · rw [rise_waits]; exact c.t8 h k
  · have : (riseP S x to).shut = S.shut := by unfold riseP; split <;> rfl
    rw [this]; exact c.s1 y
/-- One told. -/
theorem Mb.tell {N : List Nd} {Bs : Int → Prop} {S : MS} {pops : Int → Nat} (m : Mb N Bs S pops) {x : Int} (hx : 1 ≤ x ∧ x ≤ (N.length : Int)) (hb : Bs x) : Mb N Bs (riseP S x 3) pops :=
  ⟨m.cn.rise x 3 (by decide) (by decide), m.inv.rise x 3 (by decide), m.snd.rise (.fo (.base hb hx.1 hx.2)) (fun _ => .base hb hx.1 hx.2), fun y hy => by
    have u := Ups.rise S x 3 (by decide)
    rcases u.news y hy with e | e
    · exact Int.le_trans (m.n2 y e) (u.st y)
    · exact e⟩
theorem rise_top {S : MS} (hb : ∀ y, 0 ≤ S.st y ∧ S.st y ≤ 3) (x : Int) : (riseP S x 3).st x = 3 := by
  unfold riseP
  split
  · exact up_same _ _ _
  · have := hb x; omega
/-- One spread. -/
theorem Mb.spread {N : List Nd} (hN : Wf N) {Bs : Int → Prop} {S S' : MS} {pops : Int → Nat} (m : Mb N Bs S pops) (hi : Inr N.length S) {rest : List Int} {x : Int} (hnews : S.news = rest ++ [x]) (hs : spreadR N { S with news := rest } x S') :
    Mb N Bs S' (pop1 pops x) ∧ ∀ y, S.st y ≤ S'.st y := by
  have hx : 1 ≤ x ∧ x ≤ (N.length : Int) := hi.news x (by rw [hnews]; simp)
  have hi0 : Inr N.length { S with news := rest } := ⟨hi.st0, hi.stb, hi.sh0, hi.shut, hi.waits, fun y hy => hi.news y (by rw [hnews]; simp [hy])⟩
  have c0 : Cn0 N { S with news := rest } pops := ⟨fun y => by
    have h1 := m.cn.c0.c1 y
    rw [hnews, List.count_append] at h1
    show pops y + rest.count y + rr (S.st y) ≤ 2
    omega, m.cn.c0.wp, m.cn.c0.t0⟩
  have u := Ups.spread hs
  have s0 : Snd N Bs { S with news := rest } := ⟨m.snd.s3, m.snd.s2, m.snd.ssh, m.snd.ssh'⟩
  refine ⟨⟨spread_cn hN m.cn hi hnews hs, m.inv.spread hN hi hnews hs, s0.spread hN c0 m.cn.s1 hi0 hx (m.n2 x (by rw [hnews]; simp)) hs, fun y hy => ?_⟩, u.st⟩
  rcases u.news y hy with e | e
  · exact Int.le_trans (m.n2 y (by rw [hnews]; exact List.mem_append_left _ e)) (u.st y)
  · exact e
#print axioms Mb.spread
end Go.Proofs.Ytmplcibaoanlnaa
