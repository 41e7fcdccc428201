/- A secret, a text may be put behind a table; public ones stay without text. -/
import Derived.Test.YtmplcibaoanlnaaPkI
namespace Go.Proofs.Ytmplcibaoanlnaa
open Go Go.RowKit

/-- What follows of what follows, follows. -/
theorem Der.again {N : List Nd} {Bs Cs : Int → Prop} (hs : ∀ x, Cs x → 1 ≤ x → x ≤ (N.length : Int) → Der N Bs true x) {b : Bool} {x : Int} (h : Der N Cs b x) : Der N Bs b x := by
  induction h with
  | base h1 h2 h3 => exact hs _ h1 h2 h3
  | row _ k hx ih => exact .row ih k hx
  | signed _ k ih => exact .signed ih k
  | sealed _ k _ ih ih2 => exact .sealed ih k ih2
  | fo _ ih => exact .fo ih
  | made h1 h2 h3 h4 _ ih => exact .made h1 h2 h3 h4 ih
  | both k _ _ i1 i2 => exact .both k i1 i2
  | left k _ _ k7 hp i1 i2 => exact .left k i1 i2 k7 hp
  | right k _ _ k7 hp i1 i2 => exact .right k i1 i2 k7 hp
/-- How a term that is no shared one can be made. -/
theorem der_split {N : List Nd} {Bs : Int → Prop} {b : Bool} {x : Int} (h : Der N Bs b x) (k8 : kindN N x ≠ 8) : Der N Bs true x ∨ (kindN N x ≠ 2 ∧ ∀ y ∈ partsN N x, Der N Bs false y) := by
  cases h with
  | base h1 h2 h3 => exact .inl (.base h1 h2 h3)
  | row h k hx => exact .inl (.row h k hx)
  | signed h k => exact .inl (.signed h k)
  | sealed h k h2 => exact .inl (.sealed h k h2)
  | fo h => exact .inl h
  | made _ _ k2 _ hp => exact .inr ⟨k2, hp⟩
  | both k _ _ => exact absurd k k8
  | left k _ _ _ _ => exact absurd k k8
  | right k _ _ _ _ => exact absurd k k8
theorem der_secret {N : List Nd} {Bs : Int → Prop} {b : Bool} {x : Int} (h : Der N Bs b x) (k2 : kindN N x = 2) : Der N Bs true x := by
  rcases der_split h (by rw [k2]; decide) with e | ⟨e, _⟩
  · exact e
  · exact absurd k2 e
/-- What can be made of what can be made, can be made. -/
theorem Der.remade {N : List Nd} (hN : Wf N) {Bs Cs : Int → Prop} (hs : ∀ x, Cs x → 1 ≤ x → x ≤ (N.length : Int) → Der N Bs false x) {b : Bool} {x : Int} (h : Der N Cs b x) : Der N Bs false x := by
  have side : ∀ {x a o q : Int}, kindN N x = 8 → a ∈ partsN N x → o ∈ partsN N x → Der N Bs false a → Der N Bs false q → kindN N q = 7 → partsN N q = [o] → Der N Bs true a ∧ (Der N Bs true q ∨ Der N Bs true o) := fun k ha ho da dq k7 hp => by
    have k2 := (hN.two _ k).2
    refine ⟨der_secret da (k2 _ ha), ?_⟩
    rcases der_split dq (by rw [k7]; decide) with e | ⟨_, e⟩
    · exact .inl e
    · exact .inr (der_secret (e _ (by rw [hp]; simp)) (k2 _ ho))
  have two : ∀ {x : Int}, kindN N x = 8 → (partsN N x).getD 0 0 ∈ partsN N x ∧ (partsN N x).getD 1 0 ∈ partsN N x := fun k => by
    have hl := (hN.two _ k).1
    exact ⟨getD_mem (by omega), getD_mem (by omega)⟩
  induction h with
  | base h1 h2 h3 => exact hs _ h1 h2 h3
  | row _ k hx ih =>
    rcases der_split ih (by rw [k]; decide) with e | ⟨_, e⟩
    · exact .fo (.row e k hx)
    · exact e _ hx
  | signed _ k ih =>
    rcases der_split ih (by rw [k]; decide) with e | ⟨_, e⟩
    · exact .fo (.signed e k)
    · exact e _ (getD_mem (by rw [hN.sig _ k]; decide))
  | sealed _ k _ ih ih2 =>
    rcases der_split ih (by rw [k]; decide) with e | ⟨_, e⟩
    · exact .fo (.sealed e k ih2)
    · exact e _ (getD_mem (by rw [hN.sea _ k]; decide))
  | fo _ ih => exact ih
  | made h1 h2 h3 h4 _ ih => exact .made h1 h2 h3 h4 ih
  | both k _ _ i1 i2 =>
    have k2 := (hN.two _ k).2
    exact .both k (der_secret i1 (k2 _ (two k).1)) (der_secret i2 (k2 _ (two k).2))
  | left k _ _ k7 hp i1 i2 =>
    obtain ⟨d1, d2 | d2⟩ := side k (two k).1 (two k).2 i1 i2 k7 hp
    · exact .left k d1 d2 k7 hp
    · exact .both k d1 d2
  | right k _ _ k7 hp i1 i2 =>
    obtain ⟨d1, d2 | d2⟩ := side k (two k).2 (two k).1 i1 i2 k7 hp
    · exact .right k d1 d2 k7 hp
    · exact .both k d2 d1
/-- A term with a secret in it. -/
inductive Sec (N : List Nd) : Int → Prop
  | self {x : Int} : kindN N x = 2 → Sec N x
  | part {x y : Int} : y ∈ partsN N x → Sec N y → Sec N x
theorem der_none {N : List Nd} {b : Bool} {x : Int} (h : Der N (fun _ => False) b x) : b = false ∧ ¬ Sec N x := by
  induction h with
  | base h1 _ _ => exact h1.elim
  | row _ _ _ ih => exact absurd ih.1 (by decide)
  | signed _ _ ih => exact absurd ih.1 (by decide)
  | sealed _ _ _ ih _ => exact absurd ih.1 (by decide)
  | fo _ ih => exact absurd ih.1 (by decide)
  | made _ _ k2 _ _ ih =>
    refine ⟨rfl, fun hs => ?_⟩
    cases hs with
    | self k => exact k2 k
    | part hy hs => exact (ih _ hy).2 hs
  | both _ _ _ i1 _ => exact absurd i1.1 (by decide)
  | left _ _ _ _ _ i1 _ => exact absurd i1.1 (by decide)
  | right _ _ _ _ _ i1 _ => exact absurd i1.1 (by decide)
/-- Of nothing can be made what has no secret in it. -/
theorem der_texts {N : List Nd} (hN : Wf N) {x : Int} (h1 : 1 ≤ x) (h2 : x ≤ (N.length : Int)) : Der N (fun _ => False) false x ↔ ¬ Sec N x := by
  refine ⟨fun h => (der_none h).2, ?_⟩
  have key : ∀ (n : Nat) (x : Int), x.toNat = n → 1 ≤ x → x ≤ (N.length : Int) → ¬ Sec N x → Der N (fun _ => False) false x := by
    intro n
    induction n using Nat.strongRecOn with
    | _ n ih =>
      intro x hx h1 h2 hs
      refine .made h1 h2 (fun k => hs (.self k)) (fun k => ?_) fun y hy => ?_
      · have t := hN.two x k
        have hm : (partsN N x).getD 0 0 ∈ partsN N x := getD_mem (by omega)
        exact hs (.part hm (.self (t.2 _ hm)))
      · have hl := hN.low x h1 h2 y hy
        exact ih y.toNat (by omega) y rfl hl.1 (by omega) fun e => hs (.part hy e)
  exact key x.toNat x rfl h1 h2
#print axioms Der.remade
#print axioms der_texts
end Go.Proofs.Ytmplcibaoanlnaa
namespace Go.Proofs.Ytmplcibaoanlnaa
open Go Go.RowKit

theorem kind_app {N M : List Nd} {p : Int} (h : p ≤ (N.length : Int)) : kindN (N ++ M) p = kindN N p := by
  unfold kindN
  by_cases h0 : p < 1
  · rw [if_pos h0, if_pos h0]
  · rw [if_neg h0, if_neg h0, List.getElem?_append_left (by omega)]
theorem parts_app {N M : List Nd} {p : Int} (h1 : 1 ≤ p) (h : p ≤ (N.length : Int)) : partsN (N ++ M) p = partsN N p := by
  unfold partsN
  rw [List.getElem?_append_left (by omega)]
theorem kind_end (N : List Nd) (n : Nd) : kindN (N ++ [n]) ((N.length : Int) + 1) = n.1 := by
  unfold kindN
  rw [if_neg (by omega), show ((N.length : Int) + 1 - 1).toNat = N.length by omega]
  simp
theorem parts_end (N : List Nd) (n : Nd) : partsN (N ++ [n]) ((N.length : Int) + 1) = n.2.2 := by
  unfold partsN
  rw [show ((N.length : Int) + 1 - 1).toNat = N.length by omega]
  simp
/-- A node that may be put behind N. -/
structure Next (N : List Nd) (n : Nd) : Prop where
  low : ∀ p ∈ n.2.2, 1 ≤ p ∧ p ≤ (N.length : Int)
  two : n.1 = 8 → n.2.2.length = 2 ∧ ∀ p ∈ n.2.2, kindN N p = 2
  one : n.1 = 7 → n.2.2.length = 1 ∧ ∀ p ∈ n.2.2, kindN N p = 2
  sig : n.1 = 9 → n.2.2.length = 2
  sea : n.1 = 10 → n.2.2.length = 3
  sixteen : n.2.2.length ≤ 16
  pub : n.1 = 7 → ∀ x, kindN N x = 7 → partsN N x ≠ n.2.2
  room : N.length < 65536
theorem Wf.put {N : List Nd} (h : Wf N) {n : Nd} (hn : Next N n) : Wf (N ++ [n]) := by
  have hlen : ((N ++ [n]).length : Int) = (N.length : Int) + 1 := by simp
  have at' : ∀ {x : Int}, kindN (N ++ [n]) x ≠ 0 → (1 ≤ x ∧ x ≤ (N.length : Int)) ∨ x = (N.length : Int) + 1 := fun hk => by
    have := kind_in hk
    rw [hlen] at this
    omega
  have old : ∀ {x : Int}, 1 ≤ x → x ≤ (N.length : Int) → kindN (N ++ [n]) x = kindN N x ∧ partsN (N ++ [n]) x = partsN N x := fun h1 h2 => ⟨kind_app h2, parts_app h1 h2⟩
  have kin : ∀ {y k : Int}, k ≠ 0 → kindN N y = k → kindN (N ++ [n]) y = k := fun hk e => by
    rw [kind_app (kind_in (by rw [e]; exact hk)).2]; exact e
  exact
  { low := fun x h1 h2 y hy => by
      rw [hlen] at h2
      by_cases e : x ≤ (N.length : Int)
      · rw [(old h1 e).2] at hy
        exact h.low x h1 e y hy
      · obtain rfl : x = (N.length : Int) + 1 := by omega
        rw [parts_end] at hy
        have := hn.low y hy
        omega
    two := fun x hk => by
      rcases at' (by rw [hk]; decide) with ⟨h1, h2⟩ | rfl
      · rw [(old h1 h2).1] at hk
        rw [(old h1 h2).2]
        exact ⟨(h.two x hk).1, fun y hy => kin (by decide) ((h.two x hk).2 y hy)⟩
      · rw [kind_end] at hk
        rw [parts_end]
        exact ⟨(hn.two hk).1, fun y hy => kin (by decide) ((hn.two hk).2 y hy)⟩
    one := fun x hk => by
      rcases at' (by rw [hk]; decide) with ⟨h1, h2⟩ | rfl
      · rw [(old h1 h2).1] at hk
        rw [(old h1 h2).2]
        exact ⟨(h.one x hk).1, fun y hy => kin (by decide) ((h.one x hk).2 y hy)⟩
      · rw [kind_end] at hk
        rw [parts_end]
        exact ⟨(hn.one hk).1, fun y hy => kin (by decide) ((hn.one hk).2 y hy)⟩
    sig := fun x hk => by
      rcases at' (by rw [hk]; decide) with ⟨h1, h2⟩ | rfl
      · rw [(old h1 h2).1] at hk
        rw [(old h1 h2).2]
        exact h.sig x hk
      · rw [kind_end] at hk
        rw [parts_end]
        exact hn.sig hk
    sea := fun x hk => by
      rcases at' (by rw [hk]; decide) with ⟨h1, h2⟩ | rfl
      · rw [(old h1 h2).1] at hk
        rw [(old h1 h2).2]
        exact h.sea x hk
      · rw [kind_end] at hk
        rw [parts_end]
        exact hn.sea hk
    sixteen := fun x => by
      have hs := h.sixteen x
      unfold partsN at hs ⊢
      by_cases e : (x - 1).toNat < N.length
      · rw [List.getElem?_append_left e]; exact hs
      · rw [List.getElem?_append_right (by omega)]
        have h16 := hn.sixteen
        cases hq : ([n] : List Nd)[(x - 1).toNat - N.length]? with
        | none => simp
        | some m =>
          have : m = n := by
            have := List.mem_of_getElem? hq
            simpa using this
          subst this
          simpa using h16
    pub := fun x y hx hy hp => by
      rcases at' (x := x) (by rw [hx]; decide) with ⟨h1, h2⟩ | rfl <;> rcases at' (x := y) (by rw [hy]; decide) with ⟨g1, g2⟩ | rfl
      · rw [(old h1 h2).1] at hx
        rw [(old g1 g2).1] at hy
        rw [(old h1 h2).2, (old g1 g2).2] at hp
        exact h.pub x y hx hy hp
      · rw [(old h1 h2).1] at hx
        rw [kind_end] at hy
        rw [(old h1 h2).2, parts_end] at hp
        exact absurd hp (hn.pub hy x hx)
      · rw [(old g1 g2).1] at hy
        rw [kind_end] at hx
        rw [(old g1 g2).2, parts_end] at hp
        exact absurd hp.symm (hn.pub hx y hy)
      · rfl
    few := by have := hn.room; simp; omega }
#print axioms Wf.put
end Go.Proofs.Ytmplcibaoanlnaa
namespace Go.Proofs.Ytmplcibaoanlnaa
open Go Go.RowKit

/-- Public ones have no text. -/
def Bare (N : List Nd) : Prop := ∀ m ∈ N, m.1 = 7 → m.2.1 = ByteArray.empty
theorem fits_parts {N : List Nd} {k : Int} {ps : List Int} (hf : fitsN N k ps = true) : ∃ l, askL k ps.length = some l ∧ l.length = ps.length ∧ ∀ j, j < ps.length → (1 ≤ ps.getD j 0 ∧ ps.getD j 0 ≤ (N.length : Int)) ∧ (l.getD j 0 = 0 ∨ l.getD j 0 = kindN N (ps.getD j 0)) := by
  unfold fitsN at hf
  cases ha : askL k ps.length with
  | none => rw [ha] at hf; cases hf
  | some l =>
    rw [ha] at hf
    simp only [Bool.and_eq_true, decide_eq_true_eq, List.all_eq_true, List.mem_range] at hf
    refine ⟨l, rfl, hf.1, fun j hj => ?_⟩
    have := hf.2 j hj
    unfold okN at this
    simpa only [Bool.and_eq_true, Bool.or_eq_true, decide_eq_true_eq] using this
theorem idx_none {N : List Nd} {n : Nd} : ∀ {i : Int}, idxN i N n = none → ∀ m ∈ N, ¬ (m.1 = n.1 ∧ m.2.1 = n.2.1 ∧ pad m.2.2 = pad n.2.2 ∧ n.1 ≠ 2) := by
  induction N with
  | nil => intro i _ m hm; cases hm
  | cons a r ih =>
    intro i h m hm
    unfold idxN at h
    split at h
    · cases h
    · rename_i hne
      rcases List.mem_cons.1 hm with e | e
      · rw [e]; exact hne
      · exact ih h m e
theorem mem_at {ps : List Int} {p : Int} (h : p ∈ ps) : ∃ j, j < ps.length ∧ ps.getD j 0 = p := by
  obtain ⟨j, hj, e⟩ := List.mem_iff_getElem.1 h
  exact ⟨j, hj, by simp [hj, e]⟩
theorem Next.make {N : List Nd} (hN : Wf N) (hB : Bare N) {k : Int} {ps : List Int} (hf : fitsN N k ps = true) (hi : idxN 1 N (k, ByteArray.empty, mkN N k ps) = none) (hr : N.length < 65536) : Next N (k, ByteArray.empty, mkN N k ps) := by
  obtain ⟨l, ha, hl, hp⟩ := fits_parts hf
  obtain ⟨q1, q2, q3, q4, q5⟩ := askL_kind ha
  by_cases k8 : k = 8
  · subst k8
    have hl2 := q5 rfl
    subst hl2
    have h2 : ps.length = 2 := hl.symm
    obtain ⟨a, b, rfl⟩ : ∃ a b, ps = [a, b] := by
      match ps, h2 with
      | [a, b], _ => exact ⟨a, b, rfl⟩
    have p0 := hp 0 (by simp)
    have p1 := hp 1 (by simp)
    simp only [List.getD_cons_zero, List.getD_cons_succ] at p0 p1
    have ka : kindN N a = 2 := by rcases p0.2 with e | e; exact absurd e (by decide); exact e.symm
    have kb : kindN N b = 7 := by rcases p1.2 with e | e; exact absurd e (by decide); exact e.symm
    have ob := hN.one b kb
    obtain ⟨o, ho⟩ : ∃ o, partsN N b = [o] := by
      match hq : partsN N b, ob.1 with
      | [o], _ => exact ⟨o, rfl⟩
    have ko : kindN N o = 2 := ob.2 o (by rw [ho]; simp)
    have hmk : mkN N 8 [a, b] = [min a o, max a o] := by unfold mkN; simp [ho]
    rw [hmk]
    have hk : ∀ p ∈ [min a o, max a o], kindN N p = 2 := fun p hp => by
      have : p = a ∨ p = o := by simp at hp; omega
      rcases this with rfl | rfl
      · exact ka
      · exact ko
    exact ⟨fun p hp => kind_in (by rw [hk p hp]; decide), fun _ => ⟨rfl, hk⟩, fun e => absurd (show (8 : Int) = 7 from e) (by decide), fun e => absurd (show (8 : Int) = 9 from e) (by decide), fun e => absurd (show (8 : Int) = 10 from e) (by decide), by simp, fun e => absurd (show (8 : Int) = 7 from e) (by decide), hr⟩
  · have hmk : mkN N k ps = ps := by unfold mkN; rw [if_neg k8]
    rw [hmk] at hi ⊢
    refine ⟨fun p hm => ?_, fun e => absurd e k8, fun e => ?_, fun e => ?_, fun e => ?_, q3 hl, fun e x hx he => ?_, hr⟩
    · obtain ⟨j, hj, rfl⟩ := mem_at hm
      exact (hp j hj).1
    · have e' : k = 7 := e
      subst e'
      have hl1 : ps.length = 1 := by rw [← hl]; exact q4 rfl
      refine ⟨hl1, fun p hm => ?_⟩
      obtain ⟨j, hj, rfl⟩ := mem_at (ps := ps) hm
      have hA : askL 7 ps.length = some [2] := rfl
      rw [hA] at ha
      cases ha
      have hj0 : j = 0 := by omega
      subst hj0
      rcases (hp 0 hj).2 with e | e
      · exact absurd e (by decide)
      · exact e.symm
    · have e' : k = 9 := e
      subst e'
      have hA : askL 9 ps.length = some [2, 0] := rfl
      rw [hA] at ha
      cases ha
      exact hl.symm
    · have e' : k = 10 := e
      subst e'
      have hA : askL 10 ps.length = some [0, 1, 0] := rfl
      rw [hA] at ha
      cases ha
      exact hl.symm
    · have e' : k = 7 := e
      have hin := kind_in (x := x) (by rw [hx]; decide)
      have hlt : (x - 1).toNat < N.length := by omega
      have hk2 : kindN N x = N[(x - 1).toNat].1 := by unfold kindN; rw [if_neg (by omega), List.getElem?_eq_getElem hlt]
      have hp2 : partsN N x = N[(x - 1).toNat].2.2 := by unfold partsN; rw [List.getElem?_eq_getElem hlt]
      have h7 : N[(x - 1).toNat].1 = 7 := by rw [← hk2]; exact hx
      refine idx_none hi N[(x - 1).toNat] (List.getElem_mem hlt) ⟨by rw [h7]; exact e'.symm, hB _ (List.getElem_mem hlt) h7, ?_, by show k ≠ 2; omega⟩
      show pad N[(x - 1).toNat].2.2 = pad ps
      rw [← hp2, he]
#print axioms Next.make
end Go.Proofs.Ytmplcibaoanlnaa
namespace Go.Proofs.Ytmplcibaoanlnaa
open Go Go.RowKit

theorem Next.plain {N : List Nd} {n : Nd} (h : n.1 = 1 ∨ n.1 = 2) (hp : n.2.2 = []) (hr : N.length < 65536) : Next N n := by
  refine ⟨fun p hm => ?_, fun e => ?_, fun e => ?_, fun e => ?_, fun e => ?_, by rw [hp]; simp, fun e => ?_, hr⟩
  · rw [hp] at hm; cases hm
  all_goals omega
theorem Bare.nil : Bare [] := fun m h => by cases h
theorem Bare.put {N : List Nd} (h : Bare N) {n : Nd} (hn : n.1 = 7 → n.2.1 = ByteArray.empty) : Bare (N ++ [n]) := fun m hm h7 => by
  rcases List.mem_append.1 hm with e | e
  · exact h m e h7
  · rw [List.mem_singleton] at e
    subst e
    exact hn h7
theorem Wf.nil' : Wf ([] : List Nd) where
  low := fun x h1 h2 => by simp at h2; omega
  two := fun x h => by have := kind_in (N := []) (x := x) (by rw [h]; decide); simp at this; omega
  one := fun x h => by have := kind_in (N := []) (x := x) (by rw [h]; decide); simp at this; omega
  sig := fun x h => by have := kind_in (N := []) (x := x) (by rw [h]; decide); simp at this; omega
  sea := fun x h => by have := kind_in (N := []) (x := x) (by rw [h]; decide); simp at this; omega
  sixteen := fun x => by simp [partsN]
  pub := fun x y h => by have := kind_in (N := []) (x := x) (by rw [h]; decide); simp at this; omega
  few := by simp
/-- A table as the program makes them. -/
structure Good (N : List Nd) : Prop where
  wf : Wf N
  bare : Bare N
theorem Good.nil : Good [] := ⟨Wf.nil', Bare.nil⟩
theorem Good.secret {N : List Nd} (h : Good N) (hr : N.length < 65536) : Good (N ++ [secretNd]) := ⟨h.wf.put (.plain (.inr rfl) rfl hr), h.bare.put fun e => absurd (show (2 : Int) = 7 from e) (by decide)⟩
theorem Good.text {N : List Nd} (h : Good N) (s : ByteArray) (hr : N.length < 65536) : Good (N ++ [(1, s, [])]) := ⟨h.wf.put (.plain (.inl rfl) rfl hr), h.bare.put fun e => absurd (show (1 : Int) = 7 from e) (by decide)⟩
theorem Good.make {N : List Nd} (h : Good N) {k : Int} {ps : List Int} (hf : fitsN N k ps = true) (hi : idxN 1 N (k, ByteArray.empty, mkN N k ps) = none) (hr : N.length < 65536) : Good (N ++ [(k, ByteArray.empty, mkN N k ps)]) := ⟨h.wf.put (.make h.wf h.bare hf hi hr), h.bare.put fun _ => rfl⟩
#print axioms Good.make
end Go.Proofs.Ytmplcibaoanlnaa
