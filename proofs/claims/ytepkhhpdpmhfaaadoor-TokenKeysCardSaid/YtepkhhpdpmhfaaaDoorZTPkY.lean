/- A secret, a text may be put behind a table; public ones stay without text. -/
import Derived.Test.YtepkhhpdpmhfaaaDoorZTPkW
namespace Go.Proofs.YtepkhhpdpmhfaaaDoor.T
open Go Go.RowKit

/-- Public ones have no text. -/
def Bare (N : List Nd) : Prop := ∀ m ∈ N, m.1 = 7 → m.2.1 = ByteArray.empty
theorem fits_parts {N : List Nd} {k : Int} {ps : List Int} (hf : fitsN N k ps = true) : ∃ l, askL k ps.length = some l ∧ l.length = ps.length ∧ ∀ j, j < ps.length → (1 ≤ ps.getD j 0 ∧ ps.getD j 0 ≤ (N.length : Int)) ∧ (l.getD j 0 = 0 ∨ l.getD j 0 = kindN N (ps.getD j 0)) := by
  unfold fitsN at hf
  cases ha : askL k ps.length with
  | none => rw [ha] at hf; cases hf
  | some l =>
    rw [ha] at hf
    simp only [Bool.and_eq_true, decide_eq_true_eq, List.all_eq_true, List.mem_range] at hf
    refine ⟨l, rfl, hf.1, fun j hj => ?_⟩
    have := hf.2 j hj
    unfold okN at this
    simpa only [Bool.and_eq_true, Bool.or_eq_true, decide_eq_true_eq] using this
theorem idx_none {N : List Nd} {n : Nd} : ∀ {i : Int}, idxN i N n = none → ∀ m ∈ N, ¬ (m.1 = n.1 ∧ m.2.1 = n.2.1 ∧ pad m.2.2 = pad n.2.2 ∧ n.1 ≠ 2) := by
  induction N with
  | nil => intro i _ m hm; cases hm
  | cons a r ih =>
    intro i h m hm
    unfold idxN at h
    split at h
    · cases h
    · rename_i hne
      rcases List.mem_cons.1 hm with e | e
      · rw [e]; exact hne
      · exact ih h m e
theorem mem_at {ps : List Int} {p : Int} (h : p ∈ ps) : ∃ j, j < ps.length ∧ ps.getD j 0 = p := by
  obtain ⟨j, hj, e⟩ := List.mem_iff_getElem.1 h
  exact ⟨j, hj, by simp [hj, e]⟩
theorem Next.make {N : List Nd} (hN : Wf N) (hB : Bare N) {k : Int} {ps : List Int} (hf : fitsN N k ps = true) (hi : idxN 1 N (k, ByteArray.empty, mkN N k ps) = none) (hr : N.length < 65536) : Next N (k, ByteArray.empty, mkN N k ps) := by
  obtain ⟨l, ha, hl, hp⟩ := fits_parts hf
  obtain ⟨q1, q2, q3, q4, q5⟩ := askL_kind ha
  by_cases k8 : k = 8
  · subst k8
    have hl2 := q5 rfl
    subst hl2
    have h2 : ps.length = 2 := hl.symm
    obtain ⟨a, b, rfl⟩ : ∃ a b, ps = [a, b] := by
      match ps, h2 with
      | [a, b], _ => exact ⟨a, b, rfl⟩
    have p0 := hp 0 (by simp)
    have p1 := hp 1 (by simp)
    simp only [List.getD_cons_zero, List.getD_cons_succ] at p0 p1
    have ka : kindN N a = 2 := by rcases p0.2 with e | e; exact absurd e (by decide); exact e.symm
    have kb : kindN N b = 7 := by rcases p1.2 with e | e; exact absurd e (by decide); exact e.symm
    have ob := hN.one b kb
    obtain ⟨o, ho⟩ : ∃ o, partsN N b = [o] := by
      match hq : partsN N b, ob.1 with
      | [o], _ => exact ⟨o, rfl⟩
    have ko : kindN N o = 2 := ob.2 o (by rw [ho]; simp)
    have hmk : mkN N 8 [a, b] = [min a o, max a o] := by unfold mkN; simp [ho]
    rw [hmk]
    have hk : ∀ p ∈ [min a o, max a o], kindN N p = 2 := fun p hp => by
      have : p = a ∨ p = o := by simp at hp; omega
      rcases this with rfl | rfl
      · exact ka
      · exact ko
    exact ⟨fun p hp => kind_in (by rw [hk p hp]; decide), fun _ => ⟨rfl, hk⟩, fun e => absurd (show (8 : Int) = 7 from e) (by decide), fun e => absurd (show (8 : Int) = 9 from e) (by decide), fun e => absurd (show (8 : Int) = 10 from e) (by decide), by simp, fun e => absurd (show (8 : Int) = 7 from e) (by decide), hr⟩
  · have hmk : mkN N k ps = ps := by unfold mkN; rw [if_neg k8]
    rw [hmk] at hi ⊢
    refine ⟨fun p hm => ?_, fun e => absurd e k8, fun e => ?_, fun e => ?_, fun e => ?_, q3 hl, fun e x hx he => ?_, hr⟩
    · obtain ⟨j, hj, rfl⟩ := mem_at hm
      exact (hp j hj).1
    · have e' : k = 7 := e
      subst e'
      have hl1 : ps.length = 1 := by rw [← hl]; exact q4 rfl
      refine ⟨hl1, fun p hm => ?_⟩
      obtain ⟨j, hj, rfl⟩ := mem_at (ps := ps) hm
      have hA : askL 7 ps.length = some [2] := rfl
      rw [hA] at ha
      cases ha
      have hj0 : j = 0 := by omega
      subst hj0
      rcases (hp 0 hj).2 with e | e
      · exact absurd e (by decide)
      · exact e.symm
    · have e' : k = 9 := e
      subst e'
      have hA : askL 9 ps.length = some [2, 0] := rfl
      rw [hA] at ha
      cases ha
      exact hl.symm
    · have e' : k = 10 := e
      subst e'
      have hA : askL 10 ps.length = some [0, 1, 0] := rfl
      rw [hA] at ha
      cases ha
      exact hl.symm
    · have e' : k = 7 := e
      have hin := kind_in (x := x) (by rw [hx]; decide)
      have hlt : (x - 1).toNat < N.length := by omega
      have hk2 : kindN N x = N[(x - 1).toNat].1 := by unfold kindN; rw [if_neg (by omega), List.getElem?_eq_getElem hlt]
      have hp2 : partsN N x = N[(x - 1).toNat].2.2 := by unfold partsN; rw [List.getElem?_eq_getElem hlt]
      have h7 : N[(x - 1).toNat].1 = 7 := by rw [← hk2]; exact hx
      refine idx_none hi N[(x - 1).toNat] (List.getElem_mem hlt) ⟨by rw [h7]; exact e'.symm, hB _ (List.getElem_mem hlt) h7, ?_, by show k ≠ 2; omega⟩
      show pad N[(x - 1).toNat].2.2 = pad ps
      rw [← hp2, he]
#print axioms Next.make
end Go.Proofs.YtepkhhpdpmhfaaaDoor.T
namespace Go.Proofs.YtepkhhpdpmhfaaaDoor.T
open Go Go.RowKit

theorem Next.plain {N : List Nd} {n : Nd} (h : n.1 = 1 ∨ n.1 = 2) (hp : n.2.2 = []) (hr : N.length < 65536) : Next N n := by
  refine ⟨fun p hm => ?_, fun e => ?_, fun e => ?_, fun e => ?_, fun e => ?_, by rw [hp]; simp, fun e => ?_, hr⟩
  · rw [hp] at hm; cases hm
  all_goals omega
theorem Bare.nil : Bare [] := fun m h => by cases h
theorem Bare.put {N : List Nd} (h : Bare N) {n : Nd} (hn : n.1 = 7 → n.2.1 = ByteArray.empty) : Bare (N ++ [n]) := fun m hm h7 => by
  rcases List.mem_append.1 hm with e | e
  · exact h m e h7
  · rw [List.mem_singleton] at e
    subst e
    exact hn h7
theorem Wf.nil' : Wf ([] : List Nd) where
  low := fun x h1 h2 => by simp at h2; omega
  two := fun x h => by have := kind_in (N := []) (x := x) (by rw [h]; decide); simp at this; omega
  one := fun x h => by have := kind_in (N := []) (x := x) (by rw [h]; decide); simp at this; omega
  sig := fun x h => by have := kind_in (N := []) (x := x) (by rw [h]; decide); simp at this; omega
  sea := fun x h => by have := kind_in (N := []) (x := x) (by rw [h]; decide); simp at this; omega
  sixteen := fun x => by simp [partsN]
  pub := fun x y h => by have := kind_in (N := []) (x := x) (by rw [h]; decide); simp at this; omega
  few := by simp
/-- A table as the program makes them. -/
structure Good (N : List Nd) : Prop where
  wf : Wf N
  bare : Bare N
theorem Good.nil : Good [] := ⟨Wf.nil', Bare.nil⟩
theorem Good.secret {N : List Nd} (h : Good N) (hr : N.length < 65536) : Good (N ++ [secretNd]) := ⟨h.wf.put (.plain (.inr rfl) rfl hr), h.bare.put fun e => absurd (show (2 : Int) = 7 from e) (by decide)⟩
theorem Good.text {N : List Nd} (h : Good N) (s : ByteArray) (hr : N.length < 65536) : Good (N ++ [(1, s, [])]) := ⟨h.wf.put (.plain (.inl rfl) rfl hr), h.bare.put fun e => absurd (show (1 : Int) = 7 from e) (by decide)⟩
theorem Good.make {N : List Nd} (h : Good N) {k : Int} {ps : List Int} (hf : fitsN N k ps = true) (hi : idxN 1 N (k, ByteArray.empty, mkN N k ps) = none) (hr : N.length < 65536) : Good (N ++ [(k, ByteArray.empty, mkN N k ps)]) := ⟨h.wf.put (.make h.wf h.bare hf hi hr), h.bare.put fun _ => rfl⟩
#print axioms Good.make
end Go.Proofs.YtepkhhpdpmhfaaaDoor.T
