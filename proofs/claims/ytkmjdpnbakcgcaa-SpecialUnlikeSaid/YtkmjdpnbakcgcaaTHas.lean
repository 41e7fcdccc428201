/- Which term has which number, in plain words: what is put is there, stays there, and is found again. -/
import Derived.Test.YtkmjdpnbakcgcaaTIdSeal
namespace Go.Proofs.Ytkmjdpnbakcgcaa.T
open Go Go.RowKit

def GoodN (N : List Nd) : Prop := ∀ m ∈ N, ∀ p ∈ m.2.2, 1 ≤ p
/-- The term n has the number c. -/
structure Has (N : List Nd) (c : Int) (n : Nd) : Prop where
  pos : 1 ≤ c
  at' : N[(c - 1).toNat]? = some n
  idx : idxN 1 N n = some c

theorem idxN_app (N M : List Nd) (n : Nd) (i c : Int) (h : idxN i N n = some c) : idxN i (N ++ M) n = some c := by
  induction N generalizing i with
  | nil => cases h
  | cons m r ih =>
    simp only [List.cons_append]
    unfold idxN at h ⊢
    split
    · rename_i hc; rw [if_pos hc] at h; exact h
    · rename_i hc; rw [if_neg hc] at h; exact ih _ h
theorem idxN_end (N : List Nd) (n : Nd) (hn : n.1 ≠ 2) (i : Int) (h : idxN i N n = none) : idxN i (N ++ [n]) n = some (i + N.length) := by
  induction N generalizing i with
  | nil => simp [idxN, hn]
  | cons m r ih =>
    simp only [List.cons_append]
    unfold idxN at h ⊢
    split at h
    · cases h
    · rename_i hc
      rw [if_neg hc, ih _ h]
      simp; omega
theorem idxN_at (N : List Nd) (n : Nd) (i c : Int) (h : idxN i N n = some c) : ∃ m, i ≤ c ∧ N[(c - i).toNat]? = some m ∧ m.1 = n.1 ∧ m.2.1 = n.2.1 ∧ pad m.2.2 = pad n.2.2 := by
  induction N generalizing i with
  | nil => cases h
  | cons m r ih =>
    unfold idxN at h
    split at h
    · rename_i hc
      cases h
      exact ⟨m, Int.le_refl _, by simp, hc.1, hc.2.1, hc.2.2.1⟩
    · obtain ⟨m', h1, h2, h3⟩ := ih _ h
      refine ⟨m', by omega, ?_, h3⟩
      rw [show (c - i).toNat = (c - (i + 1)).toNat + 1 by omega]
      simpa using h2

theorem Has.ext {N : List Nd} {c : Int} {n : Nd} (h : Has N c n) {M : List Nd} (hp : N <+: M) : Has M c n := by
  obtain ⟨r, rfl⟩ := hp
  refine ⟨h.pos, ?_, idxN_app N r n 1 c h.idx⟩
  have hlt := (List.getElem?_eq_some_iff.1 h.at').1
  rw [List.getElem?_append_left hlt]
  exact h.at'
theorem Has.node {N : List Nd} {c : Int} {n n' : Nd} (h : Has N c n) (h' : Has N c n') : n = n' := Option.some.inj (h.at'.symm.trans h'.at')
theorem Has.num {N : List Nd} {c c' : Int} {n : Nd} (h : Has N c n) (h' : Has N c' n) : c = c' := Option.some.inj (h.idx.symm.trans h'.idx)
theorem Has.le {N : List Nd} {c : Int} {n : Nd} (h : Has N c n) : c ≤ (N.length : Int) := by
  have hlt := (List.getElem?_eq_some_iff.1 h.at').1
  have := h.pos
  omega
theorem Has.kind {N : List Nd} {c : Int} {n : Nd} (h : Has N c n) : kindN N c = n.1 := by
  unfold kindN
  rw [if_neg (by have := h.pos; omega), h.at']
theorem Has.put {N : List Nd} {c : Int} {n : Nd} (h : Has N c n) : putN N n = (c, N) := putN_old h.idx

/-- What is put is there. -/
theorem put_has {N : List Nd} (hN : GoodN N) {n : Nd} (hn : n.1 ≠ 2) (hp : ∀ p ∈ n.2.2, 1 ≤ p) :
    Has (putN N n).2 (putN N n).1 n ∧ N <+: (putN N n).2 ∧ GoodN (putN N n).2 := by
  cases hc : idxN 1 N n with
  | some c =>
    rw [putN_old hc]
    obtain ⟨m, h1, h2, h3, h4, h5⟩ := idxN_at N n 1 c hc
    have hm : m = n := by
      have : m.2.2 = n.2.2 := pad_inj (hN m (List.mem_of_getElem? h2)) hp h5
      exact Prod.ext h3 (Prod.ext h4 this)
    subst hm
    exact ⟨⟨h1, h2, hc⟩, List.prefix_rfl, hN⟩
  | none =>
    rw [putN_new hc]
    refine ⟨⟨by omega, ?_, ?_⟩, List.prefix_append _ _, fun m hm => ?_⟩
    · simp
    · rw [idxN_end N n hn 1 hc]; congr 1; omega
    · rcases List.mem_append.1 hm with hm | hm
      · exact hN m hm
      · obtain rfl := List.mem_singleton.1 hm
        exact hp
theorem text_has {N : List Nd} (hN : GoodN N) (s : ByteArray) : Has (textN N s).2 (textN N s).1 (1, s, []) ∧ N <+: (textN N s).2 ∧ GoodN (textN N s).2 :=
  put_has hN (show (1 : Int) ≠ 2 by decide) (fun p hp => by cases hp)
theorem make_has {N : List Nd} (hN : GoodN N) {k : Int} {ps : List Int} (hk : k ≠ 2) (hk8 : k ≠ 8) (hf : fitsN N k ps = true) (hp : ∀ p ∈ ps, 1 ≤ p) :
    Has (makeN N k ps).2 (makeN N k ps).1 (k, ByteArray.empty, ps) ∧ N <+: (makeN N k ps).2 ∧ GoodN (makeN N k ps).2 := by
  unfold makeN
  rw [if_pos hf]
  have e : mkN N k ps = ps := if_neg hk8
  rw [e]
  exact put_has hN hk hp
theorem fits3 {N : List Nd} {k a b c : Int} (hk : k = 6 ∨ k = 10) (ha : 1 ≤ a ∧ a ≤ (N.length : Int)) (hc : 1 ≤ c ∧ c ≤ (N.length : Int)) {s : ByteArray} (hb : Has N b (1, s, [])) : fitsN N k [a, b, c] = true := by
  have hb1 := hb.pos
  have hb2 := hb.le
  have hb3 : kindN N b = 1 := hb.kind
  have hask : askL k 3 = some [0, 1, 0] := by rcases hk with rfl | rfl <;> rfl
  unfold fitsN
  simp only [List.length_cons, List.length_nil, Nat.zero_add, Nat.reduceAdd, hask]
  simp [List.range_succ, okN, ha, hc, hb1, hb2, hb3]

/-- What Derive leaves. -/
theorem derive_has {N : List Nd} (hN : GoodN N) {s : Int} (hs : 1 ≤ s ∧ s ≤ (N.length : Int)) (label : ByteArray) {c : Int} (hc : 1 ≤ c ∧ c ≤ (N.length : Int)) :
    ∃ l, Has (deriveN N s label c).2 l (1, label, []) ∧ Has (deriveN N s label c).2 (deriveN N s label c).1 (6, ByteArray.empty, [s, l, c]) ∧ N <+: (deriveN N s label c).2 ∧ GoodN (deriveN N s label c).2 := by
  obtain ⟨h1, h2, h3⟩ := text_has hN label
  have hl := h2.length_le
  unfold deriveN
  rw [if_neg (by omega)]
  have hf := fits3 (k := 6) (.inl rfl) (a := s) (c := c) ⟨hs.1, by omega⟩ ⟨hc.1, by omega⟩ h1
  obtain ⟨g1, g2, g3⟩ := make_has h3 (by decide) (by decide) hf (by
    intro p hp
    simp only [List.mem_cons, List.not_mem_nil, or_false] at hp
    have := h1.pos
    rcases hp with rfl | rfl | rfl <;> omega)
  exact ⟨_, h1.ext g2, g1, h2.trans g2, g3⟩
theorem derive0 {N : List Nd} (s : Int) (label : ByteArray) {e : Int} (he : e ≠ 0) : deriveN N s label 0 = if (textN N ByteArray.empty).1 = e then deriveN (textN N ByteArray.empty).2 s label e else deriveN N s label 0 := by
  split
  · rename_i h
    subst h
    unfold deriveN
    rw [if_pos rfl, if_neg he]
  · rfl
/-- With the context 0 it is that of the empty text. -/
theorem derive0_has {N : List Nd} (hN : GoodN N) {s : Int} (hs : 1 ≤ s ∧ s ≤ (N.length : Int)) (label : ByteArray) :
    ∃ l e, Has (deriveN N s label 0).2 e (1, ByteArray.empty, []) ∧ Has (deriveN N s label 0).2 l (1, label, []) ∧ Has (deriveN N s label 0).2 (deriveN N s label 0).1 (6, ByteArray.empty, [s, l, e]) ∧ N <+: (deriveN N s label 0).2 ∧ GoodN (deriveN N s label 0).2 := by
  obtain ⟨h1, h2, h3⟩ := text_has hN ByteArray.empty
  have hl := h2.length_le
  have hp := h1.pos
  have e0 := derive0 (N := N) s label (e := (textN N ByteArray.empty).1) (by omega)
  rw [if_pos rfl] at e0
  rw [e0]
  obtain ⟨l, g1, g2, g3, g4⟩ := derive_has h3 (s := s) ⟨hs.1, by omega⟩ label (c := (textN N ByteArray.empty).1) ⟨hp, h1.le⟩
  exact ⟨l, _, h1.ext g3, g1, g2, h2.trans g3, g4⟩
/-- What Seal leaves. -/
theorem seal_has {N : List Nd} (hN : GoodN N) {key content : Int} (hk : 1 ≤ key ∧ key ≤ (N.length : Int)) (hc : 1 ≤ content ∧ content ≤ (N.length : Int)) (head : ByteArray) :
    ∃ h, Has (sealN N key head content).2 h (1, head, []) ∧ Has (sealN N key head content).2 (sealN N key head content).1 (10, ByteArray.empty, [key, h, content]) ∧ N <+: (sealN N key head content).2 ∧ GoodN (sealN N key head content).2 := by
  obtain ⟨h1, h2, h3⟩ := text_has hN head
  have hl := h2.length_le
  unfold sealN
  have hf := fits3 (k := 10) (.inr rfl) (a := key) (c := content) ⟨hk.1, by omega⟩ ⟨hc.1, by omega⟩ h1
  obtain ⟨g1, g2, g3⟩ := make_has h3 (by decide) (by decide) hf (by
    intro p hp
    simp only [List.mem_cons, List.not_mem_nil, or_false] at hp
    have := h1.pos
    rcases hp with rfl | rfl | rfl <;> omega)
  exact ⟨_, h1.ext g2, g1, h2.trans g2, g3⟩
theorem derive_len (N : List Nd) (s : Int) (label : ByteArray) (c : Int) : (deriveN N s label c).2.length ≤ N.length + 3 := by
  unfold deriveN
  split
  · have h1 := (putN_len N (1, ByteArray.empty, [])).2
    have h2 := (putN_len (textN N ByteArray.empty).2 (1, label, [])).2
    have h3 := (makeN_len (textN (textN N ByteArray.empty).2 label).2 6 [s, (textN (textN N ByteArray.empty).2 label).1, (textN N ByteArray.empty).1]).2
    unfold textN at *
    omega
  · have h2 := (putN_len N (1, label, [])).2
    have h3 := (makeN_len (textN N label).2 6 [s, (textN N label).1, c]).2
    unfold textN at *
    omega
theorem seal_len (N : List Nd) (key : Int) (head : ByteArray) (c : Int) : (sealN N key head c).2.length ≤ N.length + 2 := by
  unfold sealN
  have h2 := (putN_len N (1, head, [])).2
  have h3 := (makeN_len (textN N head).2 10 [key, (textN N head).1, c]).2
  unfold textN at *
  omega
#print axioms derive0_has
#print axioms seal_has
end Go.Proofs.Ytkmjdpnbakcgcaa.T
