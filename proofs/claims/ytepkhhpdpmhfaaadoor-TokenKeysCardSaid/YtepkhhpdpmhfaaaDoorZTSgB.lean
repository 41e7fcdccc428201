/- The table beside guests: blocks of others, which the table's calls leave as they are. -/
import Derived.Test.YtepkhhpdpmhfaaaDoorZTIdSeal
import Derived.Test.YtepkhhpdpmhfaaaDoorZTPkY
import Derived.Laws.Strings
import Derived.Test.YtepkhhpdpmhfaaaDoorZTMgA
import Derived.Lib.SlBytesConst
import Derived.Lib.SmallJoins
namespace Go.Proofs.YtepkhhpdpmhfaaaDoor.T
open Go Go.RowKit

/-- Texts have no parts. -/
def Txt (N : List Nd) : Prop := ∀ m ∈ N, m.1 = 1 → m.2.2 = []
theorem Txt.app {N : List Nd} (h : Txt N) {n : Nd} (hn : n.1 = 1 → n.2.2 = []) : Txt (N ++ [n]) := fun m hm h1 => by
  rcases List.mem_append.1 hm with e | e
  · exact h m e h1
  · rw [List.mem_singleton] at e; subst e; exact hn h1
theorem fits1 {N : List Nd} {k : Int} {ps : List Int} (hf : fitsN N k ps = true) : k ≠ 1 := by
  intro e
  subst e
  unfold fitsN at hf
  have : askL 1 ps.length = none := rfl
  rw [this] at hf
  cases hf
/-- Nodes as the program's calls make them. -/
structure GoodN (N : List Nd) : Prop where
  pos : ∀ m ∈ N, ∀ p ∈ m.2.2, 1 ≤ p
  fit : N.length ≤ 65536 → Good N ∧ Txt N
theorem GoodN.app {N : List Nd} (h : GoodN N) {n : Nd} (hp : ∀ p ∈ n.2.2, 1 ≤ p) (hg : N.length < 65536 → Good N → Good (N ++ [n])) (ht : n.1 = 1 → n.2.2 = []) : GoodN (N ++ [n]) :=
  ⟨fun m hm => by
    rcases List.mem_append.1 hm with hm | hm
    · exact h.pos m hm
    · obtain rfl := List.mem_singleton.1 hm
      exact hp, fun hl => by
    have hr : N.length < 65536 := by simp at hl; omega
    have g := h.fit (by omega)
    exact ⟨hg hr g.1, g.2.app ht⟩⟩
theorem good_nil : GoodN [] := ⟨fun m hm => (by cases hm), fun _ => ⟨Good.nil, fun m hm => (by cases hm)⟩⟩
theorem good_secret {N : List Nd} (h : GoodN N) : GoodN (N ++ [secretNd]) := h.app (fun p hp => by cases hp) (fun hr g => g.secret hr) fun e => absurd (show (2 : Int) = 1 from e) (by decide)
/-- The term n has the number c. -/
structure Has (N : List Nd) (c : Int) (n : Nd) : Prop where
  pos : 1 ≤ c
  at' : N[(c - 1).toNat]? = some n
  idx : idxN 1 N n = some c

theorem idxN_app (N M : List Nd) (n : Nd) (i c : Int) (h : idxN i N n = some c) : idxN i (N ++ M) n = some c := by
  induction N generalizing i with
  | nil => cases h
  | cons m r ih =>
    simp only [List.cons_append]
    unfold idxN at h ⊢
    split
    · rename_i hc; rw [if_pos hc] at h; exact h
    · rename_i hc; rw [if_neg hc] at h; exact ih _ h
theorem idxN_end (N : List Nd) (n : Nd) (hn : n.1 ≠ 2) (i : Int) (h : idxN i N n = none) : idxN i (N ++ [n]) n = some (i + N.length) := by
  induction N generalizing i with
  | nil => simp [idxN, hn]
  | cons m r ih =>
    simp only [List.cons_append]
    unfold idxN at h ⊢
    split at h
    · cases h
    · rename_i hc
      rw [if_neg hc, ih _ h]
      simp; omega
theorem idxN_at (N : List Nd) (n : Nd) (i c : Int) (h : idxN i N n = some c) : ∃ m, i ≤ c ∧ N[(c - i).toNat]? = some m ∧ m.1 = n.1 ∧ m.2.1 = n.2.1 ∧ pad m.2.2 = pad n.2.2 := by
  induction N generalizing i with
  | nil => cases h
  | cons m r ih =>
    unfold idxN at h
    split at h
    · rename_i hc
      cases h
      exact ⟨m, Int.le_refl _, by simp, hc.1, hc.2.1, hc.2.2.1⟩
    · obtain ⟨m', h1, h2, h3⟩ := ih _ h
      refine ⟨m', by omega, ?_, h3⟩
      rw [show (c - i).toNat = (c - (i + 1)).toNat + 1 by omega]
      simpa using h2

theorem Has.ext {N : List Nd} {c : Int} {n : Nd} (h : Has N c n) {M : List Nd} (hp : N <+: M) : Has M c n := by
  obtain ⟨r, rfl⟩ := hp
  refine ⟨h.pos, ?_, idxN_app N r n 1 c h.idx⟩
  have hlt := (List.getElem?_eq_some_iff.1 h.at').1
  rw [List.getElem?_append_left hlt]
  exact h.at'
theorem Has.node {N : List Nd} {c : Int} {n n' : Nd} (h : Has N c n) (h' : Has N c n') : n = n' := Option.some.inj (h.at'.symm.trans h'.at')
theorem Has.num {N : List Nd} {c c' : Int} {n : Nd} (h : Has N c n) (h' : Has N c' n) : c = c' := Option.some.inj (h.idx.symm.trans h'.idx)
theorem Has.le {N : List Nd} {c : Int} {n : Nd} (h : Has N c n) : c ≤ (N.length : Int) := by
  have hlt := (List.getElem?_eq_some_iff.1 h.at').1
  have := h.pos
  omega
theorem Has.kind {N : List Nd} {c : Int} {n : Nd} (h : Has N c n) : kindN N c = n.1 := by
  unfold kindN
  rw [if_neg (by have := h.pos; omega), h.at']
theorem Has.put {N : List Nd} {c : Int} {n : Nd} (h : Has N c n) : putN N n = (c, N) := putN_old h.idx

/-- What is put is there. -/
theorem put_has {N : List Nd} (hN : GoodN N) {n : Nd} (hn : n.1 ≠ 2) (hp : ∀ p ∈ n.2.2, 1 ≤ p) (hg : N.length < 65536 → Good N → idxN 1 N n = none → Good (N ++ [n])) (ht : n.1 = 1 → n.2.2 = []) :
    Has (putN N n).2 (putN N n).1 n ∧ N <+: (putN N n).2 ∧ GoodN (putN N n).2 := by
  cases hc : idxN 1 N n with
  | some c =>
    rw [putN_old hc]
    obtain ⟨m, h1, h2, h3, h4, h5⟩ := idxN_at N n 1 c hc
    have hm : m = n := by
      have : m.2.2 = n.2.2 := pad_inj (hN.pos m (List.mem_of_getElem? h2)) hp h5
      exact Prod.ext h3 (Prod.ext h4 this)
    subst hm
    exact ⟨⟨h1, h2, hc⟩, List.prefix_rfl, hN⟩
  | none =>
    rw [putN_new hc]
    refine ⟨⟨by omega, ?_, ?_⟩, List.prefix_append _ _, hN.app hp (fun hr g => hg hr g hc) ht⟩
    · simp
    · rw [idxN_end N n hn 1 hc]; congr 1; omega
theorem text_has {N : List Nd} (hN : GoodN N) (s : ByteArray) : Has (textN N s).2 (textN N s).1 (1, s, []) ∧ N <+: (textN N s).2 ∧ GoodN (textN N s).2 :=
  put_has hN (show (1 : Int) ≠ 2 by decide) (fun p hp => by cases hp) (fun hr g _ => g.text s hr) fun _ => rfl
theorem make_has {N : List Nd} (hN : GoodN N) {k : Int} {ps : List Int} (hk : k ≠ 2) (hk8 : k ≠ 8) (hf : fitsN N k ps = true) (hp : ∀ p ∈ ps, 1 ≤ p) :
    Has (makeN N k ps).2 (makeN N k ps).1 (k, ByteArray.empty, ps) ∧ N <+: (makeN N k ps).2 ∧ GoodN (makeN N k ps).2 := by
  unfold makeN
  rw [if_pos hf]
  have e : mkN N k ps = ps := if_neg hk8
  rw [e]
  exact put_has hN hk hp (fun hr g hi => by have := g.make hf (by rw [e]; exact hi) hr; rwa [e] at this) fun e => absurd e (fits1 hf)
theorem fits3 {N : List Nd} {k a b c : Int} (hk : k = 6 ∨ k = 10) (ha : 1 ≤ a ∧ a ≤ (N.length : Int)) (hc : 1 ≤ c ∧ c ≤ (N.length : Int)) {s : ByteArray} (hb : Has N b (1, s, [])) : fitsN N k [a, b, c] = true := by
  have hb1 := hb.pos
  have hb2 := hb.le
  have hb3 : kindN N b = 1 := hb.kind
  have hask : askL k 3 = some [0, 1, 0] := by rcases hk with rfl | rfl <;> rfl
  unfold fitsN
  simp only [List.length_cons, List.length_nil, Nat.zero_add, Nat.reduceAdd, hask]
  simp [List.range_succ, okN, ha, hc, hb1, hb2, hb3]

/-- What Derive leaves. -/
theorem derive_has {N : List Nd} (hN : GoodN N) {s : Int} (hs : 1 ≤ s ∧ s ≤ (N.length : Int)) (label : ByteArray) {c : Int} (hc : 1 ≤ c ∧ c ≤ (N.length : Int)) :
    ∃ l, Has (deriveN N s label c).2 l (1, label, []) ∧ Has (deriveN N s label c).2 (deriveN N s label c).1 (6, ByteArray.empty, [s, l, c]) ∧ N <+: (deriveN N s label c).2 ∧ GoodN (deriveN N s label c).2 := by
  obtain ⟨h1, h2, h3⟩ := text_has hN label
  have hl := h2.length_le
  unfold deriveN
  rw [if_neg (by omega)]
  have hf := fits3 (k := 6) (.inl rfl) (a := s) (c := c) ⟨hs.1, by omega⟩ ⟨hc.1, by omega⟩ h1
  obtain ⟨g1, g2, g3⟩ := make_has h3 (by decide) (by decide) hf (by
    intro p hp
    simp only [List.mem_cons, List.not_mem_nil, or_false] at hp
    have := h1.pos
    rcases hp with rfl | rfl | rfl <;> omega)
  exact ⟨_, h1.ext g2, g1, h2.trans g2, g3⟩
theorem derive0 {N : List Nd} (s : Int) (label : ByteArray) {e : Int} (he : e ≠ 0) : deriveN N s label 0 = if (textN N ByteArray.empty).1 = e then deriveN (textN N ByteArray.empty).2 s label e else deriveN N s label 0 := by
  split
  · rename_i h
    subst h
    unfold deriveN
    rw [if_pos rfl, if_neg he]
  · rfl
/-- With the context 0 it is that of the empty text. -/
theorem derive0_has {N : List Nd} (hN : GoodN N) {s : Int} (hs : 1 ≤ s ∧ s ≤ (N.length : Int)) (label : ByteArray) :
    ∃ l e, Has (deriveN N s label 0).2 e (1, ByteArray.empty, []) ∧ Has (deriveN N s label 0).2 l (1, label, []) ∧ Has (deriveN N s label 0).2 (deriveN N s label 0).1 (6, ByteArray.empty, [s, l, e]) ∧ N <+: (deriveN N s label 0).2 ∧ GoodN (deriveN N s label 0).2 := by
  obtain ⟨h1, h2, h3⟩ := text_has hN ByteArray.empty
  have hl := h2.length_le
  have hp := h1.pos
  have e0 := derive0 (N := N) s label (e := (textN N ByteArray.empty).1) (by omega)
  rw [if_pos rfl] at e0
  rw [e0]
  obtain ⟨l, g1, g2, g3, g4⟩ := derive_has h3 (s := s) ⟨hs.1, by omega⟩ label (c := (textN N ByteArray.empty).1) ⟨hp, h1.le⟩
  exact ⟨l, _, h1.ext g3, g1, g2, h2.trans g3, g4⟩
/-- What Seal leaves. -/
theorem seal_has {N : List Nd} (hN : GoodN N) {key content : Int} (hk : 1 ≤ key ∧ key ≤ (N.length : Int)) (hc : 1 ≤ content ∧ content ≤ (N.length : Int)) (head : ByteArray) :
    ∃ h, Has (sealN N key head content).2 h (1, head, []) ∧ Has (sealN N key head content).2 (sealN N key head content).1 (10, ByteArray.empty, [key, h, content]) ∧ N <+: (sealN N key head content).2 ∧ GoodN (sealN N key head content).2 := by
  obtain ⟨h1, h2, h3⟩ := text_has hN head
  have hl := h2.length_le
  unfold sealN
  have hf := fits3 (k := 10) (.inr rfl) (a := key) (c := content) ⟨hk.1, by omega⟩ ⟨hc.1, by omega⟩ h1
  obtain ⟨g1, g2, g3⟩ := make_has h3 (by decide) (by decide) hf (by
    intro p hp
    simp only [List.mem_cons, List.not_mem_nil, or_false] at hp
    have := h1.pos
    rcases hp with rfl | rfl | rfl <;> omega)
  exact ⟨_, h1.ext g2, g1, h2.trans g2, g3⟩
theorem derive_len (N : List Nd) (s : Int) (label : ByteArray) (c : Int) : (deriveN N s label c).2.length ≤ N.length + 3 := by
  unfold deriveN
  split
  · have h1 := (putN_len N (1, ByteArray.empty, [])).2
    have h2 := (putN_len (textN N ByteArray.empty).2 (1, label, [])).2
    have h3 := (makeN_len (textN (textN N ByteArray.empty).2 label).2 6 [s, (textN (textN N ByteArray.empty).2 label).1, (textN N ByteArray.empty).1]).2
    unfold textN at *
    omega
  · have h2 := (putN_len N (1, label, [])).2
    have h3 := (makeN_len (textN N label).2 6 [s, (textN N label).1, c]).2
    unfold textN at *
    omega
theorem seal_len (N : List Nd) (key : Int) (head : ByteArray) (c : Int) : (sealN N key head c).2.length ≤ N.length + 2 := by
  unfold sealN
  have h2 := (putN_len N (1, head, [])).2
  have h3 := (makeN_len (textN N head).2 10 [key, (textN N head).1, c]).2
  unfold textN at *
  omega
#print axioms derive0_has
#print axioms seal_has
end Go.Proofs.YtepkhhpdpmhfaaaDoor.T
namespace Go.Proofs.YtepkhhpdpmhfaaaDoor.T
open Go Go.RowKit

/-- A row of three of the call's own: its cells. -/
theorem own_three {w : World} {base : Nat} {v : Value} {a b c : Int} (h : w.ownsRow base 27 1 v 3 (cs .i64 [a, b, c])) :
    ∃ g cap, v = .slice (some ⟨g, 0, none⟩) 3 cap ∧ base ≤ g ∧ 3 ≤ cap ∧ cap ≤ 9223372036854775807 ∧ g < w.heap.size ∧ w.cell? ⟨g, 0, none⟩ = some (.int .i64 a) ∧ w.cell? ⟨g, 1, none⟩ = some (.int .i64 b) ∧ w.cell? ⟨g, 2, none⟩ = some (.int .i64 c) := by
  obtain ⟨hr, _⟩ := Rd.of_own h
  rcases h.2 with ⟨_, h0⟩ | ⟨g, cap, cur, rfl, hg, hh, h1, h2, h3, h4⟩
  · cases h0
  · unfold maxLen at h2
    obtain ⟨ao, cp, hv, _, _, _, hc⟩ := hr
    cases hv
    refine ⟨g, cap, rfl, hg, h1, by omega, blk_lt hh, ?_, ?_, ?_⟩
    · have := hc _ rfl 0 (by simp); rw [Addr.add_lit] at this; exact this
    · have := hc _ rfl 1 (by simp); rw [Addr.add_lit] at this; exact this
    · have := hc _ rfl 2 (by simp); rw [Addr.add_lit] at this; exact this

/-- What a Look of a sealed one tells. -/
theorem St.look3 {w0 w : World} {tb mb : Nat} {N : List Nd} {rs : List (Value × List Int)} (h : St w0 w tb mb N rs) {m : Int} {k a b c : Int} (hm : Has N m (k, ByteArray.empty, [a, b, c])) :
    Calls Tryd.prog 23 #[.pointer (some ⟨tb, 0, none⟩), .int .i64 m] w fun e w' => ∃ g cap, e = .returned (.tuple #[.agg #[.int .i64 k, .string ByteArray.empty, .slice (some ⟨g, 0, none⟩) 3 cap], .bool true]) ∧ 3 ≤ cap ∧ cap ≤ 9223372036854775807 ∧ g < w'.heap.size ∧ w'.cell? ⟨g, 0, none⟩ = some (.int .i64 a) ∧ w'.cell? ⟨g, 1, none⟩ = some (.int .i64 b) ∧ w'.cell? ⟨g, 2, none⟩ = some (.int .i64 c) ∧ St w0 w' tb mb N rs ∧ Below w.heap.size w w' := by
  have hp := hm.pos
  have := h.look (m - 1).toNat _ hm.at'
  rw [show (((m - 1).toNat : Nat) : Int) + 1 = m by omega] at this
  refine this.mono ?_
  rintro e w' ⟨pv, rfl, ho, hb, hs⟩
  obtain ⟨g, cap, rfl, _, h3, h4, h5, h6, h7, h8⟩ := own_three ho
  exact ⟨g, cap, rfl, h3, h4, h5, h6, h7, h8, hs, hb⟩
theorem St.look1 {w0 w : World} {tb mb : Nat} {N : List Nd} {rs : List (Value × List Int)} (h : St w0 w tb mb N rs) {m : Int} {s : ByteArray} (hm : Has N m (1, s, [])) :
    Calls Tryd.prog 23 #[.pointer (some ⟨tb, 0, none⟩), .int .i64 m] w fun e w' => ∃ ao cap, e = .returned (.tuple #[.agg #[.int .i64 1, .string s, .slice ao 0 cap], .bool true]) ∧ St w0 w' tb mb N rs ∧ Below w.heap.size w w' := by
  have hp := hm.pos
  have := h.look (m - 1).toNat _ hm.at'
  rw [show (((m - 1).toNat : Nat) : Int) + 1 = m by omega] at this
  refine this.mono ?_
  rintro e w' ⟨pv, rfl, ho, hb, hs⟩
  obtain ⟨ao, cap, rfl, _, _⟩ := own_shape ho
  exact ⟨ao, cap, rfl, hs, hb⟩

theorem str_inj {a b : ByteArray} (h : a.toList = b.toList) : a = b := by
  rw [ByteArray.toList_eq, ByteArray.toList_eq] at h
  cases a; cases b
  exact congrArg ByteArray.mk (Array.toList_inj.1 h)
theorem str_ne {a b : ByteArray} (h : ¬ a = b) : (!a.toList == b.toList) = true := by
  rw [Bool.not_eq_true', beq_eq_false_iff_ne]
  exact fun e => h (str_inj e)

#print axioms str_ne
end Go.Proofs.YtepkhhpdpmhfaaaDoor.T
namespace Go.Proofs.YtepkhhpdpmhfaaaDoor.T
open Go Go.RowKit

/-- The table since w0, and guests: blocks that are none of the table's. -/
structure Sg (w0 w : World) (tb mb : Nat) (N : List Nd) (rs : List (Nat × Obj)) : Prop where
  tab : ∃ nv, TabX w w0.heap.size tb mb nv N [] ∧ ∀ r ∈ rs, r.1 ≠ tb ∧ r.1 ≠ mb ∧ some r.1 ≠ nv.ownBlock
  own : ∀ r ∈ rs, w.heap[r.1]? = some r.2
  bel : Below w0.heap.size w0 w
theorem Sg.of_st {w0 w : World} {tb mb : Nat} {N : List Nd} (h : St w0 w tb mb N []) : Sg w0 w tb mb N [] := by
  obtain ⟨nv, ht⟩ := h.tab
  exact ⟨⟨nv, ht, fun r hr => by cases hr⟩, (fun r hr => by cases hr), h.bel⟩
theorem Sg.st {w0 w : World} {tb mb : Nat} {N : List Nd} {rs : List (Nat × Obj)} (h : Sg w0 w tb mb N rs) : St w0 w tb mb N [] := by
  obtain ⟨nv, ht, _⟩ := h.tab
  exact ⟨⟨nv, ht⟩, (fun r hr => by cases hr), List.Pairwise.nil, h.bel⟩
theorem Sg.sub {w0 w : World} {tb mb : Nat} {N : List Nd} {rs us : List (Nat × Obj)} (h : Sg w0 w tb mb N rs) (hs : ∀ u ∈ us, u ∈ rs) : Sg w0 w tb mb N us := by
  obtain ⟨nv, ht, hg⟩ := h.tab
  exact ⟨⟨nv, ht, fun r hr => hg r (hs r hr)⟩, (fun r hr => h.own r (hs r hr)), h.bel⟩
theorem Sg.keep {w0 w w' : World} {tb mb : Nat} {N : List Nd} {rs : List (Nat × Obj)} (h : Sg w0 w tb mb N rs) (hb : Below w.heap.size w w') : Sg w0 w' tb mb N rs := by
  obtain ⟨nv, ht, hg⟩ := h.tab
  exact ⟨⟨nv, ht.keep hb, hg⟩, (fun r hr => by rw [hb.block _ (blk_lt (h.own r hr))]; exact h.own r hr), h.bel.trans (hb.mono h.bel.size)⟩
/-- A guest comes. -/
theorem Sg.guest {w0 w : World} {tb mb : Nat} {N : List Nd} {rs : List (Nat × Obj)} (h : Sg w0 w tb mb N rs) (o : Obj) (g : Nat) (hg : g = w.heap.size) : Sg w0 (w.alloc o) tb mb N ((g, o) :: rs) := by
  subst hg
  obtain ⟨nv, ht, hg⟩ := h.tab
  obtain ⟨L, h1, _, _⟩ := ht.ex
  have hk := h.keep (below_alloc w o)
  refine ⟨⟨nv, ht.keep (below_alloc w o), fun r hr => ?_⟩, fun r hr => ?_, hk.bel⟩
  · rcases List.mem_cons.1 hr with rfl | hr
    · refine ⟨fun e => ?_, fun e => ?_, fun e => ?_⟩
      · have := blk_lt h1.tab; simp only at e; omega
      · have := h1.map.lt; simp only at e; omega
      · have := (h1.nodes.lt _ e.symm).2; omega
    · exact hg r hr
  · rcases List.mem_cons.1 hr with rfl | hr
    · show (w.heap.push o)[w.heap.size]? = some o
      simp
    · exact hk.own r hr
theorem Sg.ofPut {w0 w : World} {tb mb : Nat} {N : List Nd} {rs : List (Nat × Obj)} (h : Sg w0 w tb mb N rs) {nv : Value} (ht : TabX w w0.heap.size tb mb nv N []) (hg : ∀ r ∈ rs, r.1 ≠ tb ∧ r.1 ≠ mb ∧ some r.1 ≠ nv.ownBlock) {n : Nd} {e : Ending} {w' : World} (hm : PutX w w0.heap.size tb mb nv N [] n e w') :
    e = .returned (.int .i64 (putN N n).1) ∧ Sg w0 w' tb mb (putN N n).2 rs := by
  cases hc : idxN 1 N n with
  | some c =>
    rw [putN_old hc]
    obtain ⟨e1, hb⟩ := hm.old hc
    exact ⟨e1, h.keep hb⟩
  | none =>
    rw [putN_new hc]
    obtain ⟨e1, nv', h2, h4, h5⟩ := hm.new hc
    refine ⟨e1, ⟨nv', h2, fun r hr => ⟨(hg r hr).1, (hg r hr).2.1, ?_⟩⟩, (fun r hr => ?_), h.bel.trans (ht.at.below h4)⟩
    · rcases h5 with e | e
      · rw [e]; exact (hg r hr).2.2
      · intro e2
        have := e _ e2.symm
        have := blk_lt (h.own r hr)
        omega
    · rw [h4.block _ (blk_lt (h.own r hr)) (hg r hr).1 (hg r hr).2.1 (hg r hr).2.2]
      exact h.own r hr
set_option maxRecDepth 20000 in
theorem Sg.text {w0 w : World} {tb mb : Nat} {N : List Nd} {rs : List (Nat × Obj)} (h : Sg w0 w tb mb N rs) {vb : Value} {zb : List Int} (hb : Rd .u8 w vb zb) (hl : zb.length ≤ 2048) (hroom : N.length < 65536) :
    Calls Tryd.prog 19 #[.pointer (some ⟨tb, 0, none⟩), vb] w fun e w' => e = .returned (.int .i64 (textN N (bstr zb)).1) ∧ Sg w0 w' tb mb (textN N (bstr zb)).2 rs := by
  obtain ⟨nv, ht, hg⟩ := h.tab
  exact (ht.text hb hl hroom).mono fun e w' hm => h.ofPut ht hg hm
set_option maxRecDepth 20000 in
theorem Sg.makes {w0 w : World} {tb mb : Nat} {N : List Nd} {rs : List (Nat × Obj)} (h : Sg w0 w tb mb N rs) (k : Int) {pv : Value} {ps : List Int} (hp : Rd .i64 w pv ps) (hl : ps.length ≤ 1000000) (hroom : N.length < 65536) :
    Calls Tryd.prog 28 #[.pointer (some ⟨tb, 0, none⟩), .int .i64 k, pv] w fun e w' => e = .returned (.int .i64 (makeN N k ps).1) ∧ Sg w0 w' tb mb (makeN N k ps).2 rs := by
  obtain ⟨nv, ht, hg⟩ := h.tab
  unfold makeN
  by_cases hf : fitsN N k ps = true
  · rw [if_pos hf]
    exact (ht.make (fun v hv => by cases hv) k hp hl hf hroom h.bel.size).mono fun e w' hm => h.ofPut ht hg hm
  · rw [if_neg hf]
    exact (Tab.make_no ht.at k hp hl (by simpa using hf)).mono fun e w' ⟨e1, hb⟩ => ⟨e1, h.keep hb⟩
set_option maxRecDepth 20000 in
theorem Sg.secret {w0 w : World} {tb mb : Nat} {N : List Nd} {rs : List (Nat × Obj)} (h : Sg w0 w tb mb N rs) (hroom : N.length < 65536) {z : Int} (hz : (N.length : Int) + 1 = z) :
    Calls Tryd.prog 6 #[.pointer (some ⟨tb, 0, none⟩)] w fun e w' => e = .returned (.int .i64 z) ∧ Sg w0 w' tb mb (N ++ [secretNd]) rs := by
  obtain ⟨nv, ht, hg⟩ := h.tab
  refine (ht.secret hroom).mono fun e w' ⟨e1, nv', h2, h4, h5⟩ => ?_
  refine ⟨by rw [← hz]; exact e1, ⟨nv', h2, fun r hr => ⟨(hg r hr).1, (hg r hr).2.1, ?_⟩⟩, (fun r hr => ?_), h.bel.trans (ht.at.below h4)⟩
  · rcases h5 with e | e
    · rw [e]; exact (hg r hr).2.2
    · intro e2
      have := e _ e2.symm
      have := blk_lt (h.own r hr)
      omega
  · rw [h4.block _ (blk_lt (h.own r hr)) (hg r hr).1 (hg r hr).2.1 (hg r hr).2.2]
    exact h.own r hr
theorem fitsP {N : List Nd} {k : Int} {ps : List Int} (hk : k = 3 ∨ k = 5) (hl : ps.length = 2) (h : ∀ p ∈ ps, 1 ≤ p ∧ p ≤ (N.length : Int)) : fitsN N k ps = true := by
  obtain ⟨a, b, rfl⟩ : ∃ a b, ps = [a, b] := by
    match ps, hl with
    | [a, b], _ => exact ⟨a, b, rfl⟩
  have ha := h a (by simp)
  have hb := h b (by simp)
  have hask : askL k 2 = some [0, 0] := by rcases hk with rfl | rfl <;> rfl
  unfold fitsN
  simp only [List.length_cons, List.length_nil, Nat.zero_add, Nat.reduceAdd, hask]
  simp [List.range_succ, okN, ha, hb]
theorem pair_has {N : List Nd} (hN : GoodN N) {k a b : Int} (hk : k = 3 ∨ k = 5) (ha : 1 ≤ a ∧ a ≤ (N.length : Int)) (hb : 1 ≤ b ∧ b ≤ (N.length : Int)) :
    Has (makeN N k [a, b]).2 (makeN N k [a, b]).1 (k, ByteArray.empty, [a, b]) ∧ N <+: (makeN N k [a, b]).2 ∧ GoodN (makeN N k [a, b]).2 := by
  have hm : ∀ p ∈ [a, b], 1 ≤ p ∧ p ≤ (N.length : Int) := fun p hp => by
    simp only [List.mem_cons, List.not_mem_nil, or_false] at hp
    rcases hp with rfl | rfl
    · exact ha
    · exact hb
  exact make_has hN (by omega) (by omega) (fitsP hk rfl hm) fun p hp => (hm p hp).1
variable {w0 w : World} {tb mb : Nat} {N : List Nd} {rs : List (Value × List Int)}
theorem St.look2 (h : St w0 w tb mb N rs) {m : Int} {k a b : Int} (hm : Has N m (k, ByteArray.empty, [a, b])) :
    Calls Tryd.prog 23 #[.pointer (some ⟨tb, 0, none⟩), .int .i64 m] w fun e w' => ∃ g cap, e = .returned (.tuple #[.agg #[.int .i64 k, .string ByteArray.empty, .slice (some ⟨g, 0, none⟩) 2 cap], .bool true]) ∧ 2 ≤ cap ∧ cap ≤ 9223372036854775807 ∧ g < w'.heap.size ∧ w'.cell? ⟨g, 0, none⟩ = some (.int .i64 a) ∧ w'.cell? ⟨g, 1, none⟩ = some (.int .i64 b) ∧ St w0 w' tb mb N rs ∧ Below w.heap.size w w' := by
  have hp := hm.pos
  have := h.look (m - 1).toNat _ hm.at'
  rw [show (((m - 1).toNat : Nat) : Int) + 1 = m by omega] at this
  refine this.mono ?_
  rintro e w' ⟨pv, rfl, ho, hb, hs⟩
  have hr := (Rd.of_own ho).1
  obtain ⟨g, cap, rfl, _, h3, h4, _, _⟩ := own_pair ho
  obtain ⟨ao, cp, hv, _, _, _, hc⟩ := hr
  cases hv
  have c0 := hc _ rfl 0 (by simp)
  have c1 := hc _ rfl 1 (by simp)
  rw [Addr.add_lit] at c0 c1
  exact ⟨g, cap, rfl, h3, h4, cell_lt c0, c0, c1, hs, hb⟩
theorem St.look0 (h : St w0 w tb mb N rs) (t : Int) (h0 : t < 1 ∨ (N.length : Int) < t) :
    Calls Tryd.prog 23 #[.pointer (some ⟨tb, 0, none⟩), .int .i64 t] w fun e w' => e = .returned (.tuple #[.agg #[.int .i64 0, .string ByteArray.empty, .slice none 0 0], .bool false]) ∧ St w0 w' tb mb N rs := by
  obtain ⟨nv, ht⟩ := h.tab
  exact (Tab.look_no ht.at t h0).mono fun e w' ⟨h1, h2⟩ => ⟨h1, h.keep h2⟩
def seq (a b : ByteArray) : Bool := a.toList == b.toList
theorem seq_eq (a b : ByteArray) : seq a b = decide (a = b) := by
  unfold seq
  by_cases h : a = b
  · subst h; simp
  · have := str_ne h
    rw [Bool.not_eq_true'] at this
    rw [this, decide_eq_false h]

/-- A constant text's row: what follows its last cell is marked. -/
theorem Rd.litM (w : World) (zs : List Int) (n : Nat) (hn : n = zs.length) (h : zs.length ≤ 1000) : Rd .u8 (w.alloc (.cells (cs .u8 zs).toArray 5 ((cs .u8 zs).toArray.size, (cs .u8 zs).toArray.size + 1))) (.slice (some ⟨w.heap.size, 0, none⟩) n n) zs := by
  subst hn
  refine ⟨some ⟨w.heap.size, 0, none⟩, zs.length, rfl, Nat.le_refl _, by unfold maxLen; omega, (fun h => by cases h), fun a ha j hj => ?_⟩
  cases ha
  rw [Addr.add_lit, Nat.zero_add, World.cell?_alloc_mark]
  simpa using cs_get .u8 zs j hj
theorem conv_const (w : World) (C : Array Value) (n c : Nat) : (convert 22 22 (.slice (some ⟨w.heap.size, 0, none⟩) n c)).run Tryd.prog (w.alloc (.cells C 5)) = .ok (.slice (some ⟨w.heap.size, 0, none⟩) n c) (w.alloc (.cells C 5 (C.size, C.size + 1))) :=
  Lib.run_convert_bytes_const (P := Tryd.prog) w 22 5 C n c Tryd.underlying22 Tryd.underlying5

theorem textN_len (N : List Nd) (s : ByteArray) : (textN N s).2.length ≤ N.length + 1 := by
  unfold textN; exact (putN_len _ _).2

#print axioms St.look2
end Go.Proofs.YtepkhhpdpmhfaaaDoor.T
