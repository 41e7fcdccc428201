/- SchedRows: what its walk needs. -/
import Derived.Test.YtmplcibaoanlnaaIdSeal
import Derived.Test.YtmplcibaoanlnaaPkY
import Derived.Laws.Strings
import Derived.Test.YtmplcibaoanlnaaLookNo
import Derived.Lib.SlBytesConst
import Derived.Lib.SmallJoins
import Derived.ProofKit
import Derived.OpenShut
import Derived.Deep.Slices
namespace Go.Proofs.Ytmplcibaoanlnaa
open Go Go.RowKit

/-- Texts have no parts. -/
def Txt (N : List Nd) : Prop := ∀ m ∈ N, m.1 = 1 → m.2.2 = []
theorem Txt.app {N : List Nd} (h : Txt N) {n : Nd} (hn : n.1 = 1 → n.2.2 = []) : Txt (N ++ [n]) := fun m hm h1 => by
  rcases List.mem_append.1 hm with e | e
  · exact h m e h1
  · rw [List.mem_singleton] at e; subst e; exact hn h1
theorem fits1 {N : List Nd} {k : Int} {ps : List Int} (hf : fitsN N k ps = true) : k ≠ 1 := by
  intro e
  subst e
  unfold fitsN at hf
  have : askL 1 ps.length = none := rfl
  rw [this] at hf
  cases hf
/-- Nodes as the program's calls make them. -/
structure GoodN (N : List Nd) : Prop where
  pos : ∀ m ∈ N, ∀ p ∈ m.2.2, 1 ≤ p
  fit : N.length ≤ 65536 → Good N ∧ Txt N
theorem GoodN.app {N : List Nd} (h : GoodN N) {n : Nd} (hp : ∀ p ∈ n.2.2, 1 ≤ p) (hg : N.length < 65536 → Good N → Good (N ++ [n])) (ht : n.1 = 1 → n.2.2 = []) : GoodN (N ++ [n]) :=
  ⟨fun m hm => by
    rcases List.mem_append.1 hm with hm | hm
    · exact h.pos m hm
    · obtain rfl := List.mem_singleton.1 hm
      exact hp, fun hl => by
    have hr : N.length < 65536 := by simp at hl; omega
    have g := h.fit (by omega)
    exact ⟨hg hr g.1, g.2.app ht⟩⟩
theorem good_nil : GoodN [] := ⟨fun m hm => (by cases hm), fun _ => ⟨Good.nil, fun m hm => (by cases hm)⟩⟩
theorem good_secret {N : List Nd} (h : GoodN N) : GoodN (N ++ [secretNd]) := h.app (fun p hp => by cases hp) (fun hr g => g.secret hr) fun e => absurd (show (2 : Int) = 1 from e) (by decide)
/-- The term n has the number c. -/
structure Has (N : List Nd) (c : Int) (n : Nd) : Prop where
  pos : 1 ≤ c
  at' : N[(c - 1).toNat]? = some n
  idx : idxN 1 N n = some c

theorem idxN_app (N M : List Nd) (n : Nd) (i c : Int) (h : idxN i N n = some c) : idxN i (N ++ M) n = some c := by
  induction N generalizing i with
  | nil => cases h
  | cons m r ih =>
    simp only [List.cons_append]
    unfold idxN at h ⊢
    split
    · rename_i hc; rw [if_pos hc] at h; exact h
    · rename_i hc; rw [if_neg hc] at h; exact ih _ h
theorem idxN_end (N : List Nd) (n : Nd) (hn : n.1 ≠ 2) (i : Int) (h : idxN i N n = none) : idxN i (N ++ [n]) n = some (i + N.length) := by
  induction N generalizing i with
  | nil => simp [idxN, hn]
  | cons m r ih =>
    simp only [List.cons_append]
    unfold idxN at h ⊢
    split at h
    · cases h
    · rename_i hc
      rw [if_neg hc, ih _ h]
      simp; omega
theorem idxN_at (N : List Nd) (n : Nd) (i c : Int) (h : idxN i N n = some c) : ∃ m, i ≤ c ∧ N[(c - i).toNat]? = some m ∧ m.1 = n.1 ∧ m.2.1 = n.2.1 ∧ pad m.2.2 = pad n.2.2 := by
  induction N generalizing i with
  | nil => cases h
  | cons m r ih =>
    unfold idxN at h
    split at h
    · rename_i hc
      cases h
      exact ⟨m, Int.le_refl _, by simp, hc.1, hc.2.1, hc.2.2.1⟩
    · obtain ⟨m', h1, h2, h3⟩ := ih _ h
      refine ⟨m', by omega, ?_, h3⟩
      rw [show (c - i).toNat = (c - (i + 1)).toNat + 1 by omega]
      simpa using h2

theorem Has.ext {N : List Nd} {c : Int} {n : Nd} (h : Has N c n) {M : List Nd} (hp : N <+: M) : Has M c n := by
  obtain ⟨r, rfl⟩ := hp
  refine ⟨h.pos, ?_, idxN_app N r n 1 c h.idx⟩
  have hlt := (List.getElem?_eq_some_iff.1 h.at').1
  rw [List.getElem?_append_left hlt]
  exact h.at'
theorem Has.node {N : List Nd} {c : Int} {n n' : Nd} (h : Has N c n) (h' : Has N c n') : n = n' := Option.some.inj (h.at'.symm.trans h'.at')
theorem Has.num {N : List Nd} {c c' : Int} {n : Nd} (h : Has N c n) (h' : Has N c' n) : c = c' := Option.some.inj (h.idx.symm.trans h'.idx)
theorem Has.le {N : List Nd} {c : Int} {n : Nd} (h : Has N c n) : c ≤ (N.length : Int) := by
  have hlt := (List.getElem?_eq_some_iff.1 h.at').1
  have := h.pos
  omega
theorem Has.kind {N : List Nd} {c : Int} {n : Nd} (h : Has N c n) : kindN N c = n.1 := by
  unfold kindN
  rw [if_neg (by have := h.pos; omega), h.at']
theorem Has.put {N : List Nd} {c : Int} {n : Nd} (h : Has N c n) : putN N n = (c, N) := putN_old h.idx

/-- What is put is there. -/
theorem put_has {N : List Nd} (hN : GoodN N) {n : Nd} (hn : n.1 ≠ 2) (hp : ∀ p ∈ n.2.2, 1 ≤ p) (hg : N.length < 65536 → Good N → idxN 1 N n = none → Good (N ++ [n])) (ht : n.1 = 1 → n.2.2 = []) :
    Has (putN N n).2 (putN N n).1 n ∧ N <+: (putN N n).2 ∧ GoodN (putN N n).2 := by
  cases hc : idxN 1 N n with
  | some c =>
    rw [putN_old hc]
    obtain ⟨m, h1, h2, h3, h4, h5⟩ := idxN_at N n 1 c hc
    have hm : m = n := by
      have : m.2.2 = n.2.2 := pad_inj (hN.pos m (List.mem_of_getElem? h2)) hp h5
      exact Prod.ext h3 (Prod.ext h4 this)
    subst hm
    exact ⟨⟨h1, h2, hc⟩, List.prefix_rfl, hN⟩
  | none =>
    rw [putN_new hc]
    refine ⟨⟨by omega, ?_, ?_⟩, List.prefix_append _ _, hN.app hp (fun hr g => hg hr g hc) ht⟩
    · simp
    · rw [idxN_end N n hn 1 hc]; congr 1; omega
theorem text_has {N : List Nd} (hN : GoodN N) (s : ByteArray) : Has (textN N s).2 (textN N s).1 (1, s, []) ∧ N <+: (textN N s).2 ∧ GoodN (textN N s).2 :=
  put_has hN (show (1 : Int) ≠ 2 by decide) (fun p hp => by cases hp) (fun hr g _ => g.text s hr) fun _ => rfl
theorem make_has {N : List Nd} (hN : GoodN N) {k : Int} {ps : List Int} (hk : k ≠ 2) (hk8 : k ≠ 8) (hf : fitsN N k ps = true) (hp : ∀ p ∈ ps, 1 ≤ p) :
    Has (makeN N k ps).2 (makeN N k ps).1 (k, ByteArray.empty, ps) ∧ N <+: (makeN N k ps).2 ∧ GoodN (makeN N k ps).2 := by
  unfold makeN
  rw [if_pos hf]
  have e : mkN N k ps = ps := if_neg hk8
  rw [e]
  exact put_has hN hk hp (fun hr g hi => by have := g.make hf (by rw [e]; exact hi) hr; rwa [e] at this) fun e => absurd e (fits1 hf)
theorem fits3 {N : List Nd} {k a b c : Int} (hk : k = 6 ∨ k = 10) (ha : 1 ≤ a ∧ a ≤ (N.length : Int)) (hc : 1 ≤ c ∧ c ≤ (N.length : Int)) {s : ByteArray} (hb : Has N b (1, s, [])) : fitsN N k [a, b, c] = true := by
  have hb1 := hb.pos
  have hb2 := hb.le
  have hb3 : kindN N b = 1 := hb.kind
  have hask : askL k 3 = some [0, 1, 0] := by rcases hk with rfl | rfl <;> rfl
  unfold fitsN
  simp only [List.length_cons, List.length_nil, Nat.zero_add, Nat.reduceAdd, hask]
  simp [List.range_succ, okN, ha, hc, hb1, hb2, hb3]

/-- What Derive leaves. -/
theorem derive_has {N : List Nd} (hN : GoodN N) {s : Int} (hs : 1 ≤ s ∧ s ≤ (N.length : Int)) (label : ByteArray) {c : Int} (hc : 1 ≤ c ∧ c ≤ (N.length : Int)) :
    ∃ l, Has (deriveN N s label c).2 l (1, label, []) ∧ Has (deriveN N s label c).2 (deriveN N s label c).1 (6, ByteArray.empty, [s, l, c]) ∧ N <+: (deriveN N s label c).2 ∧ GoodN (deriveN N s label c).2 := by
  obtain ⟨h1, h2, h3⟩ := text_has hN label
  have hl := h2.length_le
  unfold deriveN
  rw [if_neg (by omega)]
  have hf := fits3 (k := 6) (.inl rfl) (a := s) (c := c) ⟨hs.1, by omega⟩ ⟨hc.1, by omega⟩ h1
  obtain ⟨g1, g2, g3⟩ := make_has h3 (by decide) (by decide) hf (by
    intro p hp
    simp only [List.mem_cons, List.not_mem_nil, or_false] at hp
    have := h1.pos
    rcases hp with rfl | rfl | rfl <;> omega)
  exact ⟨_, h1.ext g2, g1, h2.trans g2, g3⟩
theorem derive0 {N : List Nd} (s : Int) (label : ByteArray) {e : Int} (he : e ≠ 0) : deriveN N s label 0 = if (textN N ByteArray.empty).1 = e then deriveN (textN N ByteArray.empty).2 s label e else deriveN N s label 0 := by
  split
  · rename_i h
    subst h
    unfold deriveN
    rw [if_pos rfl, if_neg he]
  · rfl
/-- With the context 0 it is that of the empty text. -/
theorem derive0_has {N : List Nd} (hN : GoodN N) {s : Int} (hs : 1 ≤ s ∧ s ≤ (N.length : Int)) (label : ByteArray) :
    ∃ l e, Has (deriveN N s label 0).2 e (1, ByteArray.empty, []) ∧ Has (deriveN N s label 0).2 l (1, label, []) ∧ Has (deriveN N s label 0).2 (deriveN N s label 0).1 (6, ByteArray.empty, [s, l, e]) ∧ N <+: (deriveN N s label 0).2 ∧ GoodN (deriveN N s label 0).2 := by
  obtain ⟨h1, h2, h3⟩ := text_has hN ByteArray.empty
  have hl := h2.length_le
  have hp := h1.pos
  have e0 := derive0 (N := N) s label (e := (textN N ByteArray.empty).1) (by omega)
  rw [if_pos rfl] at e0
  rw [e0]
  obtain ⟨l, g1, g2, g3, g4⟩ := derive_has h3 (s := s) ⟨hs.1, by omega⟩ label (c := (textN N ByteArray.empty).1) ⟨hp, h1.le⟩
  exact ⟨l, _, h1.ext g3, g1, g2, h2.trans g3, g4⟩
/-- What Seal leaves. -/
theorem seal_has {N : List Nd} (hN : GoodN N) {key content : Int} (hk : 1 ≤ key ∧ key ≤ (N.length : Int)) (hc : 1 ≤ content ∧ content ≤ (N.length : Int)) (head : ByteArray) :
    ∃ h, Has (sealN N key head content).2 h (1, head, []) ∧ Has (sealN N key head content).2 (sealN N key head content).1 (10, ByteArray.empty, [key, h, content]) ∧ N <+: (sealN N key head content).2 ∧ GoodN (sealN N key head content).2 := by
  obtain ⟨h1, h2, h3⟩ := text_has hN head
  have hl := h2.length_le
  unfold sealN
  have hf := fits3 (k := 10) (.inr rfl) (a := key) (c := content) ⟨hk.1, by omega⟩ ⟨hc.1, by omega⟩ h1
  obtain ⟨g1, g2, g3⟩ := make_has h3 (by decide) (by decide) hf (by
    intro p hp
    simp only [List.mem_cons, List.not_mem_nil, or_false] at hp
    have := h1.pos
    rcases hp with rfl | rfl | rfl <;> omega)
  exact ⟨_, h1.ext g2, g1, h2.trans g2, g3⟩
theorem derive_len (N : List Nd) (s : Int) (label : ByteArray) (c : Int) : (deriveN N s label c).2.length ≤ N.length + 3 := by
  unfold deriveN
  split
  · have h1 := (putN_len N (1, ByteArray.empty, [])).2
    have h2 := (putN_len (textN N ByteArray.empty).2 (1, label, [])).2
    have h3 := (makeN_len (textN (textN N ByteArray.empty).2 label).2 6 [s, (textN (textN N ByteArray.empty).2 label).1, (textN N ByteArray.empty).1]).2
    unfold textN at *
    omega
  · have h2 := (putN_len N (1, label, [])).2
    have h3 := (makeN_len (textN N label).2 6 [s, (textN N label).1, c]).2
    unfold textN at *
    omega
theorem seal_len (N : List Nd) (key : Int) (head : ByteArray) (c : Int) : (sealN N key head c).2.length ≤ N.length + 2 := by
  unfold sealN
  have h2 := (putN_len N (1, head, [])).2
  have h3 := (makeN_len (textN N head).2 10 [key, (textN N head).1, c]).2
  unfold textN at *
  omega
#print axioms derive0_has
#print axioms seal_has
end Go.Proofs.Ytmplcibaoanlnaa
namespace Go.Proofs.Ytmplcibaoanlnaa
open Go Go.RowKit

/-- A row of three of the call's own: its cells. -/
theorem own_three {w : World} {base : Nat} {v : Value} {a b c : Int} (h : w.ownsRow base 26 1 v 3 (cs .i64 [a, b, c])) :
    ∃ g cap, v = .slice (some ⟨g, 0, none⟩) 3 cap ∧ base ≤ g ∧ 3 ≤ cap ∧ cap ≤ 9223372036854775807 ∧ g < w.heap.size ∧ w.cell? ⟨g, 0, none⟩ = some (.int .i64 a) ∧ w.cell? ⟨g, 1, none⟩ = some (.int .i64 b) ∧ w.cell? ⟨g, 2, none⟩ = some (.int .i64 c) := by
  obtain ⟨hr, _⟩ := Rd.of_own h
  rcases h.2 with ⟨_, h0⟩ | ⟨g, cap, cur, rfl, hg, hh, h1, h2, h3, h4⟩
  · cases h0
  · unfold maxLen at h2
    obtain ⟨ao, cp, hv, _, _, _, hc⟩ := hr
    cases hv
    refine ⟨g, cap, rfl, hg, h1, by omega, blk_lt hh, ?_, ?_, ?_⟩
    · have := hc _ rfl 0 (by simp); rw [Addr.add_lit] at this; exact this
    · have := hc _ rfl 1 (by simp); rw [Addr.add_lit] at this; exact this
    · have := hc _ rfl 2 (by simp); rw [Addr.add_lit] at this; exact this

/-- What a Look of a sealed one tells. -/
theorem St.look3 {w0 w : World} {tb mb : Nat} {N : List Nd} {rs : List (Value × List Int)} (h : St w0 w tb mb N rs) {m : Int} {k a b c : Int} (hm : Has N m (k, ByteArray.empty, [a, b, c])) :
    Calls Try.prog 31 #[.pointer (some ⟨tb, 0, none⟩), .int .i64 m] w fun e w' => ∃ g cap, e = .returned (.tuple #[.agg #[.int .i64 k, .string ByteArray.empty, .slice (some ⟨g, 0, none⟩) 3 cap], .bool true]) ∧ 3 ≤ cap ∧ cap ≤ 9223372036854775807 ∧ g < w'.heap.size ∧ w'.cell? ⟨g, 0, none⟩ = some (.int .i64 a) ∧ w'.cell? ⟨g, 1, none⟩ = some (.int .i64 b) ∧ w'.cell? ⟨g, 2, none⟩ = some (.int .i64 c) ∧ St w0 w' tb mb N rs ∧ Below w.heap.size w w' := by
  have hp := hm.pos
  have := h.look (m - 1).toNat _ hm.at'
  rw [show (((m - 1).toNat : Nat) : Int) + 1 = m by omega] at this
  refine this.mono ?_
  rintro e w' ⟨pv, rfl, ho, hb, hs⟩
  obtain ⟨g, cap, rfl, _, h3, h4, h5, h6, h7, h8⟩ := own_three ho
  exact ⟨g, cap, rfl, h3, h4, h5, h6, h7, h8, hs, hb⟩
theorem St.look1 {w0 w : World} {tb mb : Nat} {N : List Nd} {rs : List (Value × List Int)} (h : St w0 w tb mb N rs) {m : Int} {s : ByteArray} (hm : Has N m (1, s, [])) :
    Calls Try.prog 31 #[.pointer (some ⟨tb, 0, none⟩), .int .i64 m] w fun e w' => ∃ ao cap, e = .returned (.tuple #[.agg #[.int .i64 1, .string s, .slice ao 0 cap], .bool true]) ∧ St w0 w' tb mb N rs ∧ Below w.heap.size w w' := by
  have hp := hm.pos
  have := h.look (m - 1).toNat _ hm.at'
  rw [show (((m - 1).toNat : Nat) : Int) + 1 = m by omega] at this
  refine this.mono ?_
  rintro e w' ⟨pv, rfl, ho, hb, hs⟩
  obtain ⟨ao, cap, rfl, _, _⟩ := own_shape ho
  exact ⟨ao, cap, rfl, hs, hb⟩

theorem str_inj {a b : ByteArray} (h : a.toList = b.toList) : a = b := by
  rw [ByteArray.toList_eq, ByteArray.toList_eq] at h
  cases a; cases b
  exact congrArg ByteArray.mk (Array.toList_inj.1 h)
theorem str_ne {a b : ByteArray} (h : ¬ a = b) : (!a.toList == b.toList) = true := by
  rw [Bool.not_eq_true', beq_eq_false_iff_ne]
  exact fun e => h (str_inj e)

#print axioms str_ne
end Go.Proofs.Ytmplcibaoanlnaa
namespace Go.Proofs.Ytmplcibaoanlnaa
open Go Go.RowKit

/-- The transcript behind a message more. -/
def nextN (N : List Nd) (tr : Int) (m : ByteArray) : Int × List Nd :=
  makeN (makeN (textN N m).2 3 [tr, (textN N m).1]).2 4 [(makeN (textN N m).2 3 [tr, (textN N m).1]).1]
theorem nextN_len (N : List Nd) (tr : Int) (m : ByteArray) : (nextN N tr m).2.length ≤ N.length + 3 := by
  unfold nextN
  have h1 := (putN_len N (1, m, [])).2
  have h2 := (makeN_len (textN N m).2 3 [tr, (textN N m).1]).2
  have h3 := (makeN_len (makeN (textN N m).2 3 [tr, (textN N m).1]).2 4 [(makeN (textN N m).2 3 [tr, (textN N m).1]).1]).2
  unfold textN at *
  omega
/-- What is derived with a transcript. -/
def atN (N : List Nd) (l : ByteArray) (s tr : Int) : Int × List Nd := if tr = 0 then (0, N) else deriveN N s l tr
theorem atN_len (N : List Nd) (l : ByteArray) (s tr : Int) : (atN N l s tr).2.length ≤ N.length + 3 := by
  unfold atN
  split
  · simp
  · exact derive_len _ _ _ _
/-- A mac by a secret. -/
def macN (N : List Nd) (l : ByteArray) (s tr : Int) : Int × List Nd := makeN (deriveN N s l 0).2 5 [(deriveN N s l 0).1, tr]
theorem macN_len (N : List Nd) (l : ByteArray) (s tr : Int) : (macN N l s tr).2.length ≤ N.length + 4 := by
  unfold macN
  have h1 := derive_len N s l 0
  have h2 := (makeN_len (deriveN N s l 0).2 5 [(deriveN N s l 0).1, tr]).2
  omega
theorem textN_len (N : List Nd) (s : ByteArray) : (textN N s).2.length ≤ N.length + 1 := by
  unfold textN; exact (putN_len _ _).2

variable {w0 w : World} {tb mb : Nat} {N : List Nd} {rs : List (Value × List Int)}
set_option maxRecDepth 20000 in
set_option maxHeartbeats 1600000 in
theorem St.beginS (h : St w0 w tb mb N rs) (hroom : N.length < 65536) :
    Calls Try.prog 5 #[.pointer (some ⟨tb, 0, none⟩)] w fun e w' => e = .returned (.int .i64 (textN N ByteArray.empty).1) ∧ St w0 w' tb mb (textN N ByteArray.empty).2 rs := by
  have c1 := h.text (Rd.nil .u8 w) (Nat.zero_le _) hroom
  rw [empty_bstr] at c1
  generalize textN N ByteArray.empty = T at *
  clear h hroom
  go_enter Try.func5, Try.ntmps5
  go_wp2_with fail
  refine c1.mono ?_
  rintro e w1 ⟨rfl, h1⟩
  go_wp2_with fail
  go_ret
  exact ⟨rfl, h1⟩
set_option maxRecDepth 20000 in
set_option maxHeartbeats 1600000 in
theorem St.nextS (h : St w0 w tb mb N rs) (tr : Int) {vb : Value} {zb : List Int} (hb : Rd .u8 w vb zb) (hl : zb.length ≤ 2048) (hroom : N.length < 65533) :
    Calls Try.prog 6 #[.pointer (some ⟨tb, 0, none⟩), .int .i64 tr, vb] w fun e w' => e = .returned (.int .i64 (nextN N tr (bstr zb)).1) ∧ St w0 w' tb mb (nextN N tr (bstr zb)).2 rs := by
  have c1 := h.text hb hl (by omega)
  have hlen := textN_len N (bstr zb)
  unfold nextN
  generalize (textN N (bstr zb)) = T at *
  have hlen2 := (makeN_len T.2 3 [tr, T.1]).2
  obtain ⟨U, hU⟩ : ∃ U, U = makeN T.2 3 [tr, T.1] := ⟨_, rfl⟩
  rw [← hU] at hlen2 ⊢
  have HL : Hid (T.2.length < 65536 ∧ U.2.length < 65536) := Lib.hid (by omega)
  have HU := Lib.hid hU
  obtain ⟨ao, cap, rfl, _⟩ := hb
  clear h hl hroom hlen hlen2 hU
  go_enter Try.func6, Try.ntmps6
  go_wp2_with fail
  refine c1.mono ?_
  rintro e w1 ⟨rfl, h1⟩
  have c2 := (h1.keep (below_alloc w1 (.cells (cs .i64 [tr, T.1]).toArray 26))).makes 3 (Rd.lit .i64 26 w1 [tr, T.1] (by simp)) (by simp) HL.out.1
  rw [← HU.out] at c2
  clear c1
  go_wp2_with fail
  refine c2.mono ?_
  rintro e w2 ⟨rfl, h2⟩
  have c3 := (h2.keep (below_alloc w2 (.cells (cs .i64 [U.1]).toArray 26))).makes 4 (Rd.lit .i64 26 w2 [U.1] (by simp)) (by simp) HL.out.2
  clear c2
  go_wp2_with fail
  refine c3.mono ?_
  rintro e w3 ⟨rfl, h3⟩
  go_wp2_with fail
  go_ret
  exact ⟨rfl, h3⟩
set_option maxRecDepth 20000 in
set_option maxHeartbeats 1600000 in
theorem St.ofS (h : St w0 w tb mb N rs) (l : ByteArray) (s : Int) (hl : l.size ≤ 2048) (hroom : N.length < 65534) :
    Calls Try.prog 25 #[.string l, .pointer (some ⟨tb, 0, none⟩), .int .i64 s] w fun e w' => e = .returned (.int .i64 (deriveN N s l 0).1) ∧ St w0 w' tb mb (deriveN N s l 0).2 rs := by
  have c1 := h.derive s 0 l hl hroom
  generalize deriveN N s l 0 = T at *
  clear h hroom hl
  go_enter Try.func25, Try.ntmps25
  go_wp2_with fail
  refine c1.mono ?_
  rintro e w1 ⟨rfl, h1⟩
  go_wp2_with fail
  go_ret
  exact ⟨rfl, h1⟩
set_option maxRecDepth 20000 in
set_option maxHeartbeats 1600000 in
theorem St.atS (h : St w0 w tb mb N rs) (l : ByteArray) (s tr : Int) (hl : l.size ≤ 2048) (hroom : N.length < 65534) :
    Calls Try.prog 27 #[.string l, .pointer (some ⟨tb, 0, none⟩), .int .i64 s, .int .i64 tr] w fun e w' => e = .returned (.int .i64 (atN N l s tr).1) ∧ St w0 w' tb mb (atN N l s tr).2 rs := by
  unfold atN
  by_cases ht : tr = 0
  · rw [if_pos ht]
    subst ht
    go_enter Try.func27, Try.ntmps27
    go_wp2_with fail
    go_ret
    exact ⟨rfl, h⟩
  · rw [if_neg ht]
    have e0 : (tr == 0) = false := beq_eq_false_iff_ne.2 ht
    have c1 := h.derive s tr l hl hroom
    generalize deriveN N s l tr = T at *
    clear h hroom hl ht
    go_enter Try.func27, Try.ntmps27
    go_wp2_with fail
    refine c1.mono ?_
    rintro e w1 ⟨rfl, h1⟩
    go_wp2_with fail
    go_ret
    exact ⟨rfl, h1⟩
theorem make_fn (fn : Fn) (first cap : Array Value) (w : World) : (Instr.makeFunc fn first cap).run Try.prog w = .ok (.func fn first cap) w := rfl
set_option maxRecDepth 20000 in
set_option maxHeartbeats 1600000 in
/-- Both sides' secrets. -/
theorem St.bothS (h : St w0 w tb mb N rs) (a b : ByteArray) (s tr : Int) (hl : a.size ≤ 2048) (hk : b.size ≤ 2048) (hroom : N.length < 65530) :
    Calls Try.prog 26 #[.pointer (some ⟨tb, 0, none⟩), .int .i64 s, .int .i64 tr, .func (.func 27) #[.string a] #[], .func (.func 27) #[.string b] #[]] w fun e w' => e = .returned (.tuple #[.int .i64 (atN N a s tr).1, .int .i64 (atN (atN N a s tr).2 b s tr).1]) ∧ St w0 w' tb mb (atN (atN N a s tr).2 b s tr).2 rs := by
  have c1 := h.atS a s tr hl (by omega)
  have hlen := atN_len N a s tr
  generalize atN N a s tr = T at *
  have HT : Hid (T.2.length < 65534 ∧ b.size ≤ 2048) := Lib.hid ⟨by omega, hk⟩
  clear h hl hroom hlen hk
  go_enter Try.func26, Try.ntmps26
  go_wp2_with fail
  refine c1.mono ?_
  rintro e w1 ⟨rfl, h1⟩
  have c2 := h1.atS b s tr HT.out.2 HT.out.1
  clear h1
  go_wp2_with fail
  refine c2.mono ?_
  rintro e w2 ⟨rfl, h2⟩
  go_wp2_with fail
  go_ret2
  exact ⟨rfl, h2⟩
set_option maxRecDepth 20000 in
set_option maxHeartbeats 1600000 in
theorem St.macS (h : St w0 w tb mb N rs) (l : ByteArray) (s tr : Int) (hl : l.size ≤ 2048) (hroom : N.length < 65530) :
    Calls Try.prog 28 #[.pointer (some ⟨tb, 0, none⟩), .int .i64 s, .int .i64 tr, .func (.func 25) #[.string l] #[]] w fun e w' => e = .returned (.int .i64 (macN N l s tr).1) ∧ St w0 w' tb mb (macN N l s tr).2 rs := by
  have c1 := h.ofS l s hl (by omega)
  have hlen := derive_len N s l 0
  unfold macN
  generalize deriveN N s l 0 = T at *
  have HT : Hid (T.2.length < 65536) := Lib.hid (by omega)
  clear h hl hroom hlen
  go_enter Try.func28, Try.ntmps28
  go_wp2_with fail
  refine c1.mono ?_
  rintro e w1 ⟨rfl, h1⟩
  have c2 := (h1.keep (below_alloc w1 (.cells (cs .i64 [T.1, tr]).toArray 26))).makes 5 (Rd.lit .i64 26 w1 [T.1, tr] (by simp)) (by simp) HT.out
  clear h1
  go_wp2_with fail
  refine c2.mono ?_
  rintro e w2 ⟨rfl, h2⟩
  go_wp2_with fail
  go_ret
  exact ⟨rfl, h2⟩
#print axioms St.macS
end Go.Proofs.Ytmplcibaoanlnaa
namespace Go.Proofs.Ytmplcibaoanlnaa
open Go Go.RowKit

/-- client in -/
abbrev lClientIn : ByteArray := ⟨#[99, 108, 105, 101, 110, 116, 32, 105, 110]⟩
/-- server in -/
abbrev lServerIn : ByteArray := ⟨#[115, 101, 114, 118, 101, 114, 32, 105, 110]⟩
/-- early -/
abbrev lEarly : ByteArray := ⟨#[101, 97, 114, 108, 121]⟩
/-- client early -/
abbrev lClientEarly : ByteArray := ⟨#[99, 108, 105, 101, 110, 116, 32, 101, 97, 114, 108, 121]⟩
/-- handshake -/
abbrev lHandshake : ByteArray := ⟨#[104, 97, 110, 100, 115, 104, 97, 107, 101]⟩
/-- client hs -/
abbrev lClientHs : ByteArray := ⟨#[99, 108, 105, 101, 110, 116, 32, 104, 115]⟩
/-- server hs -/
abbrev lServerHs : ByteArray := ⟨#[115, 101, 114, 118, 101, 114, 32, 104, 115]⟩
/-- main -/
abbrev lMain : ByteArray := ⟨#[109, 97, 105, 110]⟩
/-- client app -/
abbrev lClientApp : ByteArray := ⟨#[99, 108, 105, 101, 110, 116, 32, 97, 112, 112]⟩
/-- server app -/
abbrev lServerApp : ByteArray := ⟨#[115, 101, 114, 118, 101, 114, 32, 97, 112, 112]⟩
/-- resume -/
abbrev lResume : ByteArray := ⟨#[114, 101, 115, 117, 109, 101]⟩
/-- finished -/
abbrev lFinished : ByteArray := ⟨#[102, 105, 110, 105, 115, 104, 101, 100]⟩
/-- binder -/
abbrev lBinder : ByteArray := ⟨#[98, 105, 110, 100, 101, 114]⟩
/-- none -/
abbrev lNone : ByteArray := ⟨#[110, 111, 110, 101]⟩
/-- server proof -/
abbrev lProof : ByteArray := ⟨#[115, 101, 114, 118, 101, 114, 32, 112, 114, 111, 111, 102]⟩

/-- A constant text's row: what follows its last cell is marked. -/
theorem Rd.litM (w : World) (zs : List Int) (n : Nat) (hn : n = zs.length) (h : zs.length ≤ 1000) : Rd .u8 (w.alloc (.cells (cs .u8 zs).toArray 5 ((cs .u8 zs).toArray.size, (cs .u8 zs).toArray.size + 1))) (.slice (some ⟨w.heap.size, 0, none⟩) n n) zs := by
  subst hn
  refine ⟨some ⟨w.heap.size, 0, none⟩, zs.length, rfl, Nat.le_refl _, by unfold maxLen; omega, (fun h => by cases h), fun a ha j hj => ?_⟩
  cases ha
  rw [Addr.add_lit, Nat.zero_add, World.cell?_alloc_mark]
  simpa using cs_get .u8 zs j hj
theorem conv_const (w : World) (C : Array Value) (n c : Nat) : (convert 22 22 (.slice (some ⟨w.heap.size, 0, none⟩) n c)).run Try.prog (w.alloc (.cells C 5)) = .ok (.slice (some ⟨w.heap.size, 0, none⟩) n c) (w.alloc (.cells C 5 (C.size, C.size + 1))) :=
  Lib.run_convert_bytes_const (P := Try.prog) w 22 5 C n c Try.underlying22 Try.underlying5

variable {w0 w : World} {tb mb : Nat} {N : List Nd} {rs : List (Value × List Int)}

set_option maxRecDepth 20000 in
set_option maxHeartbeats 1600000 in
theorem St.shakenTrafficS (h : St w0 w tb mb N rs) (s tr : Int) (hroom : N.length < 65500) :
    Calls Try.prog 12 #[.pointer (some ⟨tb, 0, none⟩), .int .i64 s, .int .i64 tr] w fun e w' => e = .returned (.tuple #[.int .i64 (atN N lClientHs s tr).1, .int .i64 (atN (atN N lClientHs s tr).2 lServerHs s tr).1]) ∧ St w0 w' tb mb (atN (atN N lClientHs s tr).2 lServerHs s tr).2 rs := by
  have c1 := h.bothS lClientHs lServerHs s tr (by decide) (by decide) (by omega)
  clear h hroom
  go_enter Try.func12, Try.ntmps12
  go_wp2_with fail
  refine c1.mono ?_
  rintro e w1 ⟨rfl, h1⟩
  go_wp2_with fail
  go_ret2
  exact ⟨rfl, h1⟩
set_option maxRecDepth 20000 in
set_option maxHeartbeats 1600000 in
theorem St.mainTrafficS (h : St w0 w tb mb N rs) (s tr : Int) (hroom : N.length < 65500) :
    Calls Try.prog 13 #[.pointer (some ⟨tb, 0, none⟩), .int .i64 s, .int .i64 tr] w fun e w' => e = .returned (.tuple #[.int .i64 (atN N lClientApp s tr).1, .int .i64 (atN (atN N lClientApp s tr).2 lServerApp s tr).1]) ∧ St w0 w' tb mb (atN (atN N lClientApp s tr).2 lServerApp s tr).2 rs := by
  have c1 := h.bothS lClientApp lServerApp s tr (by decide) (by decide) (by omega)
  clear h hroom
  go_enter Try.func13, Try.ntmps13
  go_wp2_with fail
  refine c1.mono ?_
  rintro e w1 ⟨rfl, h1⟩
  go_wp2_with fail
  go_ret2
  exact ⟨rfl, h1⟩
set_option maxRecDepth 20000 in
set_option maxHeartbeats 1600000 in
theorem St.resumeS (h : St w0 w tb mb N rs) (s tr : Int) (hroom : N.length < 65500) :
    Calls Try.prog 16 #[.pointer (some ⟨tb, 0, none⟩), .int .i64 s, .int .i64 tr] w fun e w' => e = .returned (.int .i64 (atN N lResume s tr).1) ∧ St w0 w' tb mb (atN N lResume s tr).2 rs := by
  have c1 := h.atS lResume s tr (by decide) (by omega)
  clear h hroom
  go_enter Try.func16, Try.ntmps16
  go_wp2_with fail
  refine c1.mono ?_
  rintro e w1 ⟨rfl, h1⟩
  go_wp2_with fail
  go_ret
  exact ⟨rfl, h1⟩
set_option maxRecDepth 20000 in
set_option maxHeartbeats 1600000 in
theorem St.finishedS (h : St w0 w tb mb N rs) (s tr : Int) (hroom : N.length < 65500) :
    Calls Try.prog 15 #[.pointer (some ⟨tb, 0, none⟩), .int .i64 s, .int .i64 tr] w fun e w' => e = .returned (.int .i64 (macN N lFinished s tr).1) ∧ St w0 w' tb mb (macN N lFinished s tr).2 rs := by
  have c1 := h.macS lFinished s tr (by decide) (by omega)
  clear h hroom
  go_enter Try.func15, Try.ntmps15
  go_wp2_with fail
  refine c1.mono ?_
  rintro e w1 ⟨rfl, h1⟩
  go_wp2_with fail
  go_ret
  exact ⟨rfl, h1⟩
set_option maxRecDepth 20000 in
set_option maxHeartbeats 1600000 in
theorem St.mainS (h : St w0 w tb mb N rs) (s : Int) (hroom : N.length < 65500) :
    Calls Try.prog 11 #[.pointer (some ⟨tb, 0, none⟩), .int .i64 s] w fun e w' => e = .returned (.int .i64 (deriveN N s lMain 0).1) ∧ St w0 w' tb mb (deriveN N s lMain 0).2 rs := by
  have c1 := h.ofS lMain s (by decide) (by omega)
  clear h hroom
  go_enter Try.func11, Try.ntmps11
  go_wp2_with fail
  refine c1.mono ?_
  rintro e w1 ⟨rfl, h1⟩
  go_wp2_with fail
  go_ret
  exact ⟨rfl, h1⟩
set_option maxRecDepth 20000 in
set_option maxHeartbeats 1600000 in
theorem St.firstS (h : St w0 w tb mb N rs) {vb : Value} {zb : List Int} (hb : Rd .u8 w vb zb) (hl : zb.length ≤ 2048) (hroom : N.length < 65500) {T D E : Int × List Nd} (hT : T = textN N (bstr zb)) (hD : D = deriveN T.2 T.1 lClientIn 0) (hE : E = deriveN D.2 T.1 lServerIn 0) :
    Calls Try.prog 14 #[.pointer (some ⟨tb, 0, none⟩), vb] w fun e w' => e = .returned (.tuple #[.int .i64 D.1, .int .i64 E.1]) ∧ St w0 w' tb mb E.2 rs := by
  have c1 := h.text hb hl (by omega)
  have n1 := textN_len N (bstr zb)
  rw [← hT] at c1 n1
  have n2 := derive_len T.2 T.1 lClientIn 0
  rw [← hD] at n2
  have HN : Hid (T.2.length < 65534 ∧ D.2.length < 65534) := Lib.hid (by omega)
  have HD := Lib.hid hD
  have HE := Lib.hid hE
  obtain ⟨ao, cap, rfl, _⟩ := hb
  clear h hl hroom n1 n2 hT hD hE
  go_enter Try.func14, Try.ntmps14
  go_wp2_with fail
  refine c1.mono ?_
  rintro e w1 ⟨rfl, h1⟩
  have c2 := h1.ofS lClientIn T.1 (by decide) HN.out.1
  rw [← HD.out] at c2
  clear c1
  go_wp2_with fail
  refine c2.mono ?_
  rintro e w2 ⟨rfl, h2⟩
  have c3 := h2.ofS lServerIn T.1 (by decide) HN.out.2
  rw [← HE.out] at c3
  clear c2
  go_wp2_with fail
  refine c3.mono ?_
  rintro e w3 ⟨rfl, h3⟩
  go_wp2_with fail
  go_ret2
  exact ⟨rfl, h3⟩
/-- The early secret. -/
def earlyN (N : List Nd) (t : Int) : Int × List Nd := if t = 0 then deriveN (textN N lNone).2 (textN N lNone).1 lEarly 0 else deriveN N t lEarly 0
theorem earlyN_len (N : List Nd) (t : Int) : (earlyN N t).2.length ≤ N.length + 4 := by
  unfold earlyN
  have h1 := textN_len N lNone
  split
  · have := derive_len (textN N lNone).2 (textN N lNone).1 lEarly 0; omega
  · have := derive_len N t lEarly 0; omega
set_option maxRecDepth 20000 in
set_option maxHeartbeats 1600000 in
theorem St.earlyS (h : St w0 w tb mb N rs) (t : Int) (hroom : N.length < 65500) :
    Calls Try.prog 10 #[.pointer (some ⟨tb, 0, none⟩), .int .i64 t] w fun e w' => e = .returned (.int .i64 (earlyN N t).1) ∧ St w0 w' tb mb (earlyN N t).2 rs := by
  unfold earlyN
  by_cases ht : t = 0
  · subst ht
    rw [if_pos rfl]
    have c1 := (h.keep (below_alloc w (.cells (cs .u8 [110, 111, 110, 101]).toArray 5 ((cs .u8 [110, 111, 110, 101]).toArray.size, (cs .u8 [110, 111, 110, 101]).toArray.size + 1)))).text (Rd.litM w [110, 111, 110, 101] 4 rfl (by simp)) (by simp) (by omega)
    have hcv := conv_const w
    rw [show bstr [110, 111, 110, 101] = lNone from rfl] at c1
    have n1 := textN_len N lNone
    generalize textN N lNone = T at *
    have HN : Hid (T.2.length < 65534) := Lib.hid (by omega)
    clear h hroom n1
    go_enter Try.func10, Try.ntmps10
    go_wp2_with fail
    refine c1.mono ?_
    rintro e w1 ⟨rfl, h1⟩
    have c2 := h1.ofS lEarly T.1 (by decide) HN.out
    clear c1
    go_wp2_with fail
    refine c2.mono ?_
    rintro e w2 ⟨rfl, h2⟩
    go_wp2_with fail
    go_ret
    exact ⟨rfl, h2⟩
  · rw [if_neg ht]
    have e0 : (t == 0) = false := beq_eq_false_iff_ne.2 ht
    have c2 := h.ofS lEarly t (by decide) (by omega)
    clear h hroom ht
    go_enter Try.func10, Try.ntmps10
    go_wp2_with fail
    refine c2.mono ?_
    rintro e w2 ⟨rfl, h2⟩
    go_wp2_with fail
    go_ret
    exact ⟨rfl, h2⟩
set_option maxRecDepth 20000 in
set_option maxHeartbeats 1600000 in
theorem St.shakenS (h : St w0 w tb mb N rs) (x y : Int) (hroom : N.length < 65500) {T D : Int × List Nd} (hT : T = makeN N 3 [x, y]) (hD : D = deriveN T.2 T.1 lHandshake 0) :
    Calls Try.prog 9 #[.pointer (some ⟨tb, 0, none⟩), .int .i64 x, .int .i64 y] w fun e w' => e = .returned (.int .i64 D.1) ∧ St w0 w' tb mb D.2 rs := by
  have c1 := (h.keep (below_alloc w (.cells (cs .i64 [x, y]).toArray 26))).makes 3 (Rd.lit .i64 26 w [x, y] (by simp)) (by simp) (by omega)
  have n1 := (makeN_len N 3 [x, y]).2
  rw [← hT] at c1 n1
  have HN : Hid (T.2.length < 65534) := Lib.hid (by omega)
  have HD := Lib.hid hD
  clear h hroom n1 hT hD
  go_enter Try.func9, Try.ntmps9
  go_wp2_with fail
  refine c1.mono ?_
  rintro e w1 ⟨rfl, h1⟩
  have c2 := h1.ofS lHandshake T.1 (by decide) HN.out
  rw [← HD.out] at c2
  clear c1
  go_wp2_with fail
  refine c2.mono ?_
  rintro e w2 ⟨rfl, h2⟩
  go_wp2_with fail
  go_ret
  exact ⟨rfl, h2⟩
end Go.Proofs.Ytmplcibaoanlnaa
namespace Go.Proofs.Ytmplcibaoanlnaa
open Go Go.RowKit

theorem fits_mem {N : List Nd} {k : Int} {ps : List Int} (hf : fitsN N k ps = true) : ∀ p ∈ ps, 1 ≤ p ∧ p ≤ (N.length : Int) := by
  unfold fitsN at hf
  cases ha : askL k ps.length with
  | none => rw [ha] at hf; cases hf
  | some l =>
    rw [ha] at hf
    simp only [Bool.and_eq_true, decide_eq_true_eq, List.all_eq_true, List.mem_range] at hf
    intro p hp
    obtain ⟨j, hj, rfl⟩ := List.mem_iff_getElem.1 hp
    have := hf.2 j hj
    unfold okN at this
    simp only [Bool.and_eq_true, decide_eq_true_eq, List.getD_eq_getElem?_getD, List.getElem?_eq_getElem hj, Option.getD_some] at this
    exact this.1
/-- A number that no small table has. -/
def Far (x : Int) : Prop := x < 1 ∨ 100 < x
theorem make_none {N : List Nd} {k x : Int} {ps : List Int} (hx : x ∈ ps) (h : Far x) (hN : N.length ≤ 100) : makeN N k ps = (0, N) := by
  unfold makeN
  refine if_neg fun hf => ?_
  have := fits_mem hf x hx
  unfold Far at h
  omega
theorem far0 : Far 0 := .inl (by decide)
theorem derive_none {N : List Nd} {s c : Int} (l : ByteArray) (h : Far s ∨ (Far c ∧ c ≠ 0)) (hN : N.length ≤ 90) : (deriveN N s l c).1 = 0 := by
  unfold deriveN
  have h1 := textN_len N ByteArray.empty
  have h2 := textN_len (textN N ByteArray.empty).2 l
  have h3 := textN_len N l
  split
  · rename_i hc
    rcases h with h | h
    · rw [make_none (x := s) (by simp) h (by omega)]
    · exact absurd hc h.2
  · rcases h with h | h
    · rw [make_none (x := s) (by simp) h (by omega)]
    · rw [make_none (x := c) (by simp) h.1 (by omega)]
theorem at_none {N : List Nd} {s c : Int} (l : ByteArray) (h : Far s ∨ Far c) (hN : N.length ≤ 90) : (atN N l s c).1 = 0 := by
  unfold atN
  split
  · rfl
  · rename_i hc
    exact derive_none l (h.imp id fun h => ⟨h, hc⟩) hN

variable {w0 w : World} {tb mb : Nat} {N : List Nd} {rs : List (Value × List Int)}
/-- A table of at most n nodes more. -/
def More (w0 w : World) (tb mb : Nat) (n : Nat) (rs : List (Value × List Int)) : Prop := ∃ N : List Nd, N.length ≤ n ∧ St w0 w tb mb N rs
theorem shakenTraffic_none (h : St w0 w tb mb N rs) (s x : Int) (hx : Far s ∨ Far x) {n : Nat} (hN : N.length ≤ n) (hn : n ≤ 80) :
    Calls Try.prog 12 #[.pointer (some ⟨tb, 0, none⟩), .int .i64 s, .int .i64 x] w fun e w' => e = .returned (.tuple #[.int .i64 0, .int .i64 0]) ∧ More w0 w' tb mb (n + 6) rs := by
  have n1 := atN_len N lClientHs s x
  have n2 := atN_len (atN N lClientHs s x).2 lServerHs s x
  refine (h.shakenTrafficS s x (by omega)).mono fun e w' ⟨h1, h2⟩ => ⟨?_, _, ?_, h2⟩
  · rw [h1, at_none _ hx (by omega), at_none _ hx (by omega)]
  · omega
theorem mainTraffic_none (h : St w0 w tb mb N rs) (s x : Int) (hx : Far s ∨ Far x) {n : Nat} (hN : N.length ≤ n) (hn : n ≤ 80) :
    Calls Try.prog 13 #[.pointer (some ⟨tb, 0, none⟩), .int .i64 s, .int .i64 x] w fun e w' => e = .returned (.tuple #[.int .i64 0, .int .i64 0]) ∧ More w0 w' tb mb (n + 6) rs := by
  have n1 := atN_len N lClientApp s x
  have n2 := atN_len (atN N lClientApp s x).2 lServerApp s x
  refine (h.mainTrafficS s x (by omega)).mono fun e w' ⟨h1, h2⟩ => ⟨?_, _, ?_, h2⟩
  · rw [h1, at_none _ hx (by omega), at_none _ hx (by omega)]
  · omega
theorem resume_none (h : St w0 w tb mb N rs) (s x : Int) (hx : Far s ∨ Far x) {n : Nat} (hN : N.length ≤ n) (hn : n ≤ 80) :
    Calls Try.prog 16 #[.pointer (some ⟨tb, 0, none⟩), .int .i64 s, .int .i64 x] w fun e w' => e = .returned (.int .i64 0) ∧ More w0 w' tb mb (n + 3) rs := by
  have n1 := atN_len N lResume s x
  refine (h.resumeS s x (by omega)).mono fun e w' ⟨h1, h2⟩ => ⟨?_, _, ?_, h2⟩
  · rw [h1, at_none _ hx (by omega)]
  · omega
theorem main_none (h : St w0 w tb mb N rs) (s : Int) (hx : Far s) {n : Nat} (hN : N.length ≤ n) (hn : n ≤ 80) :
    Calls Try.prog 11 #[.pointer (some ⟨tb, 0, none⟩), .int .i64 s] w fun e w' => e = .returned (.int .i64 0) ∧ More w0 w' tb mb (n + 3) rs := by
  have n1 := derive_len N s lMain 0
  refine (h.mainS s (by omega)).mono fun e w' ⟨h1, h2⟩ => ⟨?_, _, ?_, h2⟩
  · rw [h1, derive_none _ (.inl hx) (by omega)]
  · omega
theorem finished_none (h : St w0 w tb mb N rs) (s x : Int) (hx : Far s) {n : Nat} (hN : N.length ≤ n) (hn : n ≤ 80) :
    Calls Try.prog 15 #[.pointer (some ⟨tb, 0, none⟩), .int .i64 s, .int .i64 x] w fun e w' => e = .returned (.int .i64 0) ∧ More w0 w' tb mb (n + 4) rs := by
  have n1 := macN_len N lFinished s x
  have n2 := derive_len N s lFinished 0
  refine (h.finishedS s x (by omega)).mono fun e w' ⟨h1, h2⟩ => ⟨?_, _, ?_, h2⟩
  · rw [h1]
    unfold macN
    rw [derive_none _ (.inl hx) (by omega), make_none (x := 0) (by simp) far0 (by omega)]
  · omega
theorem next_none (h : St w0 w tb mb N rs) (x : Int) (hx : Far x) {n : Nat} (hN : N.length ≤ n) (hn : n ≤ 80) :
    Calls Try.prog 6 #[.pointer (some ⟨tb, 0, none⟩), .int .i64 x, .slice none 0 0] w fun e w' => e = .returned (.int .i64 0) ∧ More w0 w' tb mb (n + 3) rs := by
  have n1 := nextN_len N x (bstr [])
  have n2 := textN_len N (bstr [])
  refine (h.nextS x (Rd.nil .u8 w) (Nat.zero_le _) (by omega)).mono fun e w' ⟨h1, h2⟩ => ⟨?_, _, ?_, h2⟩
  · rw [h1]
    unfold nextN
    rw [make_none (x := x) (k := 3) (by simp) hx (by omega), make_none (x := 0) (by simp) far0 (by simp only; omega)]
  · omega
theorem shaken_none (h : St w0 w tb mb N rs) (x y : Int) (hx : Far x) {n : Nat} (hN : N.length ≤ n) (hn : n ≤ 80) :
    Calls Try.prog 9 #[.pointer (some ⟨tb, 0, none⟩), .int .i64 x, .int .i64 y] w fun e w' => e = .returned (.int .i64 0) ∧ More w0 w' tb mb (n + 4) rs := by
  have n1 := (makeN_len N 3 [x, y]).2
  have n2 := derive_len (makeN N 3 [x, y]).2 (makeN N 3 [x, y]).1 lHandshake 0
  refine (h.shakenS x y (by omega) rfl rfl).mono fun e w' ⟨h1, h2⟩ => ⟨?_, _, ?_, h2⟩
  · rw [h1, make_none (x := x) (by simp) hx (by omega), derive_none _ (.inl far0) (by simp only; omega)]
  · omega

theorem aw15 : textN [] ByteArray.empty = (1, [(1, ByteArray.empty, [])]) ∧ ((nextN [(1, ByteArray.empty, [])] 1 (bstr [120])).1 != 1) = true := by decide +kernel
theorem aw15h : Has [(1, ByteArray.empty, [])] 1 (1, ByteArray.empty, []) := ⟨by decide, rfl, by decide +kernel⟩
set_option maxRecDepth 20000 in
set_option maxHeartbeats 1600000 in
theorem awake15 (w : World) : Calls Try.prog 18 #[] w fun e w' => e = .returned (.bool true) ∧ Below w.heap.size w w' := by
  have a2 := aw15.2
  have hcv : ∀ (w : World) (o : Obj) (C : Array Value) (n c : Nat), (convert 22 22 (.slice (some ⟨w.heap.size + 1, 0, none⟩) n c)).run Try.prog ((w.alloc o).alloc (.cells C 5)) = .ok (.slice (some ⟨w.heap.size + 1, 0, none⟩) n c) ((w.alloc o).alloc (.cells C 5 (C.size, C.size + 1))) := fun w o C n c => by
    have := conv_const (w.alloc o) C n c
    simpa only [World.size_alloc] using this
  generalize hM : nextN [(1, ByteArray.empty, [])] 1 (bstr [120]) = M at *
  have HM := Lib.hid hM
  clear hM
  go_enter Try.func18, Try.ntmps18
  go_wp2_with fail
  refine (St.new w).mono ?_
  rintro e w1 ⟨tb, mb, rfl, s1⟩
  have c1 := s1.beginS (by simp)
  rw [aw15.1] at c1
  go_wp2_with fail
  refine c1.mono ?_
  rintro e w2 ⟨rfl, s2⟩
  clear c1 s1
  have c2 := s2.look1 aw15h
  go_wp2_with fail
  refine c2.mono ?_
  rintro e w3 ⟨ao, cap, rfl, s3, b3⟩
  clear c2 s2
  have s4 := s3.keep (below_alloc w3 (.cells #[.int .i64 1, .string ByteArray.empty, .slice ao 0 cap] 47))
  have s5 := s4.keep (below_alloc _ (.cells (cs .u8 [120]).toArray 5 ((cs .u8 [120]).toArray.size, (cs .u8 [120]).toArray.size + 1)))
  have r5 := Rd.litM (w3.alloc (.cells #[.int .i64 1, .string ByteArray.empty, .slice ao 0 cap] 47)) [120] 1 rfl (by simp)
  rw [World.size_alloc] at r5
  have c3 := s5.nextS 1 r5 (by simp) (by simp)
  rw [HM.out] at c3
  clear s3 s4 s5
  go_wp2_with fail
  refine c3.mono ?_
  rintro e w6 ⟨rfl, s6⟩
  have HB := Lib.hid s6.bel
  clear c3 s6
  go_wp2_with fail
  go_ret
  exact ⟨rfl, HB.out⟩
#print axioms awake15
end Go.Proofs.Ytmplcibaoanlnaa
namespace Go.Proofs.Ytmplcibaoanlnaa
open Go Go.RowKit

/-- c is the transcript of the messages ms, the last one first. -/
def IsTr (N : List Nd) : Int → List ByteArray → Prop
  | c, [] => Has N c (1, ByteArray.empty, [])
  | c, m :: ms => ∃ c' s r, IsTr N c' ms ∧ Has N s (1, m, []) ∧ Has N r (3, ByteArray.empty, [c', s]) ∧ Has N c (4, ByteArray.empty, [r])
theorem IsTr.ext {N : List Nd} {c : Int} {ms : List ByteArray} (h : IsTr N c ms) {M : List Nd} (hp : N <+: M) : IsTr M c ms := by
  induction ms generalizing c with
  | nil => exact Has.ext h hp
  | cons m ms ih =>
    obtain ⟨c', s, r, h1, h2, h3, h4⟩ := h
    exact ⟨c', s, r, ih h1, h2.ext hp, h3.ext hp, h4.ext hp⟩
theorem IsTr.rng {N : List Nd} {c : Int} {ms : List ByteArray} (h : IsTr N c ms) : 1 ≤ c ∧ c ≤ (N.length : Int) := by
  cases ms with
  | nil => exact ⟨Has.pos h, Has.le h⟩
  | cons m ms => obtain ⟨_, _, _, _, _, _, h4⟩ := h; exact ⟨h4.pos, h4.le⟩
theorem IsTr.inj {N : List Nd} {c : Int} {ms ms' : List ByteArray} (h : IsTr N c ms) (h' : IsTr N c ms') : ms = ms' := by
  induction ms generalizing c ms' with
  | nil =>
    cases ms' with
    | nil => rfl
    | cons m ms' =>
      obtain ⟨_, _, _, _, _, _, h4⟩ := h'
      have := Has.node h h4
      simp at this
  | cons m ms ih =>
    obtain ⟨c1, s1, r1, a1, a2, a3, a4⟩ := h
    cases ms' with
    | nil =>
      have := Has.node a4 h'
      simp at this
    | cons m' ms' =>
      obtain ⟨c2, s2, r2, b1, b2, b3, b4⟩ := h'
      have e1 := a4.node b4
      simp only [Prod.mk.injEq, List.cons.injEq, true_and, and_true] at e1
      subst e1
      have e2 := a3.node b3
      simp only [Prod.mk.injEq, List.cons.injEq, true_and, and_true] at e2
      obtain ⟨rfl, rfl⟩ := e2
      have e3 := a2.node b2
      simp only [Prod.mk.injEq, true_and, and_true] at e3
      rw [ih a1 b1, e3]
theorem IsTr.num {N : List Nd} {c c' : Int} {ms : List ByteArray} (h : IsTr N c ms) (h' : IsTr N c' ms) : c = c' := by
  induction ms generalizing c c' with
  | nil => exact Has.num h h'
  | cons m ms ih =>
    obtain ⟨c1, s1, r1, a1, a2, a3, a4⟩ := h
    obtain ⟨c2, s2, r2, b1, b2, b3, b4⟩ := h'
    obtain rfl := ih a1 b1
    obtain rfl := a2.num b2
    obtain rfl := a3.num b3
    exact a4.num b4
theorem IsTr.iff {N : List Nd} {c c' : Int} {ms ms' : List ByteArray} (h : IsTr N c ms) (h' : IsTr N c' ms') : c = c' ↔ ms = ms' :=
  ⟨fun e => by subst e; exact h.inj h', fun e => by subst e; exact h.num h'⟩

theorem fitsP {N : List Nd} {k : Int} {ps : List Int} (hk : k = 3 ∨ k = 5) (hl : ps.length = 2) (h : ∀ p ∈ ps, 1 ≤ p ∧ p ≤ (N.length : Int)) : fitsN N k ps = true := by
  obtain ⟨a, b, rfl⟩ : ∃ a b, ps = [a, b] := by
    match ps, hl with
    | [a, b], _ => exact ⟨a, b, rfl⟩
  have ha := h a (by simp)
  have hb := h b (by simp)
  have hask : askL k 2 = some [0, 0] := by rcases hk with rfl | rfl <;> rfl
  unfold fitsN
  simp only [List.length_cons, List.length_nil, Nat.zero_add, Nat.reduceAdd, hask]
  simp [List.range_succ, okN, ha, hb]
theorem fits4 {N : List Nd} {a : Int} (h : 1 ≤ a ∧ a ≤ (N.length : Int)) : fitsN N 4 [a] = true := by
  have hask : askL 4 1 = some [0] := rfl
  unfold fitsN
  simp only [List.length_cons, List.length_nil, Nat.zero_add, hask]
  simp [okN, h]
theorem pair_has {N : List Nd} (hN : GoodN N) {k a b : Int} (hk : k = 3 ∨ k = 5) (ha : 1 ≤ a ∧ a ≤ (N.length : Int)) (hb : 1 ≤ b ∧ b ≤ (N.length : Int)) :
    Has (makeN N k [a, b]).2 (makeN N k [a, b]).1 (k, ByteArray.empty, [a, b]) ∧ N <+: (makeN N k [a, b]).2 ∧ GoodN (makeN N k [a, b]).2 := by
  have hm : ∀ p ∈ [a, b], 1 ≤ p ∧ p ≤ (N.length : Int) := fun p hp => by
    simp only [List.mem_cons, List.not_mem_nil, or_false] at hp
    rcases hp with rfl | rfl
    · exact ha
    · exact hb
  exact make_has hN (by omega) (by omega) (fitsP hk rfl hm) fun p hp => (hm p hp).1
/-- A message more. -/
theorem next_has {N : List Nd} (hN : GoodN N) {c : Int} {ms : List ByteArray} (h : IsTr N c ms) (m : ByteArray) : IsTr (nextN N c m).2 (nextN N c m).1 (m :: ms) ∧ N <+: (nextN N c m).2 ∧ GoodN (nextN N c m).2 := by
  unfold nextN
  obtain ⟨a1, a2, a3⟩ := text_has hN m
  generalize textN N m = T at *
  have hT := a2.length_le
  have hr := h.rng
  obtain ⟨b1, b2, b3⟩ := pair_has a3 (k := 3) (.inl rfl) (a := c) (b := T.1) ⟨hr.1, by omega⟩ ⟨a1.pos, a1.le⟩
  generalize makeN T.2 3 [c, T.1] = U at *
  obtain ⟨d1, d2, d3⟩ := make_has b3 (k := 4) (ps := [U.1]) (by decide) (by decide) (fits4 ⟨b1.pos, b1.le⟩) (fun p hp => by rw [List.mem_singleton.1 hp]; exact b1.pos)
  exact ⟨⟨c, T.1, U.1, h.ext (a2.trans (b2.trans d2)), a1.ext (b2.trans d2), b1.ext d2, d1⟩, a2.trans (b2.trans d2), d3⟩

/-- c is derived of s by lab, with the context x. -/
def Drv (M : List Nd) (c s : Int) (lab : ByteArray) (x : Int) : Prop := ∃ l, Has M l (1, lab, []) ∧ Has M c (6, ByteArray.empty, [s, l, x])
theorem Drv.ext {N M : List Nd} {c s x : Int} {lab : ByteArray} (h : Drv N c s lab x) (hp : N <+: M) : Drv M c s lab x := by
  obtain ⟨l, h1, h2⟩ := h; exact ⟨l, h1.ext hp, h2.ext hp⟩
theorem Drv.rng {N : List Nd} {c s x : Int} {lab : ByteArray} (h : Drv N c s lab x) : 1 ≤ c ∧ c ≤ (N.length : Int) := by
  obtain ⟨l, h1, h2⟩ := h; exact ⟨h2.pos, h2.le⟩
theorem Drv.iff {M : List Nd} {c d s s' x x' : Int} {lab lab' : ByteArray} (h : Drv M c s lab x) (h' : Drv M d s' lab' x') : c = d ↔ s = s' ∧ lab = lab' ∧ x = x' := by
  obtain ⟨l, h1, h2⟩ := h
  obtain ⟨l', h3, h4⟩ := h'
  constructor
  · intro e
    subst e
    have e1 := h2.node h4
    simp only [Prod.mk.injEq, List.cons.injEq, true_and, and_true] at e1
    obtain ⟨rfl, rfl, rfl⟩ := e1
    have e2 := h1.node h3
    simp only [Prod.mk.injEq, true_and, and_true] at e2
    exact ⟨rfl, e2, rfl⟩
  · rintro ⟨rfl, rfl, rfl⟩
    obtain rfl := h1.num h3
    exact h2.num h4
theorem derive_der {N : List Nd} (hN : GoodN N) {s x : Int} (hs : 1 ≤ s ∧ s ≤ (N.length : Int)) (hx : 1 ≤ x ∧ x ≤ (N.length : Int)) (l : ByteArray) : Drv (deriveN N s l x).2 (deriveN N s l x).1 s l x ∧ N <+: (deriveN N s l x).2 ∧ GoodN (deriveN N s l x).2 := by
  obtain ⟨k, h1, h2, h3, h4⟩ := derive_has hN hs l hx
  exact ⟨⟨k, h1, h2⟩, h3, h4⟩
theorem at_der {N : List Nd} (hN : GoodN N) {s x : Int} (hs : 1 ≤ s ∧ s ≤ (N.length : Int)) (hx : 1 ≤ x ∧ x ≤ (N.length : Int)) (l : ByteArray) : Drv (atN N l s x).2 (atN N l s x).1 s l x ∧ N <+: (atN N l s x).2 ∧ GoodN (atN N l s x).2 := by
  unfold atN
  rw [if_neg (by omega)]
  exact derive_der hN hs hx l
/-- With the empty text. -/
def Drv0 (M : List Nd) (c s : Int) (lab : ByteArray) : Prop := ∃ e, Has M e (1, ByteArray.empty, []) ∧ Drv M c s lab e
theorem Drv0.ext {N M : List Nd} {c s : Int} {lab : ByteArray} (h : Drv0 N c s lab) (hp : N <+: M) : Drv0 M c s lab := by
  obtain ⟨l, h1, h2⟩ := h; exact ⟨l, h1.ext hp, h2.ext hp⟩
theorem Drv0.rng {N : List Nd} {c s : Int} {lab : ByteArray} (h : Drv0 N c s lab) : 1 ≤ c ∧ c ≤ (N.length : Int) := by
  obtain ⟨l, h1, h2⟩ := h; exact h2.rng
theorem Drv0.iff {M : List Nd} {c d s s' : Int} {lab lab' : ByteArray} (h : Drv0 M c s lab) (h' : Drv0 M d s' lab') : c = d ↔ s = s' ∧ lab = lab' := by
  obtain ⟨e, h1, h2⟩ := h
  obtain ⟨e', h3, h4⟩ := h'
  obtain rfl := h1.num h3
  rw [h2.iff h4]
  simp
theorem derive_der0 {N : List Nd} (hN : GoodN N) {s : Int} (hs : 1 ≤ s ∧ s ≤ (N.length : Int)) (l : ByteArray) : Drv0 (deriveN N s l 0).2 (deriveN N s l 0).1 s l ∧ N <+: (deriveN N s l 0).2 ∧ GoodN (deriveN N s l 0).2 := by
  obtain ⟨k, e, h1, h2, h3, h4, h5⟩ := derive0_has hN hs l
  exact ⟨⟨e, h1, k, h2, h3⟩, h4, h5⟩
/-- c is the mac of tr by the key that lab derives of s. -/
def IsMac (M : List Nd) (c s : Int) (lab : ByteArray) (tr : Int) : Prop := ∃ k, Drv0 M k s lab ∧ Has M c (5, ByteArray.empty, [k, tr])
theorem IsMac.ext {N M : List Nd} {c s x : Int} {lab : ByteArray} (h : IsMac N c s lab x) (hp : N <+: M) : IsMac M c s lab x := by
  obtain ⟨l, h1, h2⟩ := h; exact ⟨l, h1.ext hp, h2.ext hp⟩
theorem IsMac.rng {N : List Nd} {c s x : Int} {lab : ByteArray} (h : IsMac N c s lab x) : 1 ≤ c ∧ c ≤ (N.length : Int) := by
  obtain ⟨l, h1, h2⟩ := h; exact ⟨h2.pos, h2.le⟩
theorem IsMac.iff {M : List Nd} {c d s s' x x' : Int} {lab lab' : ByteArray} (h : IsMac M c s lab x) (h' : IsMac M d s' lab' x') : c = d ↔ s = s' ∧ lab = lab' ∧ x = x' := by
  obtain ⟨l, h1, h2⟩ := h
  obtain ⟨l', h3, h4⟩ := h'
  constructor
  · intro e
    subst e
    have e1 := h2.node h4
    simp only [Prod.mk.injEq, List.cons.injEq, true_and, and_true] at e1
    obtain ⟨rfl, rfl⟩ := e1
    have := (h1.iff h3).1 rfl
    exact ⟨this.1, this.2, rfl⟩
  · rintro ⟨rfl, rfl, rfl⟩
    obtain rfl := (h1.iff h3).2 ⟨rfl, rfl⟩
    exact h2.num h4
theorem mac_has {N : List Nd} (hN : GoodN N) {s x : Int} (hs : 1 ≤ s ∧ s ≤ (N.length : Int)) (hx : 1 ≤ x ∧ x ≤ (N.length : Int)) (l : ByteArray) : IsMac (macN N l s x).2 (macN N l s x).1 s l x ∧ N <+: (macN N l s x).2 ∧ GoodN (macN N l s x).2 := by
  unfold macN
  obtain ⟨a1, a2, a3⟩ := derive_der0 hN hs l
  generalize deriveN N s l 0 = T at *
  have hT := a2.length_le
  obtain ⟨b1, b2, b3⟩ := pair_has a3 (k := 5) (.inr rfl) (a := T.1) (b := x) a1.rng ⟨hx.1, by omega⟩
  exact ⟨⟨T.1, a1.ext b2, b1⟩, a2.trans b2, b3⟩
#print axioms mac_has
end Go.Proofs.Ytmplcibaoanlnaa
namespace Go.Proofs.Ytmplcibaoanlnaa
open Go.ChangeShapes Go.WideShapes Go.ChangeAt Go.RowKit

/-- A slice of bytes among what came in. -/
theorem rdb_in {W : World} {H : Type} {enc : TypeId × Value → H} {base : Nat} {sp : Nat → Bool} {held : Bool} {v : Value} {fuel : Nat} {x : DataW H × List MemPlace} (h : DataW.trod enc Try.prog W base sp held fuel 22 [v] = some x) :
    ∃ a cap zs, v = .slice a zs.length cap ∧ Rd .u8 W (.slice a zs.length cap) zs := by
  rcases open_ints Try.underlying22 Try.underlying5 (by kernel_rfl) h with ⟨hcs, _⟩ | ⟨y, l, c, zs, hcs, _, hl, hm, hz, _, hcell, hwz⟩
  · simp at hcs
    exact ⟨none, 0, [], hcs, Rd.nil .u8 W⟩
  · simp at hcs
    have hz' : l ≤ zs.length := by
      simp only [hz]
      split <;> omega
    have hlen : (zs.take l).length = l := by simp; omega
    refine ⟨some y, c, zs.take l, by rw [hlen]; exact hcs, ⟨some y, c, rfl, by rw [hlen]; exact hl, hm, (fun h => by cases h), ?_⟩⟩
    · intro a ha j hj
      cases ha
      rw [hlen] at hj
      rw [hcell j (by omega)]
      simp [List.getD, hj]
theorem bytes_in {W : World} {H : Type} {enc : TypeId × Value → H} {base : Nat} {sp : Nat → Bool} {held : Bool} {a : Option Addr} {len cap : Nat} {d : DataW H} {p : List MemPlace} (h : DataW.Trod enc Try.prog W base sp held 22 (.slice a len cap) d p) :
    ∃ zs, Rd .u8 W (.slice a len cap) zs ∧ zs.length = len := by
  obtain ⟨fuel, hf⟩ := h
  obtain ⟨a', c', zs, hv, hr⟩ := rdb_in hf
  simp only [Value.slice.injEq] at hv
  obtain ⟨rfl, rfl, rfl⟩ := hv
  exact ⟨zs, hr, rfl⟩
/-- A list of slices of bytes that came in. -/
structure Rl (w : World) (v : Value) (qs : List (Value × List Int)) : Prop where
  shape : ∃ ao cap, v = .slice ao qs.length cap ∧ ∀ (k : Nat) q, qs[k]? = some q → ∃ b off, ao = some ⟨b, off, none⟩ ∧ w.cell? ⟨b, off + k, none⟩ = some q.1
  rd : ∀ q ∈ qs, Rd .u8 w q.1 q.2
theorem scS : Try.prog.cellsOf 22 = 1 := by kernel_rfl
theorem list_of {α : Type} {p : Nat → α → Prop} (n : Nat) (each : ∀ i, i < n → ∃ s, p i s) : ∃ l : List α, l.length = n ∧ ∀ i s, l[i]? = some s → p i s := by
  induction n with
  | zero => exact ⟨[], rfl, fun i s h => by simp at h⟩
  | succ n ih =>
    obtain ⟨l, h1, h2⟩ := ih (fun i hi => each i (by omega))
    obtain ⟨s, hs⟩ := each n (by omega)
    refine ⟨l ++ [s], by simp [h1], fun i s' h => ?_⟩
    by_cases hi : i < n
    · rw [List.getElem?_append_left (by omega)] at h
      exact h2 i s' h
    · have hlt := (List.getElem?_eq_some_iff.1 h).1
      simp only [List.length_append, List.length_cons, List.length_nil] at hlt
      obtain rfl : i = n := by omega
      rw [List.getElem?_append_right (by omega), h1, Nat.sub_self] at h
      simp at h
      subst h
      exact hs
theorem rows_in {W : World} {H : Type} {enc : TypeId × Value → H} {base : Nat} {sp : Nat → Bool} {held : Bool} {a : Option Addr} {len cap : Nat} {d : DataW H} {p : List MemPlace} (h : DataW.Trod enc Try.prog W base sp held 23 (.slice a len cap) d p) :
    ∃ qs, Rl W (.slice a len cap) qs ∧ qs.length = len := by
  obtain ⟨fuel, hf⟩ := h
  rcases Go.Deep.open_slice Try.underlying23 hf with ⟨hcs, _⟩ | ⟨ad, l, c, m, n, D, Pl, hcs, hb, hl, hm, hmm, _, hx⟩
  · simp [Value.cells] at hcs
    obtain ⟨rfl, rfl, rfl⟩ := hcs
    exact ⟨[], ⟨⟨none, 0, rfl, fun k q h => by simp at h⟩, fun q h => by cases h⟩, rfl⟩
  · simp [Value.cells] at hcs
    obtain ⟨rfl, rfl, rfl⟩ := hcs
    have hlm : len ≤ m := by rw [hmm]; split <;> omega
    have each : ∀ i, i < len → ∃ q : Value × List Int, W.cell? (ad.add i) = some q.1 ∧ Rd .u8 W q.1 q.2 := fun i hi => by
      obtain ⟨cs', h1, h2⟩ := hx i (by omega)
      rw [scS] at h1
      obtain ⟨_, hlen, hcell⟩ := World.cells?_some h1
      obtain ⟨v0, rfl⟩ : ∃ v0, cs' = [v0] := by
        match cs', hlen with
        | [v0], _ => exact ⟨v0, rfl⟩
      obtain ⟨a', c', zs, hv, hr⟩ := rdb_in h2
      have h0 := hcell 0 (by omega)
      refine ⟨(v0, zs), ?_, by rw [hv]; exact hr⟩
      simpa [Addr.add_add] using h0
    obtain ⟨l, h1, h2⟩ := list_of len each
    subst h1
    refine ⟨l, ⟨⟨some ad, cap, rfl, fun k q hk => ?_⟩, fun q hq => ?_⟩, rfl⟩
    · have hc := (h2 k q hk).1
      obtain ⟨q0, hq0⟩ : ∃ q0, l[0]? = some q0 := ⟨_, List.getElem?_eq_getElem (by have := (List.getElem?_eq_some_iff.1 hk).1; omega)⟩
      have hc0 := (h2 0 q0 hq0).1
      obtain ⟨b, off, spot⟩ := ad
      have hs : spot = none := by simpa [Addr.add] using World.cell?_spot hc0
      subst hs
      rw [Addr.add_lit] at hc
      exact ⟨b, off, rfl, hc⟩
    · obtain ⟨i, hi⟩ := List.getElem?_of_mem hq
      exact (h2 i q hi).2
#print axioms rows_in
end Go.Proofs.Ytmplcibaoanlnaa
namespace Go.Proofs.Ytmplcibaoanlnaa
open Go Go.RowKit

theorem below_drewN (w : World) : ∀ n, Below w.heap.size w (w.drewN n)
  | 0 => Below.refl _ _
  | n + 1 => (below_drewN w n).drew
/-- The first j messages, the last one first. -/
def msOf (qs : List (Value × List Int)) (j : Nat) : List ByteArray := ((qs.take j).map fun q => bstr q.2).reverse
theorem msOf_succ {qs : List (Value × List Int)} {j : Nat} {q : Value × List Int} (h : qs[j]? = some q) : msOf qs (j + 1) = bstr q.2 :: msOf qs j := by
  unfold msOf
  rw [List.take_add_one, h]
  simp
end Go.Proofs.Ytmplcibaoanlnaa
namespace Go.Proofs.Ytmplcibaoanlnaa
open Go Go.RowKit

/-- The table since w0, and guests: blocks that are none of the table's. -/
structure Sg (w0 w : World) (tb mb : Nat) (N : List Nd) (rs : List (Nat × Obj)) : Prop where
  tab : ∃ nv, TabX w w0.heap.size tb mb nv N [] ∧ ∀ r ∈ rs, r.1 ≠ tb ∧ r.1 ≠ mb ∧ some r.1 ≠ nv.ownBlock
  own : ∀ r ∈ rs, w.heap[r.1]? = some r.2
  bel : Below w0.heap.size w0 w
theorem Sg.of_st {w0 w : World} {tb mb : Nat} {N : List Nd} (h : St w0 w tb mb N []) : Sg w0 w tb mb N [] := by
  obtain ⟨nv, ht⟩ := h.tab
  exact ⟨⟨nv, ht, fun r hr => by cases hr⟩, (fun r hr => by cases hr), h.bel⟩
theorem Sg.st {w0 w : World} {tb mb : Nat} {N : List Nd} {rs : List (Nat × Obj)} (h : Sg w0 w tb mb N rs) : St w0 w tb mb N [] := by
  obtain ⟨nv, ht, _⟩ := h.tab
  exact ⟨⟨nv, ht⟩, (fun r hr => by cases hr), List.Pairwise.nil, h.bel⟩
theorem Sg.sub {w0 w : World} {tb mb : Nat} {N : List Nd} {rs us : List (Nat × Obj)} (h : Sg w0 w tb mb N rs) (hs : ∀ u ∈ us, u ∈ rs) : Sg w0 w tb mb N us := by
  obtain ⟨nv, ht, hg⟩ := h.tab
  exact ⟨⟨nv, ht, fun r hr => hg r (hs r hr)⟩, (fun r hr => h.own r (hs r hr)), h.bel⟩
theorem Sg.keep {w0 w w' : World} {tb mb : Nat} {N : List Nd} {rs : List (Nat × Obj)} (h : Sg w0 w tb mb N rs) (hb : Below w.heap.size w w') : Sg w0 w' tb mb N rs := by
  obtain ⟨nv, ht, hg⟩ := h.tab
  exact ⟨⟨nv, ht.keep hb, hg⟩, (fun r hr => by rw [hb.block _ (blk_lt (h.own r hr))]; exact h.own r hr), h.bel.trans (hb.mono h.bel.size)⟩
/-- A guest comes. -/
theorem Sg.guest {w0 w : World} {tb mb : Nat} {N : List Nd} {rs : List (Nat × Obj)} (h : Sg w0 w tb mb N rs) (o : Obj) (g : Nat) (hg : g = w.heap.size) : Sg w0 (w.alloc o) tb mb N ((g, o) :: rs) := by
  subst hg
  obtain ⟨nv, ht, hg⟩ := h.tab
  obtain ⟨L, h1, _, _⟩ := ht.ex
  have hk := h.keep (below_alloc w o)
  refine ⟨⟨nv, ht.keep (below_alloc w o), fun r hr => ?_⟩, fun r hr => ?_, hk.bel⟩
  · rcases List.mem_cons.1 hr with rfl | hr
    · refine ⟨fun e => ?_, fun e => ?_, fun e => ?_⟩
      · have := blk_lt h1.tab; simp only at e; omega
      · have := h1.map.lt; simp only at e; omega
      · have := (h1.nodes.lt _ e.symm).2; omega
    · exact hg r hr
  · rcases List.mem_cons.1 hr with rfl | hr
    · show (w.heap.push o)[w.heap.size]? = some o
      simp
    · exact hk.own r hr
theorem Sg.ofPut {w0 w : World} {tb mb : Nat} {N : List Nd} {rs : List (Nat × Obj)} (h : Sg w0 w tb mb N rs) {nv : Value} (ht : TabX w w0.heap.size tb mb nv N []) (hg : ∀ r ∈ rs, r.1 ≠ tb ∧ r.1 ≠ mb ∧ some r.1 ≠ nv.ownBlock) {n : Nd} {e : Ending} {w' : World} (hm : PutX w w0.heap.size tb mb nv N [] n e w') :
    e = .returned (.int .i64 (putN N n).1) ∧ Sg w0 w' tb mb (putN N n).2 rs := by
  cases hc : idxN 1 N n with
  | some c =>
    rw [putN_old hc]
    obtain ⟨e1, hb⟩ := hm.old hc
    exact ⟨e1, h.keep hb⟩
  | none =>
    rw [putN_new hc]
    obtain ⟨e1, nv', h2, h4, h5⟩ := hm.new hc
    refine ⟨e1, ⟨nv', h2, fun r hr => ⟨(hg r hr).1, (hg r hr).2.1, ?_⟩⟩, (fun r hr => ?_), h.bel.trans (ht.at.below h4)⟩
    · rcases h5 with e | e
      · rw [e]; exact (hg r hr).2.2
      · intro e2
        have := e _ e2.symm
        have := blk_lt (h.own r hr)
        omega
    · rw [h4.block _ (blk_lt (h.own r hr)) (hg r hr).1 (hg r hr).2.1 (hg r hr).2.2]
      exact h.own r hr
set_option maxRecDepth 20000 in
theorem Sg.text {w0 w : World} {tb mb : Nat} {N : List Nd} {rs : List (Nat × Obj)} (h : Sg w0 w tb mb N rs) {vb : Value} {zb : List Int} (hb : Rd .u8 w vb zb) (hl : zb.length ≤ 2048) (hroom : N.length < 65536) :
    Calls Try.prog 19 #[.pointer (some ⟨tb, 0, none⟩), vb] w fun e w' => e = .returned (.int .i64 (textN N (bstr zb)).1) ∧ Sg w0 w' tb mb (textN N (bstr zb)).2 rs := by
  obtain ⟨nv, ht, hg⟩ := h.tab
  exact (ht.text hb hl hroom).mono fun e w' hm => h.ofPut ht hg hm
set_option maxRecDepth 20000 in
theorem Sg.makes {w0 w : World} {tb mb : Nat} {N : List Nd} {rs : List (Nat × Obj)} (h : Sg w0 w tb mb N rs) (k : Int) {pv : Value} {ps : List Int} (hp : Rd .i64 w pv ps) (hl : ps.length ≤ 1000000) (hroom : N.length < 65536) :
    Calls Try.prog 8 #[.pointer (some ⟨tb, 0, none⟩), .int .i64 k, pv] w fun e w' => e = .returned (.int .i64 (makeN N k ps).1) ∧ Sg w0 w' tb mb (makeN N k ps).2 rs := by
  obtain ⟨nv, ht, hg⟩ := h.tab
  unfold makeN
  by_cases hf : fitsN N k ps = true
  · rw [if_pos hf]
    exact (ht.make (fun v hv => by cases hv) k hp hl hf hroom h.bel.size).mono fun e w' hm => h.ofPut ht hg hm
  · rw [if_neg hf]
    exact (Tab.make_no ht.at k hp hl (by simpa using hf)).mono fun e w' ⟨e1, hb⟩ => ⟨e1, h.keep hb⟩
set_option maxRecDepth 20000 in
theorem Sg.secret {w0 w : World} {tb mb : Nat} {N : List Nd} {rs : List (Nat × Obj)} (h : Sg w0 w tb mb N rs) (hroom : N.length < 65536) {z : Int} (hz : (N.length : Int) + 1 = z) :
    Calls Try.prog 7 #[.pointer (some ⟨tb, 0, none⟩)] w fun e w' => e = .returned (.int .i64 z) ∧ Sg w0 w' tb mb (N ++ [secretNd]) rs := by
  obtain ⟨nv, ht, hg⟩ := h.tab
  refine (ht.secret hroom).mono fun e w' ⟨e1, nv', h2, h4, h5⟩ => ?_
  refine ⟨by rw [← hz]; exact e1, ⟨nv', h2, fun r hr => ⟨(hg r hr).1, (hg r hr).2.1, ?_⟩⟩, (fun r hr => ?_), h.bel.trans (ht.at.below h4)⟩
  · rcases h5 with e | e
    · rw [e]; exact (hg r hr).2.2
    · intro e2
      have := e _ e2.symm
      have := blk_lt (h.own r hr)
      omega
  · rw [h4.block _ (blk_lt (h.own r hr)) (hg r hr).1 (hg r hr).2.1 (hg r hr).2.2]
    exact h.own r hr
set_option maxRecDepth 20000 in
set_option maxHeartbeats 1600000 in
theorem Sg.derive {w0 w : World} {tb mb : Nat} {N : List Nd} {rs : List (Nat × Obj)} (h : Sg w0 w tb mb N rs) (secret context : Int) (s : ByteArray) (hl : s.size ≤ 2048) (hroom : N.length < 65534) :
    Calls Try.prog 34 #[.pointer (some ⟨tb, 0, none⟩), .int .i64 secret, .string s, .int .i64 context] w fun e w' => e = .returned (.int .i64 (deriveN N secret s context).1) ∧ Sg w0 w' tb mb (deriveN N secret s context).2 rs := by
  have hsz : s.size ≤ maxLen := by unfold maxLen; omega
  unfold deriveN
  by_cases hc : context = 0
  · rw [if_pos hc]
    subst hc
    have c1 := h.text (Rd.nil .u8 w) (Nat.zero_le _) (by omega)
    rw [empty_bstr] at c1
    have hlen := (putN_len N (1, ByteArray.empty, [])).2
    have HT : Hid ((textN N ByteArray.empty).2.length < 65535) := Lib.hid (by unfold textN; omega)
    generalize textN N ByteArray.empty = T at *
    have hlen2 := (putN_len T.2 (1, s, [])).2
    have HT2 : Hid ((textN T.2 s).2.length < 65536) := Lib.hid (by have := HT.out; unfold textN; omega)
    obtain ⟨U, hU⟩ : ∃ U, U = textN T.2 s := ⟨_, rfl⟩
    rw [← hU] at HT2 ⊢
    have HU := Lib.hid hU
    clear hU
    have HSL := Lib.hid hl
    have HSZ := Lib.hid hsz
    clear h hroom hlen hlen2 hl hsz
    go_enter Try.func34, Try.ntmps34
    go_wp2_with fail
    refine c1.mono ?_
    rintro e w1 ⟨rfl, h1⟩
    clear c1
    obtain ⟨v, w2, hv, hr, hb⟩ := conv_str w1 s HSZ.out
    have c2 := (h1.keep hb).text hr (by rw [sbytes_len]; exact HSL.out) (by have := HT.out; omega)
    rw [bstr_sbytes, ← HU.out] at c2
    go_wp2_with fail
    refine c2.mono ?_
    rintro e w3 ⟨rfl, h3⟩
    clear c2
    have c4 := (h3.keep (below_alloc w3 (.cells (cs .i64 [secret, U.1, T.1]).toArray 26))).makes 6 (Rd.lit .i64 26 w3 [secret, U.1, T.1] (by simp)) (by simp) HT2.out
    go_wp2_with fail
    refine c4.mono ?_
    rintro e w4 ⟨rfl, h4⟩
    go_wp2_with fail
    go_ret
    exact ⟨rfl, h4⟩
  · rw [if_neg hc]
    have hc0 : (context == 0) = false := beq_eq_false_iff_ne.2 hc
    have hlen2 := (putN_len N (1, s, [])).2
    have HT2 : Hid ((textN N s).2.length < 65536) := Lib.hid (by unfold textN; omega)
    obtain ⟨U, hU⟩ : ∃ U, U = textN N s := ⟨_, rfl⟩
    rw [← hU] at HT2 ⊢
    have HU := Lib.hid hU
    clear hU
    have HSL := Lib.hid hl
    have HSZ := Lib.hid hsz
    have HR := Lib.hid hroom
    clear hroom hlen2 hl hsz hc
    go_enter Try.func34, Try.ntmps34
    obtain ⟨v, w2, hv, hr, hb⟩ := conv_str w s HSZ.out
    have c2 := (h.keep hb).text hr (by rw [sbytes_len]; exact HSL.out) (by have := HR.out; omega)
    rw [bstr_sbytes, ← HU.out] at c2
    clear h
    go_wp2_with fail
    refine c2.mono ?_
    rintro e w3 ⟨rfl, h3⟩
    clear c2
    have c4 := (h3.keep (below_alloc w3 (.cells (cs .i64 [secret, U.1, context]).toArray 26))).makes 6 (Rd.lit .i64 26 w3 [secret, U.1, context] (by simp)) (by simp) HT2.out
    go_wp2_with fail
    refine c4.mono ?_
    rintro e w4 ⟨rfl, h4⟩
    go_wp2_with fail
    go_ret
    exact ⟨rfl, h4⟩

variable {w0 w : World} {tb mb : Nat} {N : List Nd} {rs : List (Nat × Obj)}
set_option maxRecDepth 20000 in
set_option maxHeartbeats 1600000 in
theorem Sg.beginS (h : Sg w0 w tb mb N rs) (hroom : N.length < 65536) :
    Calls Try.prog 5 #[.pointer (some ⟨tb, 0, none⟩)] w fun e w' => e = .returned (.int .i64 (textN N ByteArray.empty).1) ∧ Sg w0 w' tb mb (textN N ByteArray.empty).2 rs := by
  have c1 := h.text (Rd.nil .u8 w) (Nat.zero_le _) hroom
  rw [empty_bstr] at c1
  generalize textN N ByteArray.empty = T at *
  clear h hroom
  go_enter Try.func5, Try.ntmps5
  go_wp2_with fail
  refine c1.mono ?_
  rintro e w1 ⟨rfl, h1⟩
  go_wp2_with fail
  go_ret
  exact ⟨rfl, h1⟩
set_option maxRecDepth 20000 in
set_option maxHeartbeats 1600000 in
theorem Sg.nextS (h : Sg w0 w tb mb N rs) (tr : Int) {vb : Value} {zb : List Int} (hb : Rd .u8 w vb zb) (hl : zb.length ≤ 2048) (hroom : N.length < 65533) :
    Calls Try.prog 6 #[.pointer (some ⟨tb, 0, none⟩), .int .i64 tr, vb] w fun e w' => e = .returned (.int .i64 (nextN N tr (bstr zb)).1) ∧ Sg w0 w' tb mb (nextN N tr (bstr zb)).2 rs := by
  have c1 := h.text hb hl (by omega)
  have hlen := textN_len N (bstr zb)
  unfold nextN
  generalize (textN N (bstr zb)) = T at *
  have hlen2 := (makeN_len T.2 3 [tr, T.1]).2
  obtain ⟨U, hU⟩ : ∃ U, U = makeN T.2 3 [tr, T.1] := ⟨_, rfl⟩
  rw [← hU] at hlen2 ⊢
  have HL : Hid (T.2.length < 65536 ∧ U.2.length < 65536) := Lib.hid (by omega)
  have HU := Lib.hid hU
  obtain ⟨ao, cap, rfl, _⟩ := hb
  clear h hl hroom hlen hlen2 hU
  go_enter Try.func6, Try.ntmps6
  go_wp2_with fail
  refine c1.mono ?_
  rintro e w1 ⟨rfl, h1⟩
  have c2 := (h1.keep (below_alloc w1 (.cells (cs .i64 [tr, T.1]).toArray 26))).makes 3 (Rd.lit .i64 26 w1 [tr, T.1] (by simp)) (by simp) HL.out.1
  rw [← HU.out] at c2
  clear c1
  go_wp2_with fail
  refine c2.mono ?_
  rintro e w2 ⟨rfl, h2⟩
  have c3 := (h2.keep (below_alloc w2 (.cells (cs .i64 [U.1]).toArray 26))).makes 4 (Rd.lit .i64 26 w2 [U.1] (by simp)) (by simp) HL.out.2
  clear c2
  go_wp2_with fail
  refine c3.mono ?_
  rintro e w3 ⟨rfl, h3⟩
  go_wp2_with fail
  go_ret
  exact ⟨rfl, h3⟩
set_option maxRecDepth 20000 in
set_option maxHeartbeats 1600000 in
theorem Sg.ofS (h : Sg w0 w tb mb N rs) (l : ByteArray) (s : Int) (hl : l.size ≤ 2048) (hroom : N.length < 65534) :
    Calls Try.prog 25 #[.string l, .pointer (some ⟨tb, 0, none⟩), .int .i64 s] w fun e w' => e = .returned (.int .i64 (deriveN N s l 0).1) ∧ Sg w0 w' tb mb (deriveN N s l 0).2 rs := by
  have c1 := h.derive s 0 l hl hroom
  generalize deriveN N s l 0 = T at *
  clear h hroom hl
  go_enter Try.func25, Try.ntmps25
  go_wp2_with fail
  refine c1.mono ?_
  rintro e w1 ⟨rfl, h1⟩
  go_wp2_with fail
  go_ret
  exact ⟨rfl, h1⟩
set_option maxRecDepth 20000 in
set_option maxHeartbeats 1600000 in
theorem Sg.atS (h : Sg w0 w tb mb N rs) (l : ByteArray) (s tr : Int) (hl : l.size ≤ 2048) (hroom : N.length < 65534) :
    Calls Try.prog 27 #[.string l, .pointer (some ⟨tb, 0, none⟩), .int .i64 s, .int .i64 tr] w fun e w' => e = .returned (.int .i64 (atN N l s tr).1) ∧ Sg w0 w' tb mb (atN N l s tr).2 rs := by
  unfold atN
  by_cases ht : tr = 0
  · rw [if_pos ht]
    subst ht
    go_enter Try.func27, Try.ntmps27
    go_wp2_with fail
    go_ret
    exact ⟨rfl, h⟩
  · rw [if_neg ht]
    have e0 : (tr == 0) = false := beq_eq_false_iff_ne.2 ht
    have c1 := h.derive s tr l hl hroom
    generalize deriveN N s l tr = T at *
    clear h hroom hl ht
    go_enter Try.func27, Try.ntmps27
    go_wp2_with fail
    refine c1.mono ?_
    rintro e w1 ⟨rfl, h1⟩
    go_wp2_with fail
    go_ret
    exact ⟨rfl, h1⟩
set_option maxRecDepth 20000 in
set_option maxHeartbeats 1600000 in
/-- Both sides' secrets. -/
theorem Sg.bothS (h : Sg w0 w tb mb N rs) (a b : ByteArray) (s tr : Int) (hl : a.size ≤ 2048) (hk : b.size ≤ 2048) (hroom : N.length < 65530) :
    Calls Try.prog 26 #[.pointer (some ⟨tb, 0, none⟩), .int .i64 s, .int .i64 tr, .func (.func 27) #[.string a] #[], .func (.func 27) #[.string b] #[]] w fun e w' => e = .returned (.tuple #[.int .i64 (atN N a s tr).1, .int .i64 (atN (atN N a s tr).2 b s tr).1]) ∧ Sg w0 w' tb mb (atN (atN N a s tr).2 b s tr).2 rs := by
  have c1 := h.atS a s tr hl (by omega)
  have hlen := atN_len N a s tr
  generalize atN N a s tr = T at *
  have HT : Hid (T.2.length < 65534 ∧ b.size ≤ 2048) := Lib.hid ⟨by omega, hk⟩
  clear h hl hroom hlen hk
  go_enter Try.func26, Try.ntmps26
  go_wp2_with fail
  refine c1.mono ?_
  rintro e w1 ⟨rfl, h1⟩
  have c2 := h1.atS b s tr HT.out.2 HT.out.1
  clear h1
  go_wp2_with fail
  refine c2.mono ?_
  rintro e w2 ⟨rfl, h2⟩
  go_wp2_with fail
  go_ret2
  exact ⟨rfl, h2⟩
set_option maxRecDepth 20000 in
set_option maxHeartbeats 1600000 in
theorem Sg.macS (h : Sg w0 w tb mb N rs) (l : ByteArray) (s tr : Int) (hl : l.size ≤ 2048) (hroom : N.length < 65530) :
    Calls Try.prog 28 #[.pointer (some ⟨tb, 0, none⟩), .int .i64 s, .int .i64 tr, .func (.func 25) #[.string l] #[]] w fun e w' => e = .returned (.int .i64 (macN N l s tr).1) ∧ Sg w0 w' tb mb (macN N l s tr).2 rs := by
  have c1 := h.ofS l s hl (by omega)
  have hlen := derive_len N s l 0
  unfold macN
  generalize deriveN N s l 0 = T at *
  have HT : Hid (T.2.length < 65536) := Lib.hid (by omega)
  clear h hl hroom hlen
  go_enter Try.func28, Try.ntmps28
  go_wp2_with fail
  refine c1.mono ?_
  rintro e w1 ⟨rfl, h1⟩
  have c2 := (h1.keep (below_alloc w1 (.cells (cs .i64 [T.1, tr]).toArray 26))).makes 5 (Rd.lit .i64 26 w1 [T.1, tr] (by simp)) (by simp) HT.out
  clear h1
  go_wp2_with fail
  refine c2.mono ?_
  rintro e w2 ⟨rfl, h2⟩
  go_wp2_with fail
  go_ret
  exact ⟨rfl, h2⟩
set_option maxRecDepth 20000 in
set_option maxHeartbeats 1600000 in
theorem Sg.shakenTrafficS (h : Sg w0 w tb mb N rs) (s tr : Int) (hroom : N.length < 65500) :
    Calls Try.prog 12 #[.pointer (some ⟨tb, 0, none⟩), .int .i64 s, .int .i64 tr] w fun e w' => e = .returned (.tuple #[.int .i64 (atN N lClientHs s tr).1, .int .i64 (atN (atN N lClientHs s tr).2 lServerHs s tr).1]) ∧ Sg w0 w' tb mb (atN (atN N lClientHs s tr).2 lServerHs s tr).2 rs := by
  have c1 := h.bothS lClientHs lServerHs s tr (by decide) (by decide) (by omega)
  clear h hroom
  go_enter Try.func12, Try.ntmps12
  go_wp2_with fail
  refine c1.mono ?_
  rintro e w1 ⟨rfl, h1⟩
  go_wp2_with fail
  go_ret2
  exact ⟨rfl, h1⟩
set_option maxRecDepth 20000 in
set_option maxHeartbeats 1600000 in
theorem Sg.mainTrafficS (h : Sg w0 w tb mb N rs) (s tr : Int) (hroom : N.length < 65500) :
    Calls Try.prog 13 #[.pointer (some ⟨tb, 0, none⟩), .int .i64 s, .int .i64 tr] w fun e w' => e = .returned (.tuple #[.int .i64 (atN N lClientApp s tr).1, .int .i64 (atN (atN N lClientApp s tr).2 lServerApp s tr).1]) ∧ Sg w0 w' tb mb (atN (atN N lClientApp s tr).2 lServerApp s tr).2 rs := by
  have c1 := h.bothS lClientApp lServerApp s tr (by decide) (by decide) (by omega)
  clear h hroom
  go_enter Try.func13, Try.ntmps13
  go_wp2_with fail
  refine c1.mono ?_
  rintro e w1 ⟨rfl, h1⟩
  go_wp2_with fail
  go_ret2
  exact ⟨rfl, h1⟩
set_option maxRecDepth 20000 in
set_option maxHeartbeats 1600000 in
theorem Sg.resumeS (h : Sg w0 w tb mb N rs) (s tr : Int) (hroom : N.length < 65500) :
    Calls Try.prog 16 #[.pointer (some ⟨tb, 0, none⟩), .int .i64 s, .int .i64 tr] w fun e w' => e = .returned (.int .i64 (atN N lResume s tr).1) ∧ Sg w0 w' tb mb (atN N lResume s tr).2 rs := by
  have c1 := h.atS lResume s tr (by decide) (by omega)
  clear h hroom
  go_enter Try.func16, Try.ntmps16
  go_wp2_with fail
  refine c1.mono ?_
  rintro e w1 ⟨rfl, h1⟩
  go_wp2_with fail
  go_ret
  exact ⟨rfl, h1⟩
set_option maxRecDepth 20000 in
set_option maxHeartbeats 1600000 in
theorem Sg.finishedS (h : Sg w0 w tb mb N rs) (s tr : Int) (hroom : N.length < 65500) :
    Calls Try.prog 15 #[.pointer (some ⟨tb, 0, none⟩), .int .i64 s, .int .i64 tr] w fun e w' => e = .returned (.int .i64 (macN N lFinished s tr).1) ∧ Sg w0 w' tb mb (macN N lFinished s tr).2 rs := by
  have c1 := h.macS lFinished s tr (by decide) (by omega)
  clear h hroom
  go_enter Try.func15, Try.ntmps15
  go_wp2_with fail
  refine c1.mono ?_
  rintro e w1 ⟨rfl, h1⟩
  go_wp2_with fail
  go_ret
  exact ⟨rfl, h1⟩
set_option maxRecDepth 20000 in
set_option maxHeartbeats 1600000 in
theorem Sg.mainS (h : Sg w0 w tb mb N rs) (s : Int) (hroom : N.length < 65500) :
    Calls Try.prog 11 #[.pointer (some ⟨tb, 0, none⟩), .int .i64 s] w fun e w' => e = .returned (.int .i64 (deriveN N s lMain 0).1) ∧ Sg w0 w' tb mb (deriveN N s lMain 0).2 rs := by
  have c1 := h.ofS lMain s (by decide) (by omega)
  clear h hroom
  go_enter Try.func11, Try.ntmps11
  go_wp2_with fail
  refine c1.mono ?_
  rintro e w1 ⟨rfl, h1⟩
  go_wp2_with fail
  go_ret
  exact ⟨rfl, h1⟩
set_option maxRecDepth 20000 in
set_option maxHeartbeats 1600000 in
theorem Sg.firstS (h : Sg w0 w tb mb N rs) {vb : Value} {zb : List Int} (hb : Rd .u8 w vb zb) (hl : zb.length ≤ 2048) (hroom : N.length < 65500) {T D E : Int × List Nd} (hT : T = textN N (bstr zb)) (hD : D = deriveN T.2 T.1 lClientIn 0) (hE : E = deriveN D.2 T.1 lServerIn 0) :
    Calls Try.prog 14 #[.pointer (some ⟨tb, 0, none⟩), vb] w fun e w' => e = .returned (.tuple #[.int .i64 D.1, .int .i64 E.1]) ∧ Sg w0 w' tb mb E.2 rs := by
  have c1 := h.text hb hl (by omega)
  have n1 := textN_len N (bstr zb)
  rw [← hT] at c1 n1
  have n2 := derive_len T.2 T.1 lClientIn 0
  rw [← hD] at n2
  have HN : Hid (T.2.length < 65534 ∧ D.2.length < 65534) := Lib.hid (by omega)
  have HD := Lib.hid hD
  have HE := Lib.hid hE
  obtain ⟨ao, cap, rfl, _⟩ := hb
  clear h hl hroom n1 n2 hT hD hE
  go_enter Try.func14, Try.ntmps14
  go_wp2_with fail
  refine c1.mono ?_
  rintro e w1 ⟨rfl, h1⟩
  have c2 := h1.ofS lClientIn T.1 (by decide) HN.out.1
  rw [← HD.out] at c2
  clear c1
  go_wp2_with fail
  refine c2.mono ?_
  rintro e w2 ⟨rfl, h2⟩
  have c3 := h2.ofS lServerIn T.1 (by decide) HN.out.2
  rw [← HE.out] at c3
  clear c2
  go_wp2_with fail
  refine c3.mono ?_
  rintro e w3 ⟨rfl, h3⟩
  go_wp2_with fail
  go_ret2
  exact ⟨rfl, h3⟩
set_option maxRecDepth 20000 in
set_option maxHeartbeats 1600000 in
theorem Sg.earlyS (h : Sg w0 w tb mb N rs) (t : Int) (hroom : N.length < 65500) :
    Calls Try.prog 10 #[.pointer (some ⟨tb, 0, none⟩), .int .i64 t] w fun e w' => e = .returned (.int .i64 (earlyN N t).1) ∧ Sg w0 w' tb mb (earlyN N t).2 rs := by
  unfold earlyN
  by_cases ht : t = 0
  · subst ht
    rw [if_pos rfl]
    have c1 := (h.keep (below_alloc w (.cells (cs .u8 [110, 111, 110, 101]).toArray 5 ((cs .u8 [110, 111, 110, 101]).toArray.size, (cs .u8 [110, 111, 110, 101]).toArray.size + 1)))).text (Rd.litM w [110, 111, 110, 101] 4 rfl (by simp)) (by simp) (by omega)
    have hcv := conv_const w
    rw [show bstr [110, 111, 110, 101] = lNone from rfl] at c1
    have n1 := textN_len N lNone
    generalize textN N lNone = T at *
    have HN : Hid (T.2.length < 65534) := Lib.hid (by omega)
    clear h hroom n1
    go_enter Try.func10, Try.ntmps10
    go_wp2_with fail
    refine c1.mono ?_
    rintro e w1 ⟨rfl, h1⟩
    have c2 := h1.ofS lEarly T.1 (by decide) HN.out
    clear c1
    go_wp2_with fail
    refine c2.mono ?_
    rintro e w2 ⟨rfl, h2⟩
    go_wp2_with fail
    go_ret
    exact ⟨rfl, h2⟩
  · rw [if_neg ht]
    have e0 : (t == 0) = false := beq_eq_false_iff_ne.2 ht
    have c2 := h.ofS lEarly t (by decide) (by omega)
    clear h hroom ht
    go_enter Try.func10, Try.ntmps10
    go_wp2_with fail
    refine c2.mono ?_
    rintro e w2 ⟨rfl, h2⟩
    go_wp2_with fail
    go_ret
    exact ⟨rfl, h2⟩
set_option maxRecDepth 20000 in
set_option maxHeartbeats 1600000 in
theorem Sg.shakenS (h : Sg w0 w tb mb N rs) (x y : Int) (hroom : N.length < 65500) {T D : Int × List Nd} (hT : T = makeN N 3 [x, y]) (hD : D = deriveN T.2 T.1 lHandshake 0) :
    Calls Try.prog 9 #[.pointer (some ⟨tb, 0, none⟩), .int .i64 x, .int .i64 y] w fun e w' => e = .returned (.int .i64 D.1) ∧ Sg w0 w' tb mb D.2 rs := by
  have c1 := (h.keep (below_alloc w (.cells (cs .i64 [x, y]).toArray 26))).makes 3 (Rd.lit .i64 26 w [x, y] (by simp)) (by simp) (by omega)
  have n1 := (makeN_len N 3 [x, y]).2
  rw [← hT] at c1 n1
  have HN : Hid (T.2.length < 65534) := Lib.hid (by omega)
  have HD := Lib.hid hD
  clear h hroom n1 hT hD
  go_enter Try.func9, Try.ntmps9
  go_wp2_with fail
  refine c1.mono ?_
  rintro e w1 ⟨rfl, h1⟩
  have c2 := h1.ofS lHandshake T.1 (by decide) HN.out
  rw [← HD.out] at c2
  clear c1
  go_wp2_with fail
  refine c2.mono ?_
  rintro e w2 ⟨rfl, h2⟩
  go_wp2_with fail
  go_ret
  exact ⟨rfl, h2⟩
end Go.Proofs.Ytmplcibaoanlnaa
namespace Go.Proofs.Ytmplcibaoanlnaa
open Go Go.RowKit

/-- A table of at most n nodes. -/
structure Gd (w0 w : World) (tb mb : Nat) (N : List Nd) (n : Nat) (rs : List (Nat × Obj)) : Prop where
  st : Sg w0 w tb mb N rs
  good : GoodN N
  len : N.length ≤ n
variable {w0 w : World} {tb mb n : Nat} {N : List Nd} {rs : List (Nat × Obj)}
theorem Gd.keep (h : Gd w0 w tb mb N n rs) {w' : World} (hb : Below w.heap.size w w') : Gd w0 w' tb mb N n rs := ⟨h.st.keep hb, h.good, h.len⟩
/-- What a call that tells a term leaves. -/
def Tells (w0 w' : World) (tb mb n : Nat) (N : List Nd) (rs : List (Nat × Obj)) (e : Ending) (K : List Nd → Int → Prop) : Prop := ∃ N' c, e = .returned (.int .i64 c) ∧ Gd w0 w' tb mb N' n rs ∧ N <+: N' ∧ K N' c
def Tells2 (w0 w' : World) (tb mb n : Nat) (N : List Nd) (rs : List (Nat × Obj)) (e : Ending) (K : List Nd → Int → Int → Prop) : Prop := ∃ N' c d, e = .returned (.tuple #[.int .i64 c, .int .i64 d]) ∧ Gd w0 w' tb mb N' n rs ∧ N <+: N' ∧ K N' c d
theorem Gd.textG (h : Gd w0 w tb mb N n rs) {vb : Value} {zb : List Int} (hb : Rd .u8 w vb zb) (hl : zb.length ≤ 2048) (hn : n ≤ 60000) :
    Calls Try.prog 19 #[.pointer (some ⟨tb, 0, none⟩), vb] w fun e w' => Tells w0 w' tb mb (n + 1) N rs e fun M c => Has M c (1, bstr zb, []) := by
  have := textN_len N (bstr zb)
  have := h.len
  obtain ⟨h1, h2, h3⟩ := text_has h.good (bstr zb)
  exact (h.st.text hb hl (by omega)).mono fun e w' ⟨he, hs⟩ => ⟨_, _, he, ⟨hs, h3, by omega⟩, h2, h1⟩
theorem Gd.secretG (h : Gd w0 w tb mb N n rs) (hn : n ≤ 60000) :
    Calls Try.prog 7 #[.pointer (some ⟨tb, 0, none⟩)] w fun e w' => Tells w0 w' tb mb (n + 1) N rs e fun M c => M[(c - 1).toNat]? = some secretNd ∧ 1 ≤ c ∧ c ≤ (M.length : Int) := by
  have := h.len
  refine (h.st.secret (by omega) (z := (N.length : Int) + 1) rfl).mono fun e w' ⟨he, hs⟩ => ⟨_, _, he, ⟨hs, good_secret h.good, by simp; omega⟩, List.prefix_append _ _, ?_, by omega, by simp⟩
  rw [show ((N.length : Int) + 1 - 1).toNat = N.length by omega]
  simp
theorem sec_ext {M M' : List Nd} {c : Int} (h : M[(c - 1).toNat]? = some secretNd) (hp : M <+: M') : M'[(c - 1).toNat]? = some secretNd := by
  obtain ⟨r, rfl⟩ := hp
  have hlt := (List.getElem?_eq_some_iff.1 h).1
  rw [List.getElem?_append_left hlt]
  exact h
theorem sec_kind {M : List Nd} {c : Int} (h : M[(c - 1).toNat]? = some secretNd) (hc : 1 ≤ c) : kindN M c = 2 := by
  unfold kindN
  rw [if_neg (by omega), h]
  rfl
theorem Gd.pair (h : Gd w0 w tb mb N n rs) {k a b : Int} (hk : k = 3 ∨ k = 5) (ha : 1 ≤ a ∧ a ≤ (N.length : Int)) (hb : 1 ≤ b ∧ b ≤ (N.length : Int)) {pv : Value} (hp : Rd .i64 w pv [a, b]) (hn : n ≤ 60000) :
    Calls Try.prog 8 #[.pointer (some ⟨tb, 0, none⟩), .int .i64 k, pv] w fun e w' => Tells w0 w' tb mb (n + 1) N rs e fun M c => Has M c (k, ByteArray.empty, [a, b]) := by
  have := makeN_len N k [a, b]
  have := h.len
  obtain ⟨h1, h2, h3⟩ := pair_has h.good hk ha hb
  exact (h.st.makes k hp (by simp) (by omega)).mono fun e w' ⟨he, hs⟩ => ⟨_, _, he, ⟨hs, h3, by omega⟩, h2, h1⟩
theorem fits7 {a : Int} (h : 1 ≤ a ∧ a ≤ (N.length : Int)) (hk : kindN N a = 2) : fitsN N 7 [a] = true := by
  have hask : askL 7 1 = some [2] := rfl
  unfold fitsN
  simp only [List.length_cons, List.length_nil, Nat.zero_add, hask]
  simp [okN, h, hk]
theorem Gd.publicG (h : Gd w0 w tb mb N n rs) {a : Int} (ha : N[(a - 1).toNat]? = some secretNd) (hr : 1 ≤ a ∧ a ≤ (N.length : Int)) {pv : Value} (hp : Rd .i64 w pv [a]) (hn : n ≤ 60000) :
    Calls Try.prog 8 #[.pointer (some ⟨tb, 0, none⟩), .int .i64 7, pv] w fun e w' => Tells w0 w' tb mb (n + 1) N rs e fun M c => Has M c (7, ByteArray.empty, [a]) := by
  have := makeN_len N 7 [a]
  have := h.len
  obtain ⟨h1, h2, h3⟩ := make_has h.good (k := 7) (ps := [a]) (by decide) (by decide) (fits7 hr (sec_kind ha hr.1)) (fun p hp => by rw [List.mem_singleton.1 hp]; exact hr.1)
  exact (h.st.makes 7 hp (by simp) (by omega)).mono fun e w' ⟨he, hs⟩ => ⟨_, _, he, ⟨hs, h3, by omega⟩, h2, h1⟩
theorem Gd.sharedG (h : Gd w0 w tb mb N n rs) {a b p : Int} (ha : N[(a - 1).toNat]? = some secretNd) (hr : 1 ≤ a ∧ a ≤ (N.length : Int)) (hb : 1 ≤ b) (hP : Has N p (7, ByteArray.empty, [b])) {pv : Value} (hp : Rd .i64 w pv [a, p]) (hn : n ≤ 60000) :
    Calls Try.prog 8 #[.pointer (some ⟨tb, 0, none⟩), .int .i64 8, pv] w fun e w' => Tells w0 w' tb mb (n + 1) N rs e fun M c => Has M c (8, ByteArray.empty, [min a b, max a b]) := by
  have := makeN_len N 8 [a, p]
  have := h.len
  have hpl := hP.le
  have hpp := hP.pos
  have hpk : kindN N p = 7 := hP.kind
  have hf : fitsN N 8 [a, p] = true := by
    have hask : askL 8 2 = some [2, 7] := rfl
    have hak := sec_kind ha hr.1
    unfold fitsN
    simp only [List.length_cons, List.length_nil, Nat.zero_add, Nat.reduceAdd, hask]
    simp [List.range_succ, okN, hr, hak, hpk, hpp, hpl]
  have hm : mkN N 8 [a, p] = [min a b, max a b] := by
    unfold mkN
    rw [if_pos rfl]
    have : partsN N p = [b] := by unfold partsN; rw [hP.at']
    simp [this]
  have hput : makeN N 8 [a, p] = putN N (8, ByteArray.empty, [min a b, max a b]) := by
    unfold makeN
    rw [if_pos hf, hm]
  obtain ⟨h1, h2, h3⟩ := put_has h.good (n := (8, ByteArray.empty, [min a b, max a b])) (show (8 : Int) ≠ 2 by decide) (fun q hq => by
    simp only [List.mem_cons, List.not_mem_nil, or_false] at hq
    rcases hq with rfl | rfl <;> omega) (fun hl g hi => by have := g.make hf (by rw [hm]; exact hi) hl; rwa [hm] at this) (fun e => absurd (show (8 : Int) = 1 from e) (by decide))
  rw [← hput] at h1 h2 h3
  exact (h.st.makes 8 hp (by simp) (by omega)).mono fun e w' ⟨he, hs⟩ => ⟨_, _, he, ⟨hs, h3, by omega⟩, h2, h1⟩
theorem Gd.firstG (h : Gd w0 w tb mb N n rs) {vb : Value} {zb : List Int} (hb : Rd .u8 w vb zb) (hl : zb.length ≤ 2048) (hn : n ≤ 60000) :
    Calls Try.prog 14 #[.pointer (some ⟨tb, 0, none⟩), vb] w fun e w' => Tells2 w0 w' tb mb (n + 7) N rs e fun M c d => ∃ g, Has M g (1, bstr zb, []) ∧ Drv0 M c g lClientIn ∧ Drv0 M d g lServerIn := by
  have := h.len
  obtain ⟨h1, h2, h3⟩ := text_has h.good (bstr zb)
  have n1 := textN_len N (bstr zb)
  refine (h.st.firstS hb hl (by omega) rfl rfl rfl).mono fun e w' ⟨he, hs⟩ => ?_
  generalize textN N (bstr zb) = T at *
  obtain ⟨a1, a2, a3⟩ := derive_der0 h3 (s := T.1) ⟨h1.pos, h1.le⟩ lClientIn
  have n2 := derive_len T.2 T.1 lClientIn 0
  generalize deriveN T.2 T.1 lClientIn 0 = A at *
  obtain ⟨b1, b2, b3⟩ := derive_der0 a3 (s := T.1) ⟨(h1.ext a2).pos, (h1.ext a2).le⟩ lServerIn
  have n3 := derive_len A.2 T.1 lServerIn 0
  exact ⟨_, _, _, he, ⟨hs, b3, by omega⟩, h2.trans (a2.trans b2), T.1, h1.ext (a2.trans b2), a1.ext b2, b1⟩
/-- Of what the early secret is. -/
def OwnOf (M : List Nd) (t o : Int) : Prop := (t = 0 ∧ Has M o (1, lNone, [])) ∨ (t ≠ 0 ∧ o = t)
theorem Gd.earlyG (h : Gd w0 w tb mb N n rs) (t : Int) (ht : t = 0 ∨ 1 ≤ t ∧ t ≤ (N.length : Int)) (hn : n ≤ 60000) :
    Calls Try.prog 10 #[.pointer (some ⟨tb, 0, none⟩), .int .i64 t] w fun e w' => Tells w0 w' tb mb (n + 4) N rs e fun M c => ∃ o, OwnOf M t o ∧ Drv0 M c o lEarly := by
  have := h.len
  have n1 := earlyN_len N t
  refine (h.st.earlyS t (by omega)).mono fun e w' ⟨he, hs⟩ => ?_
  unfold earlyN at he hs n1
  by_cases h0 : t = 0
  · rw [if_pos h0] at he hs n1
    obtain ⟨h1, h2, h3⟩ := text_has h.good lNone
    generalize textN N lNone = T at *
    obtain ⟨a1, a2, a3⟩ := derive_der0 h3 (s := T.1) ⟨h1.pos, h1.le⟩ lEarly
    exact ⟨_, _, he, ⟨hs, a3, by omega⟩, h2.trans a2, T.1, .inl ⟨h0, h1.ext a2⟩, a1⟩
  · rw [if_neg h0] at he hs n1
    obtain ⟨a1, a2, a3⟩ := derive_der0 h.good (s := t) (by omega) lEarly
    exact ⟨_, _, he, ⟨hs, a3, by omega⟩, a2, t, .inr ⟨h0, rfl⟩, a1⟩
theorem Gd.shakenG (h : Gd w0 w tb mb N n rs) {x y : Int} (hx : 1 ≤ x ∧ x ≤ (N.length : Int)) (hy : 1 ≤ y ∧ y ≤ (N.length : Int)) (hn : n ≤ 60000) :
    Calls Try.prog 9 #[.pointer (some ⟨tb, 0, none⟩), .int .i64 x, .int .i64 y] w fun e w' => Tells w0 w' tb mb (n + 4) N rs e fun M c => ∃ r, Has M r (3, ByteArray.empty, [x, y]) ∧ Drv0 M c r lHandshake := by
  have := h.len
  have n1 := makeN_len N 3 [x, y]
  refine (h.st.shakenS x y (by omega) rfl rfl).mono fun e w' ⟨he, hs⟩ => ?_
  obtain ⟨h1, h2, h3⟩ := pair_has h.good (k := 3) (.inl rfl) hx hy
  generalize makeN N 3 [x, y] = T at *
  obtain ⟨a1, a2, a3⟩ := derive_der0 h3 (s := T.1) ⟨h1.pos, h1.le⟩ lHandshake
  have n2 := derive_len T.2 T.1 lHandshake 0
  exact ⟨_, _, he, ⟨hs, a3, by omega⟩, h2.trans a2, T.1, h1.ext a2, a1⟩
theorem Gd.mainG (h : Gd w0 w tb mb N n rs) {s : Int} (hx : 1 ≤ s ∧ s ≤ (N.length : Int)) (hn : n ≤ 60000) :
    Calls Try.prog 11 #[.pointer (some ⟨tb, 0, none⟩), .int .i64 s] w fun e w' => Tells w0 w' tb mb (n + 3) N rs e fun M c => Drv0 M c s lMain := by
  have := h.len
  have n1 := derive_len N s lMain 0
  obtain ⟨a1, a2, a3⟩ := derive_der0 h.good hx lMain
  exact (h.st.mainS s (by omega)).mono fun e w' ⟨he, hs⟩ => ⟨_, _, he, ⟨hs, a3, by omega⟩, a2, a1⟩
theorem Gd.resumeG (h : Gd w0 w tb mb N n rs) {s x : Int} (hs : 1 ≤ s ∧ s ≤ (N.length : Int)) (hx : 1 ≤ x ∧ x ≤ (N.length : Int)) (hn : n ≤ 60000) :
    Calls Try.prog 16 #[.pointer (some ⟨tb, 0, none⟩), .int .i64 s, .int .i64 x] w fun e w' => Tells w0 w' tb mb (n + 3) N rs e fun M c => Drv M c s lResume x := by
  have := h.len
  have n1 := atN_len N lResume s x
  obtain ⟨a1, a2, a3⟩ := at_der h.good hs hx lResume
  exact (h.st.resumeS s x (by omega)).mono fun e w' ⟨he, hs⟩ => ⟨_, _, he, ⟨hs, a3, by omega⟩, a2, a1⟩
theorem Gd.finishedG (h : Gd w0 w tb mb N n rs) {s x : Int} (hs : 1 ≤ s ∧ s ≤ (N.length : Int)) (hx : 1 ≤ x ∧ x ≤ (N.length : Int)) (hn : n ≤ 60000) :
    Calls Try.prog 15 #[.pointer (some ⟨tb, 0, none⟩), .int .i64 s, .int .i64 x] w fun e w' => Tells w0 w' tb mb (n + 4) N rs e fun M c => IsMac M c s lFinished x := by
  have := h.len
  have n1 := macN_len N lFinished s x
  obtain ⟨a1, a2, a3⟩ := mac_has h.good hs hx lFinished
  exact (h.st.finishedS s x (by omega)).mono fun e w' ⟨he, hs⟩ => ⟨_, _, he, ⟨hs, a3, by omega⟩, a2, a1⟩
theorem Gd.shakenTrafficG (h : Gd w0 w tb mb N n rs) {s x : Int} (hs : 1 ≤ s ∧ s ≤ (N.length : Int)) (hx : 1 ≤ x ∧ x ≤ (N.length : Int)) (hn : n ≤ 60000) :
    Calls Try.prog 12 #[.pointer (some ⟨tb, 0, none⟩), .int .i64 s, .int .i64 x] w fun e w' => Tells2 w0 w' tb mb (n + 6) N rs e fun M c d => Drv M c s lClientHs x ∧ Drv M d s lServerHs x := by
  have := h.len
  refine (h.st.shakenTrafficS s x (by omega)).mono fun e w' ⟨he, hst⟩ => ?_
  have n1 := atN_len N lClientHs s x
  obtain ⟨a1, a2, a3⟩ := at_der h.good hs hx lClientHs
  generalize atN N lClientHs s x = A at *
  have := a2.length_le
  have n2 := atN_len A.2 lServerHs s x
  obtain ⟨b1, b2, b3⟩ := at_der a3 (s := s) (x := x) (by omega) (by omega) lServerHs
  exact ⟨_, _, _, he, ⟨hst, b3, by omega⟩, a2.trans b2, a1.ext b2, b1⟩
theorem Gd.mainTrafficG (h : Gd w0 w tb mb N n rs) {s x : Int} (hs : 1 ≤ s ∧ s ≤ (N.length : Int)) (hx : 1 ≤ x ∧ x ≤ (N.length : Int)) (hn : n ≤ 60000) :
    Calls Try.prog 13 #[.pointer (some ⟨tb, 0, none⟩), .int .i64 s, .int .i64 x] w fun e w' => Tells2 w0 w' tb mb (n + 6) N rs e fun M c d => Drv M c s lClientApp x ∧ Drv M d s lServerApp x := by
  have := h.len
  refine (h.st.mainTrafficS s x (by omega)).mono fun e w' ⟨he, hst⟩ => ?_
  have n1 := atN_len N lClientApp s x
  obtain ⟨a1, a2, a3⟩ := at_der h.good hs hx lClientApp
  generalize atN N lClientApp s x = A at *
  have := a2.length_le
  have n2 := atN_len A.2 lServerApp s x
  obtain ⟨b1, b2, b3⟩ := at_der a3 (s := s) (x := x) (by omega) (by omega) lServerApp
  exact ⟨_, _, _, he, ⟨hst, b3, by omega⟩, a2.trans b2, a1.ext b2, b1⟩
#print axioms Gd.mainTrafficG
end Go.Proofs.Ytmplcibaoanlnaa
namespace Go.Proofs.Ytmplcibaoanlnaa
open Go Go.RowKit

variable {w0 w : World} {tb mb n : Nat} {N : List Nd} {rs : List (Nat × Obj)}
theorem rng_ext {a : Int} {M M' : List Nd} (h : 1 ≤ a ∧ a ≤ (M.length : Int)) (p : M <+: M') : 1 ≤ a ∧ a ≤ (M'.length : Int) := by
  have := p.length_le
  omega
theorem Gd.nextG (h : Gd w0 w tb mb N n rs) {x : Int} {ms : List ByteArray} (hx : IsTr N x ms) {vb : Value} {zb : List Int} (hb : Rd .u8 w vb zb) (hl : zb.length ≤ 2048) (hn : n ≤ 60000) :
    Calls Try.prog 6 #[.pointer (some ⟨tb, 0, none⟩), .int .i64 x, vb] w fun e w' => Tells w0 w' tb mb (n + 3) N rs e fun M c => IsTr M c (bstr zb :: ms) := by
  have hlen := nextN_len N x (bstr zb)
  have := h.len
  obtain ⟨h1, h2, h3⟩ := next_has h.good hx (bstr zb)
  exact (h.st.nextS x hb hl (by omega)).mono fun e w' ⟨he, hs⟩ => ⟨_, _, he, ⟨hs, h3, by omega⟩, h2, h1⟩
theorem Gd.mono (h : Gd w0 w tb mb N n rs) {n' : Nat} (hn : n ≤ n') : Gd w0 w tb mb N n' rs := ⟨h.st, h.good, Nat.le_trans h.len hn⟩
/-- A block that is there, of another type, is a guest. -/
theorem Sg.other (h : Sg w0 w tb mb N rs) {g : Nat} {c : Array Value} {e : TypeId} {fr : Nat × Nat} (hg : w.heap[g]? = some (.cells c e fr)) (h1 : e ≠ 43) (h2 : e ≠ 47) : Sg w0 w tb mb N ((g, .cells c e fr) :: rs) := by
  obtain ⟨nv, ht, hr⟩ := h.tab
  obtain ⟨L, hL, _, _⟩ := ht.ex
  refine ⟨⟨nv, ht, fun r hm => ?_⟩, fun r hm => ?_, h.bel⟩
  · rcases List.mem_cons.1 hm with rfl | hm
    · refine ⟨fun e1 => ?_, fun e1 => ?_, fun e1 => ?_⟩
      · simp only at e1; subst e1
        rw [hL.tab] at hg; cases hg; exact h1 rfl
      · simp only at e1; subst e1
        obtain ⟨D, ⟨es, clock, hb, _⟩, _⟩ := hL.map
        rw [hb] at hg; cases hg
      · obtain ⟨cur, hc⟩ := own_blk hL.nodes e1.symm
        simp only at hc
        rw [hc] at hg; cases hg; exact h2 rfl
    · exact hr r hm
  · rcases List.mem_cons.1 hm with rfl | hm
    · exact hg
    · exact h.own r hm
theorem Gd.lookM (h : Gd w0 w tb mb N n rs) {m : Int} {k a b : Int} (hm : Has N m (k, ByteArray.empty, [a, b])) :
    Calls Try.prog 31 #[.pointer (some ⟨tb, 0, none⟩), .int .i64 m] w fun e w' => ∃ g cap cur, e = .returned (.tuple #[.agg #[.int .i64 k, .string ByteArray.empty, .slice (some ⟨g, 0, none⟩) 2 cap], .bool true]) ∧ 2 ≤ cap ∧ cap ≤ 9223372036854775807 ∧ Gd w0 w' tb mb N n ((g, .cells cur 26 (0, 0)) :: rs) ∧ cur[0]? = some (.int .i64 a) ∧ cur[1]? = some (.int .i64 b) := by
  have hp := hm.pos
  have := h.st.st.look (m - 1).toNat _ hm.at'
  rw [show (((m - 1).toNat : Nat) : Int) + 1 = m by omega] at this
  refine this.mono ?_
  rintro e w' ⟨pv, rfl, ho, hb, hs⟩
  rcases ho.2 with ⟨_, h0⟩ | ⟨g, cap, cur, rfl, hg, hh, h1, h2, h3, h4⟩
  · cases h0
  · unfold maxLen at h2
    have hget : ∀ j, j < 2 → cur[j]? = (cs .i64 [a, b])[j]? := fun j hj => by
      rw [← Array.getElem?_toList]
      have h5 : (cur.toList.take ([a, b].length * 1))[j]? = (cs .i64 [a, b])[j]? := by rw [h4]
      rwa [List.getElem?_take_of_lt (by simpa using hj)] at h5
    have hk := h.keep hb
    exact ⟨g, cap, cur, rfl, h1, by omega, ⟨hk.st.other hh (by decide) (by decide), hk.good, hk.len⟩, hget 0 (by decide), hget 1 (by decide)⟩
theorem guest_cell {w0 w : World} {tb mb n : Nat} {N : List Nd} {rs : List (Nat × Obj)} (h : Gd w0 w tb mb N n rs) {g j : Nat} {c : Array Value} {e : TypeId} {v : Value} (hm : (g, Obj.cells c e (0, 0)) ∈ rs) (hc : c[j]? = some v) : w.cell? ⟨g, j, none⟩ = some v :=
  (cell_of_row _ g j _ e (0, 0) (h.st.own _ hm)).trans hc

#print axioms guest_cell
end Go.Proofs.Ytmplcibaoanlnaa
