/- The table's acts as plain functions of its nodes: the number that each tells, and the nodes behind it. -/
import Derived.Test.YtmplcibaoanlnaaGrow
import Derived.Test.YtmplcibaoanlnaaText
import Derived.Test.YtmplcibaoanlnaaNone
namespace Go.Proofs.Ytmplcibaoanlnaa
open Go Go.RowKit

/-- A node is put into a table of nodes: its number, and the nodes then. -/
def putN (N : List Nd) (n : Nd) : Int × List Nd := match idxN 1 N n with
  | some c => (c, N)
  | none => ((N.length : Int) + 1, N ++ [n])
/-- A term of parts. -/
def makeN (N : List Nd) (k : Int) (ps : List Int) : Int × List Nd := if fitsN N k ps = true then putN N (k, ByteArray.empty, mkN N k ps) else (0, N)
/-- A text. -/
def textN (N : List Nd) (s : ByteArray) : Int × List Nd := putN N (1, s, [])
theorem putN_old {N : List Nd} {n : Nd} {c : Int} (h : idxN 1 N n = some c) : putN N n = (c, N) := by unfold putN; rw [h]
theorem putN_new {N : List Nd} {n : Nd} (h : idxN 1 N n = none) : putN N n = ((N.length : Int) + 1, N ++ [n]) := by unfold putN; rw [h]
theorem putN_len (N : List Nd) (n : Nd) : N.length ≤ (putN N n).2.length ∧ (putN N n).2.length ≤ N.length + 1 := by
  unfold putN
  cases idxN 1 N n <;> simp
theorem makeN_len (N : List Nd) (k : Int) (ps : List Int) : N.length ≤ (makeN N k ps).2.length ∧ (makeN N k ps).2.length ≤ N.length + 1 := by
  unfold makeN
  split
  · exact putN_len _ _
  · simp

set_option maxRecDepth 20000 in
theorem TabX.text {w : World} {B tb mb : Nat} {nv : Value} {N : List Nd} {vs : List Value} (h : TabX w B tb mb nv N vs) {vb : Value} {zb : List Int} (hb : Rd .u8 w vb zb) (hl : zb.length ≤ 2048) (hroom : N.length < 65536) :
    Calls Try.prog 19 #[.pointer (some ⟨tb, 0, none⟩), vb] w fun e w' => PutX w B tb mb nv N vs (1, bstr zb, []) e w' := by
  obtain ⟨L, h1, rfl, h3⟩ := h.ex
  refine (text_any h1 hb hl (by rw [← nds_len]; exact hroom)).mono fun e w' hm => ?_
  have e0 := idx_nds L (1, bstr zb, [])
  simp only at e0
  rw [e0] at hm
  unfold PutX
  cases hc : idxN 1 (nds L) (1, bstr zb, []) with
  | some c => rw [hc] at hm; exact hm
  | none =>
    rw [hc] at hm
    obtain ⟨m1, nv', m2, m3, m4⟩ := hm
    rw [nds_len]
    refine ⟨m1, nv', ⟨_, m2, nds_app L _, fun v hv g hg p hp => ?_⟩, m3, m4⟩
    rcases List.mem_append.1 hp with hp | hp
    · exact h3 v hv g hg p hp
    · obtain rfl := List.mem_singleton.1 hp
      intro e; cases e

theorem St.ofPut {w0 w : World} {tb mb : Nat} {N : List Nd} {rs : List (Value × List Int)} (h : St w0 w tb mb N rs) {nv : Value} (ht : TabX w w0.heap.size tb mb nv N (rs.map (·.1))) {n : Nd} {e : Ending} {w' : World} (hm : PutX w w0.heap.size tb mb nv N (rs.map (·.1)) n e w') :
    e = .returned (.int .i64 (putN N n).1) ∧ St w0 w' tb mb (putN N n).2 rs := by
  cases hc : idxN 1 N n with
  | some c =>
    rw [putN_old hc]
    obtain ⟨e1, hb⟩ := hm.old hc
    exact ⟨e1, h.keep hb⟩
  | none =>
    rw [putN_new hc]
    obtain ⟨e1, nv', h2, h4, _⟩ := hm.new hc
    exact ⟨e1, ⟨nv', h2⟩, (fun r hr => ht.at.own32 h4 (h.own r hr)), h.apart, h.bel.trans (ht.at.below h4)⟩

set_option maxRecDepth 20000 in
theorem St.text {w0 w : World} {tb mb : Nat} {N : List Nd} {rs : List (Value × List Int)} (h : St w0 w tb mb N rs) {vb : Value} {zb : List Int} (hb : Rd .u8 w vb zb) (hl : zb.length ≤ 2048) (hroom : N.length < 65536) :
    Calls Try.prog 19 #[.pointer (some ⟨tb, 0, none⟩), vb] w fun e w' => e = .returned (.int .i64 (textN N (bstr zb)).1) ∧ St w0 w' tb mb (textN N (bstr zb)).2 rs := by
  obtain ⟨nv, ht⟩ := h.tab
  exact (ht.text hb hl hroom).mono fun e w' hm => h.ofPut ht hm
set_option maxRecDepth 20000 in
theorem St.makes {w0 w : World} {tb mb : Nat} {N : List Nd} {rs : List (Value × List Int)} (h : St w0 w tb mb N rs) (k : Int) {pv : Value} {ps : List Int} (hp : Rd .i64 w pv ps) (hl : ps.length ≤ 1000000) (hroom : N.length < 65536) :
    Calls Try.prog 8 #[.pointer (some ⟨tb, 0, none⟩), .int .i64 k, pv] w fun e w' => e = .returned (.int .i64 (makeN N k ps).1) ∧ St w0 w' tb mb (makeN N k ps).2 rs := by
  obtain ⟨nv, ht⟩ := h.tab
  unfold makeN
  by_cases hf : fitsN N k ps = true
  · rw [if_pos hf]
    refine (ht.make (fun v hv g hg => ?_) k hp hl hf hroom h.bel.size).mono fun e w' hm => h.ofPut ht hm
    obtain ⟨r, hr, rfl⟩ := List.mem_map.1 hv
    exact ((h.own r hr).lt g hg).2
  · rw [if_neg hf]
    exact (Tab.make_no ht.at k hp hl (by simpa using hf)).mono fun e w' ⟨e1, hb⟩ => ⟨e1, h.keep hb⟩
set_option maxRecDepth 20000 in
theorem St.look {w0 w : World} {tb mb : Nat} {N : List Nd} {rs : List (Value × List Int)} (h : St w0 w tb mb N rs) (q : Nat) (n : Nd) (hq : N[q]? = some n) :
    Calls Try.prog 31 #[.pointer (some ⟨tb, 0, none⟩), .int .i64 ((q : Int) + 1)] w fun e w' => ∃ pv, e = .returned (.tuple #[.agg #[.int .i64 n.1, .string n.2.1, pv], .bool true]) ∧ w'.ownsRow w.heap.size 26 1 pv n.2.2.length (cs .i64 n.2.2) ∧ Below w.heap.size w w' ∧ St w0 w' tb mb N rs := by
  obtain ⟨nv, ht⟩ := h.tab
  exact (Tab.look ht.at q n hq).mono fun e w' ⟨pv, h1, h2, h3⟩ => ⟨pv, h1, h2, h3, h.keep h3⟩
set_option maxRecDepth 20000 in
theorem St.new (w : World) : Calls Try.prog 4 #[] w fun e w' => ∃ tb mb, e = .returned (.pointer (some ⟨tb, 0, none⟩)) ∧ St w w' tb mb [] [] := by
  refine (TabX.new w).mono fun e w' ⟨tb, mb, nv, h1, h2, h3⟩ => ⟨tb, mb, h1, ⟨nv, h2.sub (fun u hu => by cases hu)⟩, (fun r hr => by cases hr), List.Pairwise.nil, h3⟩
#print axioms St.makes
#print axioms St.text
end Go.Proofs.Ytmplcibaoanlnaa
