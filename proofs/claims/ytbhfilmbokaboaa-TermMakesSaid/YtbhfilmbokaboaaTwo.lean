/- Both tables beside each other, over one list of nodes: what an act on both leaves. -/
import Derived.Test.YtbhfilmbokaboaaRmake8
import Derived.Test.YtbhfilmbokaboaaPuts
namespace Go.Proofs.Ytbhfilmbokaboaa
open Go Go.RowKit

/-- The reference's Make, of whatever kind. -/
theorem rmake_any {w : World} {B rb : Nat} {nv : Value} {L : List (Nd × Value)} (h : RTbl w B rb nv L) (hk : ∀ m ∈ nds L, m.1 ≠ 0) (hok : ∀ m ∈ nds L, NdOk m) (k : Int) {pv : Value} {ps : List Int} (hp : Rd .i64 w pv ps) (hl : ps.length ≤ 1000000) (hroom : L.length < 65536) (hB : B ≤ w.heap.size) :
    Calls Try.prog 57 #[.pointer (some ⟨rb, 0, none⟩), .int .i64 k, pv] w fun e w' => RMade w B rb nv L k ps e w' := by
  by_cases h3 : k = 3
  · exact rmake_345 h hk k hp hl hroom hB (.inl h3)
  by_cases h4 : k = 4
  · exact rmake_345 h hk k hp hl hroom hB (.inr (.inl h4))
  by_cases h5 : k = 5
  · exact rmake_345 h hk k hp hl hroom hB (.inr (.inr h5))
  by_cases h6 : k = 6
  · exact rmake_6 h hk k hp hl hroom hB (Lib.hid h6)
  by_cases h7 : k = 7
  · exact rmake_7 h hk k hp hl hroom hB (Lib.hid h7)
  by_cases h8 : k = 8
  · exact rmake_8 h hk k hp hl hroom hB (Lib.hid hok) (Lib.hid h8)
  by_cases h9 : k = 9
  · exact rmake_9 h hk k hp hl hroom hB (Lib.hid h9)
  by_cases h10 : k = 10
  · exact rmake_10 h hk k hp hl hroom hB (Lib.hid h10)
  exact rmake_else h hk k hp hl hroom hB (Lib.hid ⟨h3, h4, h5, h6, h7, h8, h9, h10⟩)

/-- Nodes as they may be. -/
def OkN (N : List Nd) : Prop := ∀ m ∈ N, NdOk m ∧ m.1 ≠ 0
/-- Both tables, since w0, over the nodes N. -/
structure Two (w0 w : World) (tb mb rb : Nat) (N : List Nd) : Prop where
  prog : St w0 w tb mb N []
  ref : ∃ nv L, RTbl w w0.heap.size rb nv L ∧ nds L = N
  ok : OkN N
/-- The program's table has the node, the reference's not yet. -/
structure Mid (w0 w : World) (tb mb rb : Nat) (N N' : List Nd) : Prop where
  prog : St w0 w tb mb N' []
  ref : ∃ nv L, RTbl w w0.heap.size rb nv L ∧ nds L = N

theorem Two.keep {w0 w w' : World} {tb mb rb : Nat} {N : List Nd} (h : Two w0 w tb mb rb N) (hb : Below w.heap.size w w') : Two w0 w' tb mb rb N := by
  obtain ⟨nv, L, h1, h2⟩ := h.ref
  exact ⟨h.prog.keep hb, ⟨nv, L, h1.keep hb, h2⟩, h.ok⟩
theorem Mid.keep {w0 w w' : World} {tb mb rb : Nat} {N N' : List Nd} (h : Mid w0 w tb mb rb N N') (hb : Below w.heap.size w w') : Mid w0 w' tb mb rb N N' := by
  obtain ⟨nv, L, h1, h2⟩ := h.ref
  exact ⟨h.prog.keep hb, ⟨nv, L, h1.keep hb, h2⟩⟩
theorem Two.mid {w0 w : World} {tb mb rb : Nat} {N : List Nd} (h : Two w0 w tb mb rb N) : Mid w0 w tb mb rb N N := ⟨h.prog, h.ref⟩

/-- Blocks of other types than the tables' are as they were. -/
def Kept (w w' : World) : Prop := ∀ (k : Nat) (c : Array Value) (e : TypeId) (fr : Nat × Nat), w.heap[k]? = some (Obj.cells c e fr) → e ≠ 97 → e ≠ 38 → e ≠ 28 → e ≠ 43 → w'.heap[k]? = some (Obj.cells c e fr)
theorem Kept.of_below {w w' : World} (h : Below w.heap.size w w') : Kept w w' := fun k c e fr hk _ _ _ _ => by rw [h.block k (blk_lt hk)]; exact hk
theorem Kept.trans {w w1 w2 : World} (h : Kept w w1) (h' : Kept w1 w2) : Kept w w2 := fun k c e fr hk h1 h2 h3 h4 => h' k c e fr (h k c e fr hk h1 h2 h3 h4) h1 h2 h3 h4
theorem Kept.refl (w : World) : Kept w w := fun _ _ _ _ hk _ _ _ _ => hk

/-- Behind the program's act. -/
theorem Two.kept {w0 w : World} {tb mb : Nat} {N : List Nd} {nv : Value} (ht : TabX w w0.heap.size tb mb nv N []) {n : Nd} {e : Ending} {w' : World} (hm : PutX w w0.heap.size tb mb nv N [] n e w') : Kept w w' := by
  cases hc : idxN 1 N n with
  | some c => exact .of_below (hm.old hc).2
  | none =>
    obtain ⟨_, nv', _, h4, _⟩ := hm.new hc
    obtain ⟨M, t1, _, _⟩ := ht.ex
    intro k c e fr hk h1 h2 _ _
    rw [t1.other h4 (blk_lt hk) (fun c' fr' e' => by rw [hk] at e'; cases e'; exact h1 rfl) (fun c' fr' e' => by rw [hk] at e'; cases e'; exact h2 rfl) (fun es c' e' => by rw [hk] at e'; cases e')]
    exact hk
theorem Mid.kept {w : World} {B rb : Nat} {nv : Value} {L : List (Nd × Value)} (hL : RTbl w B rb nv L) {n : Nd} {e : Ending} {w' : World} (hm : RPut w B rb nv L n e w') : Kept w w' := by
  rcases hm with ⟨c, h1, h2, h3⟩ | ⟨h1, h2, nv', pv, h3, h4, h5⟩
  · exact .of_below h3
  · intro k c e fr hk _ _ g1 g2
    have hne : k ≠ rb := fun e => by
      subst e
      rw [hL.tab] at hk; cases hk; exact g1 rfl
    rw [h4.block k (blk_lt hk) hne hne (fun e => by
      obtain ⟨cur, hc⟩ := own_blk hL.nodes e.symm
      rw [hk] at hc; cases hc; exact g2 rfl)]
    exact hk
theorem Two.put {w0 w : World} {tb mb rb : Nat} {N : List Nd} (h : Two w0 w tb mb rb N) {nv : Value} (ht : TabX w w0.heap.size tb mb nv N []) {n : Nd} {e : Ending} {w' : World} (hm : PutX w w0.heap.size tb mb nv N [] n e w') :
    e = .returned (.int .i64 (putN N n).1) ∧ Mid w0 w' tb mb rb N (putN N n).2 := by
  obtain ⟨e1, s1⟩ := h.prog.ofPut ht hm
  refine ⟨e1, s1, ?_⟩
  obtain ⟨rv, L, h1, h2⟩ := h.ref
  refine ⟨rv, L, ?_, h2⟩
  cases hc : idxN 1 N n with
  | some c => exact h1.keep (hm.old hc).2
  | none =>
    obtain ⟨_, nv', _, h4, _⟩ := hm.new hc
    obtain ⟨M, t1, _, _⟩ := ht.ex
    exact h1.beside t1 h4
/-- The same number, and both tables with the node. -/
theorem Mid.done {w0 w : World} {tb mb rb : Nat} {N : List Nd} {n : Nd} (h : Mid w0 w tb mb rb N (putN N n).2) (hN : OkN N) (hn : NdOk n) (h0 : n.1 ≠ 0) {nv : Value} {L : List (Nd × Value)} (hL : RTbl w w0.heap.size rb nv L) (hnd : nds L = N) {e : Ending} {w' : World}
    (hm : RPut w w0.heap.size rb nv L n e w') : e = .returned (.int .i64 (putN N n).1) ∧ Two w0 w' tb mb rb (putN N n).2 := by
  have hg : ∀ m ∈ N, ∀ p ∈ m.2.2, 1 ≤ p := fun m hm p hp => ((hN m hm).1.2.2.2.1 p hp).1
  have hng : ∀ p ∈ n.2.2, 1 ≤ p := fun p hp => (hn.2.2.2.1 p hp).1
  have hidx := idxR_N N n hg hng 1
  rcases hm with ⟨c, h1, h2, h3⟩ | ⟨h1, h2, nv', pv, h3, h4, h5⟩
  · rw [hnd, hidx] at h1
    have e1 := putN_old h1
    rw [e1] at h ⊢
    exact ⟨h2, h.prog.keep h3, ⟨nv, L, hL.keep h3, hnd⟩, hN⟩
  · rw [hnd, hidx] at h1
    have e1 := putN_new h1
    have hlen : (L.length : Int) = (N.length : Int) := by rw [← hnd, nds_len]
    rw [e1] at h ⊢
    obtain ⟨tv, tx⟩ := h.prog.tab
    obtain ⟨M, t1, t2, _⟩ := tx.ex
    have t1' := Tbl.beside hL t1 h4
    refine ⟨by rw [h2, hlen], ⟨⟨tv, ⟨M, t1', t2, fun v hv => by cases hv⟩⟩, (fun r hr => by cases hr), List.Pairwise.nil, h.prog.bel.trans (hL.below h4)⟩, ⟨nv', _, h3, by rw [nds_app, hnd]⟩, fun m hm => ?_⟩
    rcases List.mem_append.1 hm with hm | hm
    · exact hN m hm
    · obtain rfl := List.mem_singleton.1 hm
      exact ⟨hn, h0⟩

/-- The acts, one table behind the other. -/
theorem Two.textP {w0 w : World} {tb mb rb : Nat} {N : List Nd} (h : Two w0 w tb mb rb N) {vb : Value} {zb : List Int} (hb : Rd .u8 w vb zb) (hl : zb.length ≤ 2048) (hroom : N.length < 65536) :
    Calls Try.prog 25 #[.pointer (some ⟨tb, 0, none⟩), vb] w fun e w' => e = .returned (.int .i64 (textN N (bstr zb)).1) ∧ Mid w0 w' tb mb rb N (textN N (bstr zb)).2 ∧ Kept w w' := by
  obtain ⟨nv, ht⟩ := h.prog.tab
  refine (ht.text hb hl hroom).mono fun e w' hm => ?_
  obtain ⟨e1, m1⟩ := h.put ht hm
  exact ⟨e1, m1, Two.kept ht hm⟩
theorem Mid.textR {w0 w : World} {tb mb rb : Nat} {N : List Nd} {s : ByteArray} (h : Mid w0 w tb mb rb N (textN N s).2) (hN : OkN N) (hs : s.size ≤ 2048) (hroom : N.length < 65536) :
    Calls Try.prog 55 #[.pointer (some ⟨rb, 0, none⟩), .string s] w fun e w' => e = .returned (.int .i64 (textN N s).1) ∧ Two w0 w' tb mb rb (textN N s).2 ∧ Kept w w' := by
  obtain ⟨nv, L, h1, h2⟩ := h.ref
  refine (rtext_any h1 s hs (by rw [← nds_len, h2]; exact hroom)).mono fun e w' hm => ?_
  obtain ⟨e1, m1⟩ := h.done hN ⟨wf_small 1 (by decide) (by decide), (by unfold maxLen; show s.size ≤ _; omega), Nat.zero_le _, (fun p hp => by cases hp), (fun h => by cases h)⟩ (show (1 : Int) ≠ 0 by decide) h1 h2 hm
  exact ⟨e1, m1, Mid.kept h1 hm⟩
theorem put_secret (N : List Nd) : putN N secretNd = ((N.length : Int) + 1, N ++ [secretNd]) := by
  refine putN_new ?_
  have : ∀ (N : List Nd) (i : Int), idxN i N secretNd = none := by
    intro N
    induction N with
    | nil => intro i; rfl
    | cons m r ih =>
      intro i
      unfold idxN
      rw [if_neg (fun h => h.2.2.2 rfl)]
      exact ih _
  exact this N 1
theorem Two.secretP {w0 w : World} {tb mb rb : Nat} {N : List Nd} (h : Two w0 w tb mb rb N) (hroom : N.length < 65536) :
    Calls Try.prog 28 #[.pointer (some ⟨tb, 0, none⟩)] w fun e w' => e = .returned (.int .i64 (putN N secretNd).1) ∧ Mid w0 w' tb mb rb N (putN N secretNd).2 ∧ Kept w w' := by
  obtain ⟨nv, ht⟩ := h.prog.tab
  refine (ht.secret hroom).mono fun e w' hm => ?_
  have hm' : PutX w w0.heap.size tb mb nv N [] secretNd e w' := by
    have hi : idxN 1 N secretNd = none := by
      have := put_secret N
      unfold putN at this
      cases hc : idxN 1 N secretNd with
      | none => rfl
      | some c => rw [hc] at this; have := congrArg (fun x => x.2.length) this; simp at this
    unfold PutX
    rw [hi]
    exact hm
  obtain ⟨e1, m1⟩ := h.put ht hm'
  exact ⟨e1, m1, Two.kept ht hm'⟩
theorem Mid.secretR {w0 w : World} {tb mb rb : Nat} {N : List Nd} (h : Mid w0 w tb mb rb N (putN N secretNd).2) (hN : OkN N) (hroom : N.length < 65536) :
    Calls Try.prog 56 #[.pointer (some ⟨rb, 0, none⟩)] w fun e w' => e = .returned (.int .i64 (putN N secretNd).1) ∧ Two w0 w' tb mb rb (putN N secretNd).2 ∧ Kept w w' := by
  obtain ⟨nv, L, h1, h2⟩ := h.ref
  refine (rsecret_any h1 (by rw [← nds_len, h2]; exact hroom)).mono fun e w' hm => ?_
  obtain ⟨e1, m1⟩ := h.done hN ⟨wf_small 2 (by decide) (by decide), (by decide), Nat.zero_le _, (fun p hp => by cases hp), (fun h => by cases h)⟩ (show (2 : Int) ≠ 0 by decide) h1 h2 hm
  exact ⟨e1, m1, Mid.kept h1 hm⟩
theorem Two.fits_ok {w0 w : World} {tb mb rb : Nat} {N : List Nd} (h : Two w0 w tb mb rb N) {k : Int} {ps : List Int} (hf : fitsN N k ps = true) : NdOk (k, ByteArray.empty, mkN N k ps) ∧ k ≠ 0 := by
  obtain ⟨nv, ht⟩ := h.prog.tab
  obtain ⟨L, h1, rfl, _⟩ := ht.ex
  refine ⟨by rw [← mk_nds]; exact mk_ok h1 ((fits_nds L k ps).2 hf), fun e => ?_⟩
  subst e
  unfold fitsN at hf
  have : askL 0 ps.length = none := rfl
  rw [this] at hf
  cases hf
theorem Two.makeP {w0 w : World} {tb mb rb : Nat} {N : List Nd} (h : Two w0 w tb mb rb N) (k : Int) {pv : Value} {ps : List Int} (hp : Rd .i64 w pv ps) (hl : ps.length ≤ 1000000) (hroom : N.length < 65536) :
    Calls Try.prog 26 #[.pointer (some ⟨tb, 0, none⟩), .int .i64 k, pv] w fun e w' => e = .returned (.int .i64 (makeN N k ps).1) ∧ Mid w0 w' tb mb rb N (makeN N k ps).2 ∧ Kept w w' := by
  obtain ⟨nv, ht⟩ := h.prog.tab
  unfold makeN
  by_cases hf : fitsN N k ps = true
  · rw [if_pos hf]
    refine (ht.make (fun v hv g hg => by cases hv) k hp hl hf hroom h.prog.bel.size).mono fun e w' hm => ?_
    obtain ⟨e1, m1⟩ := h.put ht hm
    exact ⟨e1, m1, Two.kept ht hm⟩
  · rw [if_neg hf]
    exact (Tab.make_no ht.at k hp hl (by simpa using hf)).mono fun e w' ⟨e1, hb⟩ => ⟨e1, h.mid.keep hb, .of_below hb⟩
theorem Mid.makeR {w0 w : World} {tb mb rb : Nat} {N : List Nd} {k : Int} {ps : List Int} (h : Mid w0 w tb mb rb N (makeN N k ps).2) (hN : OkN N) (hfo : fitsN N k ps = true → NdOk (k, ByteArray.empty, mkN N k ps) ∧ k ≠ 0) {pv : Value} (hp : Rd .i64 w pv ps) (hl : ps.length ≤ 1000000) (hroom : N.length < 65536) :
    Calls Try.prog 57 #[.pointer (some ⟨rb, 0, none⟩), .int .i64 k, pv] w fun e w' => e = .returned (.int .i64 (makeN N k ps).1) ∧ Two w0 w' tb mb rb (makeN N k ps).2 ∧ Kept w w' := by
  obtain ⟨nv, L, h1, h2⟩ := h.ref
  subst h2
  refine (rmake_any h1 (fun m hm => (hN m hm).2) (fun m hm => (hN m hm).1) k hp hl (by rw [← nds_len]; exact hroom) h.prog.bel.size).mono fun e w' hm => ?_
  unfold makeN at h ⊢
  rcases hm with ⟨hf, hm⟩ | ⟨hf, e1, hb⟩
  · rw [if_pos hf] at h ⊢
    obtain ⟨o1, o2⟩ := hfo hf
    obtain ⟨e1, m1⟩ := h.done hN o1 o2 h1 rfl hm
    exact ⟨e1, m1, Mid.kept h1 hm⟩
  · rw [if_neg (by rw [hf]; decide)] at h ⊢
    exact ⟨e1, ⟨h.prog.keep hb, ⟨nv, L, h1.keep hb, rfl⟩, hN⟩, .of_below hb⟩
#print axioms Mid.textR
#print axioms Mid.secretR
#print axioms Two.makeP
#print axioms Mid.makeR
end Go.Proofs.Ytbhfilmbokaboaa
