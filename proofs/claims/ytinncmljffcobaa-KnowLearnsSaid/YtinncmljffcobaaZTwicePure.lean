/- What is made twice has one number, and parts have smaller numbers: told of the nodes alone. -/
import Derived.Test.YtinncmljffcobaaZRmake8
import Derived.Test.YtinncmljffcobaaZPuts
import Derived.Lib.ConvBytes
namespace Go.Proofs.Ytinncmljffcobaa
open Go Go.RowKit

/-- The reference's Make, of whatever kind. -/
theorem rmake_any {w : World} {B rb : Nat} {nv : Value} {L : List (Nd × Value)} (h : RTbl w B rb nv L) (hk : ∀ m ∈ nds L, m.1 ≠ 0) (hok : ∀ m ∈ nds L, NdOk m) (k : Int) {pv : Value} {ps : List Int} (hp : Rd .i64 w pv ps) (hl : ps.length ≤ 1000000) (hroom : L.length < 65536) (hB : B ≤ w.heap.size) :
    Calls Try.prog 30 #[.pointer (some ⟨rb, 0, none⟩), .int .i64 k, pv] w fun e w' => RMade w B rb nv L k ps e w' := by
  by_cases h3 : k = 3
  · exact rmake_345 h hk k hp hl hroom hB (.inl h3)
  by_cases h4 : k = 4
  · exact rmake_345 h hk k hp hl hroom hB (.inr (.inl h4))
  by_cases h5 : k = 5
  · exact rmake_345 h hk k hp hl hroom hB (.inr (.inr h5))
  by_cases h6 : k = 6
  · exact rmake_6 h hk k hp hl hroom hB (Lib.hid h6)
  by_cases h7 : k = 7
  · exact rmake_7 h hk k hp hl hroom hB (Lib.hid h7)
  by_cases h8 : k = 8
  · exact rmake_8 h hk k hp hl hroom hB (Lib.hid hok) (Lib.hid h8)
  by_cases h9 : k = 9
  · exact rmake_9 h hk k hp hl hroom hB (Lib.hid h9)
  by_cases h10 : k = 10
  · exact rmake_10 h hk k hp hl hroom hB (Lib.hid h10)
  exact rmake_else h hk k hp hl hroom hB (Lib.hid ⟨h3, h4, h5, h6, h7, h8, h9, h10⟩)

/-- Nodes as they may be. -/
def OkN (N : List Nd) : Prop := ∀ m ∈ N, NdOk m ∧ m.1 ≠ 0
/-- Both tables, since w0, over the nodes N. -/
structure Two (w0 w : World) (tb mb rb : Nat) (N : List Nd) : Prop where
  prog : St w0 w tb mb N []
  ref : ∃ nv L, RTbl w w0.heap.size rb nv L ∧ nds L = N
  ok : OkN N
/-- The program's table has the node, the reference's not yet. -/
structure Mid (w0 w : World) (tb mb rb : Nat) (N N' : List Nd) : Prop where
  prog : St w0 w tb mb N' []
  ref : ∃ nv L, RTbl w w0.heap.size rb nv L ∧ nds L = N

theorem Two.keep {w0 w w' : World} {tb mb rb : Nat} {N : List Nd} (h : Two w0 w tb mb rb N) (hb : Below w.heap.size w w') : Two w0 w' tb mb rb N := by
  obtain ⟨nv, L, h1, h2⟩ := h.ref
  exact ⟨h.prog.keep hb, ⟨nv, L, h1.keep hb, h2⟩, h.ok⟩
theorem Mid.keep {w0 w w' : World} {tb mb rb : Nat} {N N' : List Nd} (h : Mid w0 w tb mb rb N N') (hb : Below w.heap.size w w') : Mid w0 w' tb mb rb N N' := by
  obtain ⟨nv, L, h1, h2⟩ := h.ref
  exact ⟨h.prog.keep hb, ⟨nv, L, h1.keep hb, h2⟩⟩
theorem Two.mid {w0 w : World} {tb mb rb : Nat} {N : List Nd} (h : Two w0 w tb mb rb N) : Mid w0 w tb mb rb N N := ⟨h.prog, h.ref⟩

/-- Blocks of other types than the tables' are as they were. -/
def Kept (w w' : World) : Prop := ∀ (k : Nat) (c : Array Value) (e : TypeId) (fr : Nat × Nat), w.heap[k]? = some (Obj.cells c e fr) → e ≠ 61 → e ≠ 53 → e ≠ 30 → e ≠ 69 → w'.heap[k]? = some (Obj.cells c e fr)
theorem Kept.of_below {w w' : World} (h : Below w.heap.size w w') : Kept w w' := fun k c e fr hk _ _ _ _ => by rw [h.block k (blk_lt hk)]; exact hk
theorem Kept.trans {w w1 w2 : World} (h : Kept w w1) (h' : Kept w1 w2) : Kept w w2 := fun k c e fr hk h1 h2 h3 h4 => h' k c e fr (h k c e fr hk h1 h2 h3 h4) h1 h2 h3 h4
theorem Kept.refl (w : World) : Kept w w := fun _ _ _ _ hk _ _ _ _ => hk

/-- Behind the program's act. -/
theorem Two.kept {w0 w : World} {tb mb : Nat} {N : List Nd} {nv : Value} (ht : TabX w w0.heap.size tb mb nv N []) {n : Nd} {e : Ending} {w' : World} (hm : PutX w w0.heap.size tb mb nv N [] n e w') : Kept w w' := by
  cases hc : idxN 1 N n with
  | some c => exact .of_below (hm.old hc).2
  | none =>
    obtain ⟨_, nv', _, h4, _⟩ := hm.new hc
    obtain ⟨M, t1, _, _⟩ := ht.ex
    intro k c e fr hk h1 h2 _ _
    rw [t1.other h4 (blk_lt hk) (fun c' fr' e' => by rw [hk] at e'; cases e'; exact h1 rfl) (fun c' fr' e' => by rw [hk] at e'; cases e'; exact h2 rfl) (fun es c' e' => by rw [hk] at e'; cases e')]
    exact hk
theorem Mid.kept {w : World} {B rb : Nat} {nv : Value} {L : List (Nd × Value)} (hL : RTbl w B rb nv L) {n : Nd} {e : Ending} {w' : World} (hm : RPut w B rb nv L n e w') : Kept w w' := by
  rcases hm with ⟨c, h1, h2, h3⟩ | ⟨h1, h2, nv', pv, h3, h4, h5⟩
  · exact .of_below h3
  · intro k c e fr hk _ _ g1 g2
    have hne : k ≠ rb := fun e => by
      subst e
      rw [hL.tab] at hk; cases hk; exact g1 rfl
    rw [h4.block k (blk_lt hk) hne hne (fun e => by
      obtain ⟨cur, hc⟩ := own_blk hL.nodes e.symm
      rw [hk] at hc; cases hc; exact g2 rfl)]
    exact hk
theorem Two.put {w0 w : World} {tb mb rb : Nat} {N : List Nd} (h : Two w0 w tb mb rb N) {nv : Value} (ht : TabX w w0.heap.size tb mb nv N []) {n : Nd} {e : Ending} {w' : World} (hm : PutX w w0.heap.size tb mb nv N [] n e w') :
    e = .returned (.int .i64 (putN N n).1) ∧ Mid w0 w' tb mb rb N (putN N n).2 := by
  obtain ⟨e1, s1⟩ := h.prog.ofPut ht hm
  refine ⟨e1, s1, ?_⟩
  obtain ⟨rv, L, h1, h2⟩ := h.ref
  refine ⟨rv, L, ?_, h2⟩
  cases hc : idxN 1 N n with
  | some c => exact h1.keep (hm.old hc).2
  | none =>
    obtain ⟨_, nv', _, h4, _⟩ := hm.new hc
    obtain ⟨M, t1, _, _⟩ := ht.ex
    exact h1.beside t1 h4
/-- The same number, and both tables with the node. -/
theorem Mid.done {w0 w : World} {tb mb rb : Nat} {N : List Nd} {n : Nd} (h : Mid w0 w tb mb rb N (putN N n).2) (hN : OkN N) (hn : NdOk n) (h0 : n.1 ≠ 0) {nv : Value} {L : List (Nd × Value)} (hL : RTbl w w0.heap.size rb nv L) (hnd : nds L = N) {e : Ending} {w' : World}
    (hm : RPut w w0.heap.size rb nv L n e w') : e = .returned (.int .i64 (putN N n).1) ∧ Two w0 w' tb mb rb (putN N n).2 := by
  have hg : ∀ m ∈ N, ∀ p ∈ m.2.2, 1 ≤ p := fun m hm p hp => ((hN m hm).1.2.2.2.1 p hp).1
  have hng : ∀ p ∈ n.2.2, 1 ≤ p := fun p hp => (hn.2.2.2.1 p hp).1
  have hidx := idxR_N N n hg hng 1
  rcases hm with ⟨c, h1, h2, h3⟩ | ⟨h1, h2, nv', pv, h3, h4, h5⟩
  · rw [hnd, hidx] at h1
    have e1 := putN_old h1
    rw [e1] at h ⊢
    exact ⟨h2, h.prog.keep h3, ⟨nv, L, hL.keep h3, hnd⟩, hN⟩
  · rw [hnd, hidx] at h1
    have e1 := putN_new h1
    have hlen : (L.length : Int) = (N.length : Int) := by rw [← hnd, nds_len]
    rw [e1] at h ⊢
    obtain ⟨tv, tx⟩ := h.prog.tab
    obtain ⟨M, t1, t2, _⟩ := tx.ex
    have t1' := Tbl.beside hL t1 h4
    refine ⟨by rw [h2, hlen], ⟨⟨tv, ⟨M, t1', t2, fun v hv => by cases hv⟩⟩, (fun r hr => by cases hr), List.Pairwise.nil, h.prog.bel.trans (hL.below h4)⟩, ⟨nv', _, h3, by rw [nds_app, hnd]⟩, fun m hm => ?_⟩
    rcases List.mem_append.1 hm with hm | hm
    · exact hN m hm
    · obtain rfl := List.mem_singleton.1 hm
      exact ⟨hn, h0⟩

/-- The acts, one table behind the other. -/
theorem Two.textP {w0 w : World} {tb mb rb : Nat} {N : List Nd} (h : Two w0 w tb mb rb N) {vb : Value} {zb : List Int} (hb : Rd .u8 w vb zb) (hl : zb.length ≤ 2048) (hroom : N.length < 65536) :
    Calls Try.prog 25 #[.pointer (some ⟨tb, 0, none⟩), vb] w fun e w' => e = .returned (.int .i64 (textN N (bstr zb)).1) ∧ Mid w0 w' tb mb rb N (textN N (bstr zb)).2 ∧ Kept w w' := by
  obtain ⟨nv, ht⟩ := h.prog.tab
  refine (ht.text hb hl hroom).mono fun e w' hm => ?_
  obtain ⟨e1, m1⟩ := h.put ht hm
  exact ⟨e1, m1, Two.kept ht hm⟩
theorem Mid.textR {w0 w : World} {tb mb rb : Nat} {N : List Nd} {s : ByteArray} (h : Mid w0 w tb mb rb N (textN N s).2) (hN : OkN N) (hs : s.size ≤ 2048) (hroom : N.length < 65536) :
    Calls Try.prog 26 #[.pointer (some ⟨rb, 0, none⟩), .string s] w fun e w' => e = .returned (.int .i64 (textN N s).1) ∧ Two w0 w' tb mb rb (textN N s).2 ∧ Kept w w' := by
  obtain ⟨nv, L, h1, h2⟩ := h.ref
  refine (rtext_any h1 s hs (by rw [← nds_len, h2]; exact hroom)).mono fun e w' hm => ?_
  obtain ⟨e1, m1⟩ := h.done hN ⟨wf_small 1 (by decide) (by decide), (by unfold maxLen; show s.size ≤ _; omega), Nat.zero_le _, (fun p hp => by cases hp), (fun h => by cases h)⟩ (show (1 : Int) ≠ 0 by decide) h1 h2 hm
  exact ⟨e1, m1, Mid.kept h1 hm⟩
theorem put_secret (N : List Nd) : putN N secretNd = ((N.length : Int) + 1, N ++ [secretNd]) := by
  refine putN_new ?_
  have : ∀ (N : List Nd) (i : Int), idxN i N secretNd = none := by
    intro N
    induction N with
    | nil => intro i; rfl
    | cons m r ih =>
      intro i
      unfold idxN
      rw [if_neg (fun h => h.2.2.2 rfl)]
      exact ih _
  exact this N 1
theorem Two.secretP {w0 w : World} {tb mb rb : Nat} {N : List Nd} (h : Two w0 w tb mb rb N) (hroom : N.length < 65536) :
    Calls Try.prog 27 #[.pointer (some ⟨tb, 0, none⟩)] w fun e w' => e = .returned (.int .i64 (putN N secretNd).1) ∧ Mid w0 w' tb mb rb N (putN N secretNd).2 ∧ Kept w w' := by
  obtain ⟨nv, ht⟩ := h.prog.tab
  refine (ht.secret hroom).mono fun e w' hm => ?_
  have hm' : PutX w w0.heap.size tb mb nv N [] secretNd e w' := by
    have hi : idxN 1 N secretNd = none := by
      have := put_secret N
      unfold putN at this
      cases hc : idxN 1 N secretNd with
      | none => rfl
      | some c => rw [hc] at this; have := congrArg (fun x => x.2.length) this; simp at this
    unfold PutX
    rw [hi]
    exact hm
  obtain ⟨e1, m1⟩ := h.put ht hm'
  exact ⟨e1, m1, Two.kept ht hm'⟩
theorem Mid.secretR {w0 w : World} {tb mb rb : Nat} {N : List Nd} (h : Mid w0 w tb mb rb N (putN N secretNd).2) (hN : OkN N) (hroom : N.length < 65536) :
    Calls Try.prog 28 #[.pointer (some ⟨rb, 0, none⟩)] w fun e w' => e = .returned (.int .i64 (putN N secretNd).1) ∧ Two w0 w' tb mb rb (putN N secretNd).2 ∧ Kept w w' := by
  obtain ⟨nv, L, h1, h2⟩ := h.ref
  refine (rsecret_any h1 (by rw [← nds_len, h2]; exact hroom)).mono fun e w' hm => ?_
  obtain ⟨e1, m1⟩ := h.done hN ⟨wf_small 2 (by decide) (by decide), (by decide), Nat.zero_le _, (fun p hp => by cases hp), (fun h => by cases h)⟩ (show (2 : Int) ≠ 0 by decide) h1 h2 hm
  exact ⟨e1, m1, Mid.kept h1 hm⟩
theorem Two.fits_ok {w0 w : World} {tb mb rb : Nat} {N : List Nd} (h : Two w0 w tb mb rb N) {k : Int} {ps : List Int} (hf : fitsN N k ps = true) : NdOk (k, ByteArray.empty, mkN N k ps) ∧ k ≠ 0 := by
  obtain ⟨nv, ht⟩ := h.prog.tab
  obtain ⟨L, h1, rfl, _⟩ := ht.ex
  refine ⟨by rw [← mk_nds]; exact mk_ok h1 ((fits_nds L k ps).2 hf), fun e => ?_⟩
  subst e
  unfold fitsN at hf
  have : askL 0 ps.length = none := rfl
  rw [this] at hf
  cases hf
theorem Two.makeP {w0 w : World} {tb mb rb : Nat} {N : List Nd} (h : Two w0 w tb mb rb N) (k : Int) {pv : Value} {ps : List Int} (hp : Rd .i64 w pv ps) (hl : ps.length ≤ 1000000) (hroom : N.length < 65536) :
    Calls Try.prog 29 #[.pointer (some ⟨tb, 0, none⟩), .int .i64 k, pv] w fun e w' => e = .returned (.int .i64 (makeN N k ps).1) ∧ Mid w0 w' tb mb rb N (makeN N k ps).2 ∧ Kept w w' := by
  obtain ⟨nv, ht⟩ := h.prog.tab
  unfold makeN
  by_cases hf : fitsN N k ps = true
  · rw [if_pos hf]
    refine (ht.make (fun v hv g hg => by cases hv) k hp hl hf hroom h.prog.bel.size).mono fun e w' hm => ?_
    obtain ⟨e1, m1⟩ := h.put ht hm
    exact ⟨e1, m1, Two.kept ht hm⟩
  · rw [if_neg hf]
    exact (Tab.make_no ht.at k hp hl (by simpa using hf)).mono fun e w' ⟨e1, hb⟩ => ⟨e1, h.mid.keep hb, .of_below hb⟩
theorem Mid.makeR {w0 w : World} {tb mb rb : Nat} {N : List Nd} {k : Int} {ps : List Int} (h : Mid w0 w tb mb rb N (makeN N k ps).2) (hN : OkN N) (hfo : fitsN N k ps = true → NdOk (k, ByteArray.empty, mkN N k ps) ∧ k ≠ 0) {pv : Value} (hp : Rd .i64 w pv ps) (hl : ps.length ≤ 1000000) (hroom : N.length < 65536) :
    Calls Try.prog 30 #[.pointer (some ⟨rb, 0, none⟩), .int .i64 k, pv] w fun e w' => e = .returned (.int .i64 (makeN N k ps).1) ∧ Two w0 w' tb mb rb (makeN N k ps).2 ∧ Kept w w' := by
  obtain ⟨nv, L, h1, h2⟩ := h.ref
  subst h2
  refine (rmake_any h1 (fun m hm => (hN m hm).2) (fun m hm => (hN m hm).1) k hp hl (by rw [← nds_len]; exact hroom) h.prog.bel.size).mono fun e w' hm => ?_
  unfold makeN at h ⊢
  rcases hm with ⟨hf, hm⟩ | ⟨hf, e1, hb⟩
  · rw [if_pos hf] at h ⊢
    obtain ⟨o1, o2⟩ := hfo hf
    obtain ⟨e1, m1⟩ := h.done hN o1 o2 h1 rfl hm
    exact ⟨e1, m1, Mid.kept h1 hm⟩
  · rw [if_neg (by rw [hf]; decide)] at h ⊢
    exact ⟨e1, ⟨h.prog.keep hb, ⟨nv, L, h1.keep hb, rfl⟩, hN⟩, .of_below hb⟩
#print axioms Mid.textR
#print axioms Mid.secretR
#print axioms Two.makeP
#print axioms Mid.makeR
end Go.Proofs.Ytinncmljffcobaa
namespace Go.Proofs.Ytinncmljffcobaa
open Go Go.RowKit

def sealN (N : List Nd) (key : Int) (head : ByteArray) (content : Int) : Int × List Nd := makeN (textN N head).2 10 [key, (textN N head).1, content]
def deriveN (N : List Nd) (secret : Int) (label : ByteArray) (context : Int) : Int × List Nd :=
  if context = 0 then makeN (textN (textN N ByteArray.empty).2 label).2 6 [secret, (textN (textN N ByteArray.empty).2 label).1, (textN N ByteArray.empty).1]
  else makeN (textN N label).2 6 [secret, (textN N label).1, context]

/-- A string's bytes, as numbers. -/
def sbytes (s : ByteArray) : List Int := s.data.toList.map fun b => (b.toNat : Int)
theorem sbytes_len (s : ByteArray) : (sbytes s).length = s.size := by simp [sbytes]
theorem bstr_sbytes (s : ByteArray) : bstr (sbytes s) = s := by
  have key : ∀ (l : List UInt8) (r : ByteArray), (l.map (fun b => (b.toNat : Int))).foldl (fun r n => r.push (UInt8.ofNat n.toNat)) r = ⟨r.data ++ l.toArray⟩ := by
    intro l
    induction l with
    | nil => intro r; simp
    | cons b l ih =>
      intro r
      simp only [List.map_cons, List.foldl_cons]
      rw [ih]
      simp [ByteArray.push]
  unfold bstr sbytes
  rw [key]
  have e : (ByteArray.empty.data ++ s.data.toList.toArray) = s.data := by
    show (#[] : Array UInt8) ++ s.data.toList.toArray = s.data
    simp
  rw [e]
theorem conv_str (w : World) (s : ByteArray) (hs : s.size ≤ maxLen) : ∃ v w', (convert 9 63 (.string s)).run Try.prog w = .ok v w' ∧ Rd .u8 w' v (sbytes s) ∧ Below w.heap.size w w' := by
  have hr := Lib.run_convert_string_bytes (P := Try.prog) w 9 63 5 s Try.underlying9 Try.underlying63 Try.underlying5
  refine ⟨_, _, hr, ?_, ?_⟩
  · refine ⟨some ⟨w.heap.size, 0, none⟩, grownCap w s.size 0 5, by rw [sbytes_len], by rw [sbytes_len]; exact grownCap_ge _ _ _ _, grownCap_le_maxLen _ _ _ _ hs, (fun h => by cases h), fun a ha j hj => ?_⟩
    cases ha
    rw [sbytes_len] at hj
    rw [Addr.add_lit, Nat.zero_add, Lib.bytesWorld_cell w 5 s j hj]
    simp [sbytes, List.getD, hj]
  · exact ⟨rfl, rfl, rfl, by rw [Lib.bytesWorld_size]; omega, fun k hk => Lib.bytesWorld_at_old w 5 s k hk⟩
theorem empty_bstr : bstr [] = ByteArray.empty := rfl

end Go.Proofs.Ytinncmljffcobaa
namespace Go.Proofs.Ytinncmljffcobaa
open Go Go.RowKit

def GoodN (N : List Nd) : Prop := ∀ m ∈ N, ∀ p ∈ m.2.2, 1 ≤ p
/-- The term n has the number c. -/
structure Has (N : List Nd) (c : Int) (n : Nd) : Prop where
  pos : 1 ≤ c
  at' : N[(c - 1).toNat]? = some n
  idx : idxN 1 N n = some c

theorem idxN_app (N M : List Nd) (n : Nd) (i c : Int) (h : idxN i N n = some c) : idxN i (N ++ M) n = some c := by
  induction N generalizing i with
  | nil => cases h
  | cons m r ih =>
    simp only [List.cons_append]
    unfold idxN at h ⊢
    split
    · rename_i hc; rw [if_pos hc] at h; exact h
    · rename_i hc; rw [if_neg hc] at h; exact ih _ h
theorem idxN_end (N : List Nd) (n : Nd) (hn : n.1 ≠ 2) (i : Int) (h : idxN i N n = none) : idxN i (N ++ [n]) n = some (i + N.length) := by
  induction N generalizing i with
  | nil => simp [idxN, hn]
  | cons m r ih =>
    simp only [List.cons_append]
    unfold idxN at h ⊢
    split at h
    · cases h
    · rename_i hc
      rw [if_neg hc, ih _ h]
      simp; omega
theorem idxN_at (N : List Nd) (n : Nd) (i c : Int) (h : idxN i N n = some c) : ∃ m, i ≤ c ∧ N[(c - i).toNat]? = some m ∧ m.1 = n.1 ∧ m.2.1 = n.2.1 ∧ pad m.2.2 = pad n.2.2 := by
  induction N generalizing i with
  | nil => cases h
  | cons m r ih =>
    unfold idxN at h
    split at h
    · rename_i hc
      cases h
      exact ⟨m, Int.le_refl _, by simp, hc.1, hc.2.1, hc.2.2.1⟩
    · obtain ⟨m', h1, h2, h3⟩ := ih _ h
      refine ⟨m', by omega, ?_, h3⟩
      rw [show (c - i).toNat = (c - (i + 1)).toNat + 1 by omega]
      simpa using h2

theorem Has.ext {N : List Nd} {c : Int} {n : Nd} (h : Has N c n) {M : List Nd} (hp : N <+: M) : Has M c n := by
  obtain ⟨r, rfl⟩ := hp
  refine ⟨h.pos, ?_, idxN_app N r n 1 c h.idx⟩
  have hlt := (List.getElem?_eq_some_iff.1 h.at').1
  rw [List.getElem?_append_left hlt]
  exact h.at'
theorem Has.node {N : List Nd} {c : Int} {n n' : Nd} (h : Has N c n) (h' : Has N c n') : n = n' := Option.some.inj (h.at'.symm.trans h'.at')
theorem Has.num {N : List Nd} {c c' : Int} {n : Nd} (h : Has N c n) (h' : Has N c' n) : c = c' := Option.some.inj (h.idx.symm.trans h'.idx)
theorem Has.le {N : List Nd} {c : Int} {n : Nd} (h : Has N c n) : c ≤ (N.length : Int) := by
  have hlt := (List.getElem?_eq_some_iff.1 h.at').1
  have := h.pos
  omega
theorem Has.kind {N : List Nd} {c : Int} {n : Nd} (h : Has N c n) : kindN N c = n.1 := by
  unfold kindN
  rw [if_neg (by have := h.pos; omega), h.at']
theorem Has.put {N : List Nd} {c : Int} {n : Nd} (h : Has N c n) : putN N n = (c, N) := putN_old h.idx

/-- What is put is there. -/
theorem put_has {N : List Nd} (hN : GoodN N) {n : Nd} (hn : n.1 ≠ 2) (hp : ∀ p ∈ n.2.2, 1 ≤ p) :
    Has (putN N n).2 (putN N n).1 n ∧ N <+: (putN N n).2 ∧ GoodN (putN N n).2 := by
  cases hc : idxN 1 N n with
  | some c =>
    rw [putN_old hc]
    obtain ⟨m, h1, h2, h3, h4, h5⟩ := idxN_at N n 1 c hc
    have hm : m = n := by
      have : m.2.2 = n.2.2 := pad_inj (hN m (List.mem_of_getElem? h2)) hp h5
      exact Prod.ext h3 (Prod.ext h4 this)
    subst hm
    exact ⟨⟨h1, h2, hc⟩, List.prefix_rfl, hN⟩
  | none =>
    rw [putN_new hc]
    refine ⟨⟨by omega, ?_, ?_⟩, List.prefix_append _ _, fun m hm => ?_⟩
    · simp
    · rw [idxN_end N n hn 1 hc]; congr 1; omega
    · rcases List.mem_append.1 hm with hm | hm
      · exact hN m hm
      · obtain rfl := List.mem_singleton.1 hm
        exact hp
theorem text_has {N : List Nd} (hN : GoodN N) (s : ByteArray) : Has (textN N s).2 (textN N s).1 (1, s, []) ∧ N <+: (textN N s).2 ∧ GoodN (textN N s).2 :=
  put_has hN (show (1 : Int) ≠ 2 by decide) (fun p hp => by cases hp)
theorem make_has {N : List Nd} (hN : GoodN N) {k : Int} {ps : List Int} (hk : k ≠ 2) (hk8 : k ≠ 8) (hf : fitsN N k ps = true) (hp : ∀ p ∈ ps, 1 ≤ p) :
    Has (makeN N k ps).2 (makeN N k ps).1 (k, ByteArray.empty, ps) ∧ N <+: (makeN N k ps).2 ∧ GoodN (makeN N k ps).2 := by
  unfold makeN
  rw [if_pos hf]
  have e : mkN N k ps = ps := if_neg hk8
  rw [e]
  exact put_has hN hk hp
theorem fits3 {N : List Nd} {k a b c : Int} (hk : k = 6 ∨ k = 10) (ha : 1 ≤ a ∧ a ≤ (N.length : Int)) (hc : 1 ≤ c ∧ c ≤ (N.length : Int)) {s : ByteArray} (hb : Has N b (1, s, [])) : fitsN N k [a, b, c] = true := by
  have hb1 := hb.pos
  have hb2 := hb.le
  have hb3 : kindN N b = 1 := hb.kind
  have hask : askL k 3 = some [0, 1, 0] := by rcases hk with rfl | rfl <;> rfl
  unfold fitsN
  simp only [List.length_cons, List.length_nil, Nat.zero_add, Nat.reduceAdd, hask]
  simp [List.range_succ, okN, ha, hc, hb1, hb2, hb3]

/-- What Derive leaves. -/
theorem derive_has {N : List Nd} (hN : GoodN N) {s : Int} (hs : 1 ≤ s ∧ s ≤ (N.length : Int)) (label : ByteArray) {c : Int} (hc : 1 ≤ c ∧ c ≤ (N.length : Int)) :
    ∃ l, Has (deriveN N s label c).2 l (1, label, []) ∧ Has (deriveN N s label c).2 (deriveN N s label c).1 (6, ByteArray.empty, [s, l, c]) ∧ N <+: (deriveN N s label c).2 ∧ GoodN (deriveN N s label c).2 := by
  obtain ⟨h1, h2, h3⟩ := text_has hN label
  have hl := h2.length_le
  unfold deriveN
  rw [if_neg (by omega)]
  have hf := fits3 (k := 6) (.inl rfl) (a := s) (c := c) ⟨hs.1, by omega⟩ ⟨hc.1, by omega⟩ h1
  obtain ⟨g1, g2, g3⟩ := make_has h3 (by decide) (by decide) hf (by
    intro p hp
    simp only [List.mem_cons, List.not_mem_nil, or_false] at hp
    have := h1.pos
    rcases hp with rfl | rfl | rfl <;> omega)
  exact ⟨_, h1.ext g2, g1, h2.trans g2, g3⟩
theorem derive0 {N : List Nd} (s : Int) (label : ByteArray) {e : Int} (he : e ≠ 0) : deriveN N s label 0 = if (textN N ByteArray.empty).1 = e then deriveN (textN N ByteArray.empty).2 s label e else deriveN N s label 0 := by
  split
  · rename_i h
    subst h
    unfold deriveN
    rw [if_pos rfl, if_neg he]
  · rfl
/-- With the context 0 it is that of the empty text. -/
theorem derive0_has {N : List Nd} (hN : GoodN N) {s : Int} (hs : 1 ≤ s ∧ s ≤ (N.length : Int)) (label : ByteArray) :
    ∃ l e, Has (deriveN N s label 0).2 e (1, ByteArray.empty, []) ∧ Has (deriveN N s label 0).2 l (1, label, []) ∧ Has (deriveN N s label 0).2 (deriveN N s label 0).1 (6, ByteArray.empty, [s, l, e]) ∧ N <+: (deriveN N s label 0).2 ∧ GoodN (deriveN N s label 0).2 := by
  obtain ⟨h1, h2, h3⟩ := text_has hN ByteArray.empty
  have hl := h2.length_le
  have hp := h1.pos
  have e0 := derive0 (N := N) s label (e := (textN N ByteArray.empty).1) (by omega)
  rw [if_pos rfl] at e0
  rw [e0]
  obtain ⟨l, g1, g2, g3, g4⟩ := derive_has h3 (s := s) ⟨hs.1, by omega⟩ label (c := (textN N ByteArray.empty).1) ⟨hp, h1.le⟩
  exact ⟨l, _, h1.ext g3, g1, g2, h2.trans g3, g4⟩
/-- What Seal leaves. -/
theorem seal_has {N : List Nd} (hN : GoodN N) {key content : Int} (hk : 1 ≤ key ∧ key ≤ (N.length : Int)) (hc : 1 ≤ content ∧ content ≤ (N.length : Int)) (head : ByteArray) :
    ∃ h, Has (sealN N key head content).2 h (1, head, []) ∧ Has (sealN N key head content).2 (sealN N key head content).1 (10, ByteArray.empty, [key, h, content]) ∧ N <+: (sealN N key head content).2 ∧ GoodN (sealN N key head content).2 := by
  obtain ⟨h1, h2, h3⟩ := text_has hN head
  have hl := h2.length_le
  unfold sealN
  have hf := fits3 (k := 10) (.inr rfl) (a := key) (c := content) ⟨hk.1, by omega⟩ ⟨hc.1, by omega⟩ h1
  obtain ⟨g1, g2, g3⟩ := make_has h3 (by decide) (by decide) hf (by
    intro p hp
    simp only [List.mem_cons, List.not_mem_nil, or_false] at hp
    have := h1.pos
    rcases hp with rfl | rfl | rfl <;> omega)
  exact ⟨_, h1.ext g2, g1, h2.trans g2, g3⟩
theorem derive_len (N : List Nd) (s : Int) (label : ByteArray) (c : Int) : (deriveN N s label c).2.length ≤ N.length + 3 := by
  unfold deriveN
  split
  · have h1 := (putN_len N (1, ByteArray.empty, [])).2
    have h2 := (putN_len (textN N ByteArray.empty).2 (1, label, [])).2
    have h3 := (makeN_len (textN (textN N ByteArray.empty).2 label).2 6 [s, (textN (textN N ByteArray.empty).2 label).1, (textN N ByteArray.empty).1]).2
    unfold textN at *
    omega
  · have h2 := (putN_len N (1, label, [])).2
    have h3 := (makeN_len (textN N label).2 6 [s, (textN N label).1, c]).2
    unfold textN at *
    omega
theorem seal_len (N : List Nd) (key : Int) (head : ByteArray) (c : Int) : (sealN N key head c).2.length ≤ N.length + 2 := by
  unfold sealN
  have h2 := (putN_len N (1, head, [])).2
  have h3 := (makeN_len (textN N head).2 10 [key, (textN N head).1, c]).2
  unfold textN at *
  omega
#print axioms derive0_has
#print axioms seal_has
end Go.Proofs.Ytinncmljffcobaa
namespace Go.Proofs.Ytinncmljffcobaa
open Go Go.RowKit

/-- Parts stand ahead of what has them. -/
def Low (N : List Nd) : Prop := ∀ (q : Nat) (n : Nd), N[q]? = some n → ∀ p ∈ n.2.2, p ≤ (q : Int)
theorem Low.nil : Low [] := fun q n h => by cases h
theorem Low.put {N : List Nd} (h : Low N) {n : Nd} (hn : ∀ p ∈ n.2.2, p ≤ (N.length : Int)) : Low (putN N n).2 := by
  cases hc : idxN 1 N n with
  | some c => rw [putN_old hc]; exact h
  | none =>
    rw [putN_new hc]
    intro q m hq p hp
    by_cases hlt : q < N.length
    · rw [List.getElem?_append_left hlt] at hq
      exact h q m hq p hp
    · have hq2 := (List.getElem?_eq_some_iff.1 hq).1
      simp only [List.length_append, List.length_cons, List.length_nil] at hq2
      obtain rfl : q = N.length := by omega
      simp at hq
      subst hq
      exact hn p hp
theorem OkN.good {N : List Nd} (h : OkN N) : GoodN N := fun m hm p hp => ((h m hm).1.2.2.2.1 p hp).1

theorem fits_mem {N : List Nd} {k : Int} {ps : List Int} (hf : fitsN N k ps = true) : ∀ p ∈ ps, 1 ≤ p ∧ p ≤ (N.length : Int) := by
  unfold fitsN at hf
  cases ha : askL k ps.length with
  | none => rw [ha] at hf; cases hf
  | some l =>
    rw [ha] at hf
    simp only [Bool.and_eq_true, decide_eq_true_eq, List.all_eq_true, List.mem_range] at hf
    intro p hp
    obtain ⟨j, hj, rfl⟩ := List.mem_iff_getElem.1 hp
    have := hf.2 j hj
    unfold okN at this
    simp only [Bool.and_eq_true, decide_eq_true_eq, List.getD_eq_getElem?_getD, List.getElem?_eq_getElem hj, Option.getD_some] at this
    exact this.1
theorem kindN_app {N M : List Nd} {p : Int} (h : p ≤ (N.length : Int)) : kindN (N ++ M) p = kindN N p := by
  unfold kindN
  by_cases h1 : p < 1
  · rw [if_pos h1, if_pos h1]
  · rw [if_neg h1, if_neg h1, List.getElem?_append_left (by omega)]
theorem partsN_app {N M : List Nd} {p : Int} (h1 : 1 ≤ p) (h : p ≤ (N.length : Int)) : partsN (N ++ M) p = partsN N p := by
  unfold partsN
  rw [List.getElem?_append_left (by omega)]
theorem fits_app {N M : List Nd} {k : Int} {ps : List Int} (hf : fitsN N k ps = true) : fitsN (N ++ M) k ps = true := by
  have hm := fits_mem hf
  unfold fitsN at hf ⊢
  cases ha : askL k ps.length with
  | none => rw [ha] at hf; cases hf
  | some l =>
    rw [ha] at hf
    simp only [Bool.and_eq_true, decide_eq_true_eq, List.all_eq_true, List.mem_range] at hf ⊢
    refine ⟨hf.1, fun j hj => ?_⟩
    have h2 := hf.2 j hj
    have h3 := hm ps[j] (List.getElem_mem hj)
    have e : ps.getD j 0 = ps[j] := by simp [List.getD_eq_getElem?_getD, List.getElem?_eq_getElem hj]
    unfold okN at h2 ⊢
    rw [e] at h2 ⊢
    rw [kindN_app h3.2]
    simp only [Bool.and_eq_true, decide_eq_true_eq, List.length_append] at h2 ⊢
    exact ⟨⟨h2.1.1, by omega⟩, h2.2⟩
theorem fits8 {N : List Nd} {ps : List Int} (hf : fitsN N 8 ps = true) : ps.length = 2 ∧ kindN N (ps.getD 1 0) = 7 := by
  unfold fitsN at hf
  have hl : ps.length = 2 := by
    cases ha : askL 8 ps.length with
    | none => rw [ha] at hf; cases hf
    | some l =>
      have hl : l = [2, 7] := Option.some.inj (ha.symm.trans rfl)
      rw [ha] at hf
      simp only [Bool.and_eq_true, decide_eq_true_eq] at hf
      rw [← hf.1, hl]; rfl
  refine ⟨hl, ?_⟩
  have ha : askL 8 ps.length = some [2, 7] := rfl
  rw [ha] at hf
  simp only [Bool.and_eq_true, decide_eq_true_eq, List.all_eq_true, List.mem_range] at hf
  have := hf.2 1 (by omega)
  simp only [okN, List.getD_cons_succ, List.getD_cons_zero, Bool.and_eq_true, Bool.or_eq_true, decide_eq_true_eq] at this
  rcases this.2 with h | h
  · omega
  · exact h.symm
theorem fits2 {N : List Nd} {k : Int} {ps : List Int} (hf : fitsN N k ps = true) : k ≠ 2 := by
  intro e
  subst e
  unfold fitsN at hf
  have : askL 2 ps.length = none := rfl
  rw [this] at hf
  cases hf
theorem mk_app {N M : List Nd} {k : Int} {ps : List Int} (hf : fitsN N k ps = true) : mkN (N ++ M) k ps = mkN N k ps := by
  unfold mkN
  by_cases h8 : k = 8
  · subst h8
    obtain ⟨hl, _⟩ := fits8 hf
    have hm := fits_mem hf (ps.getD 1 0) (by
      rw [List.getD_eq_getElem?_getD, List.getElem?_eq_getElem (show 1 < ps.length by omega)]
      exact List.getElem_mem _)
    rw [if_pos rfl, if_pos rfl, partsN_app hm.1 hm.2]
  · rw [if_neg h8, if_neg h8]
/-- The parts of what is made are terms of the table. -/
theorem mk_mem {N : List Nd} (hN : OkN N) (hlow : Low N) {k : Int} {ps : List Int} (hf : fitsN N k ps = true) : ∀ p ∈ mkN N k ps, 1 ≤ p ∧ p ≤ (N.length : Int) := by
  unfold mkN
  by_cases h8 : k = 8
  · subst h8
    obtain ⟨hl, hk⟩ := fits8 hf
    have hm1 := fits_mem hf (ps.getD 1 0) (by
      rw [List.getD_eq_getElem?_getD, List.getElem?_eq_getElem (show 1 < ps.length by omega)]
      exact List.getElem_mem _)
    have hm0 := fits_mem hf (ps.getD 0 0) (by
      rw [List.getD_eq_getElem?_getD, List.getElem?_eq_getElem (show 0 < ps.length by omega)]
      exact List.getElem_mem _)
    generalize ps.getD 1 0 = y at *
    generalize ps.getD 0 0 = x at *
    rw [if_pos rfl]
    obtain ⟨n, hn⟩ : ∃ n, N[(y - 1).toNat]? = some n := ⟨_, List.getElem?_eq_getElem (by omega)⟩
    have hk7 : n.1 = 7 := by
      unfold kindN at hk
      rw [if_neg (by omega), hn] at hk
      exact hk
    have hok := (hN n (List.mem_of_getElem? hn)).1
    obtain ⟨o, ho⟩ := List.length_eq_one_iff.1 (hok.2.2.2.2 hk7)
    have hpo : (partsN N y).getD 0 0 = o := by
      unfold partsN
      rw [hn]
      simp [ho]
    have h1 := hok.2.2.2.1 o (by rw [ho]; simp)
    have h2 := hlow _ n hn o (by rw [ho]; simp)
    rw [hpo]
    intro p hp
    simp only [List.mem_cons, List.not_mem_nil, or_false] at hp
    rcases hp with rfl | rfl <;> omega
  · rw [if_neg h8]
    exact fits_mem hf
theorem Low.make {N : List Nd} (h : Low N) (hN : OkN N) (k : Int) (ps : List Int) : Low (makeN N k ps).2 := by
  unfold makeN
  split
  · rename_i hf
    exact h.put fun p hp => (mk_mem hN h hf p hp).2
  · exact h
theorem make_again {N : List Nd} (hN : OkN N) (hlow : Low N) (k : Int) (ps : List Int) (h0 : (makeN N k ps).1 ≠ 0) : makeN (makeN N k ps).2 k ps = ((makeN N k ps).1, (makeN N k ps).2) ∧ 1 ≤ (makeN N k ps).1 := by
  by_cases hf : fitsN N k ps = true
  · have hput := put_has hN.good (n := (k, ByteArray.empty, mkN N k ps)) (fits2 hf) (fun p hp => (mk_mem hN hlow hf p hp).1)
    unfold makeN
    rw [if_pos hf]
    obtain ⟨M, hM⟩ := hput.2.1
    have hf2 : fitsN (putN N (k, ByteArray.empty, mkN N k ps)).2 k ps = true := by rw [← hM]; exact fits_app hf
    have hm2 : mkN (putN N (k, ByteArray.empty, mkN N k ps)).2 k ps = mkN N k ps := by rw [← hM]; exact mk_app hf
    rw [if_pos hf2, hm2]
    exact ⟨hput.1.put, hput.1.pos⟩
  · exfalso
    apply h0
    unfold makeN
    rw [if_neg hf]
theorem text_again {N : List Nd} (hN : OkN N) (s : ByteArray) : textN (textN N s).2 s = ((textN N s).1, (textN N s).2) ∧ 1 ≤ (textN N s).1 :=
  ⟨(text_has hN.good s).1.put, (text_has hN.good s).1.pos⟩
theorem secret_num (N : List Nd) : (putN N secretNd).1 = (N.length : Int) + 1 := by rw [put_secret]
/-- What a step tells is a number of the table behind it, or 0. -/
theorem put_range (N : List Nd) (n : Nd) : 1 ≤ (putN N n).1 ∧ (putN N n).1 ≤ ((putN N n).2.length : Int) := by
  cases hc : idxN 1 N n with
  | some c =>
    rw [putN_old hc]
    obtain ⟨m, h1, h2, _⟩ := idxN_at N n 1 c hc
    have := (List.getElem?_eq_some_iff.1 h2).1
    exact ⟨h1, by show c ≤ (N.length : Int); omega⟩
  | none => rw [putN_new hc]; exact ⟨by show (1 : Int) ≤ (N.length : Int) + 1; omega, by simp⟩
#print axioms make_again
#print axioms mk_mem
end Go.Proofs.Ytinncmljffcobaa
