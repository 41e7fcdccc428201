/- The table beside guests: blocks of others, which the table's calls leave as they are. -/
import Derived.Test.YtkmjdpnbakcgcaaTIdOpen
import Derived.Test.YtkmjdpnbakcgcaaTLookNo
import Derived.Lib.SlBytesConst
import Derived.Lib.SmallJoins
namespace Go.Proofs.Ytkmjdpnbakcgcaa.T
open Go Go.RowKit

/-- The table since w0, and guests: blocks that are none of the table's. -/
structure Sg (w0 w : World) (tb mb : Nat) (N : List Nd) (rs : List (Nat × Obj)) : Prop where
  tab : ∃ nv, TabX w w0.heap.size tb mb nv N [] ∧ ∀ r ∈ rs, r.1 ≠ tb ∧ r.1 ≠ mb ∧ some r.1 ≠ nv.ownBlock
  own : ∀ r ∈ rs, w.heap[r.1]? = some r.2
  bel : Below w0.heap.size w0 w
theorem Sg.of_st {w0 w : World} {tb mb : Nat} {N : List Nd} (h : St w0 w tb mb N []) : Sg w0 w tb mb N [] := by
  obtain ⟨nv, ht⟩ := h.tab
  exact ⟨⟨nv, ht, fun r hr => by cases hr⟩, (fun r hr => by cases hr), h.bel⟩
theorem Sg.st {w0 w : World} {tb mb : Nat} {N : List Nd} {rs : List (Nat × Obj)} (h : Sg w0 w tb mb N rs) : St w0 w tb mb N [] := by
  obtain ⟨nv, ht, _⟩ := h.tab
  exact ⟨⟨nv, ht⟩, (fun r hr => by cases hr), List.Pairwise.nil, h.bel⟩
theorem Sg.sub {w0 w : World} {tb mb : Nat} {N : List Nd} {rs us : List (Nat × Obj)} (h : Sg w0 w tb mb N rs) (hs : ∀ u ∈ us, u ∈ rs) : Sg w0 w tb mb N us := by
  obtain ⟨nv, ht, hg⟩ := h.tab
  exact ⟨⟨nv, ht, fun r hr => hg r (hs r hr)⟩, (fun r hr => h.own r (hs r hr)), h.bel⟩
theorem Sg.keep {w0 w w' : World} {tb mb : Nat} {N : List Nd} {rs : List (Nat × Obj)} (h : Sg w0 w tb mb N rs) (hb : Below w.heap.size w w') : Sg w0 w' tb mb N rs := by
  obtain ⟨nv, ht, hg⟩ := h.tab
  exact ⟨⟨nv, ht.keep hb, hg⟩, (fun r hr => by rw [hb.block _ (blk_lt (h.own r hr))]; exact h.own r hr), h.bel.trans (hb.mono h.bel.size)⟩
/-- A guest comes. -/
theorem Sg.guest {w0 w : World} {tb mb : Nat} {N : List Nd} {rs : List (Nat × Obj)} (h : Sg w0 w tb mb N rs) (o : Obj) (g : Nat) (hg : g = w.heap.size) : Sg w0 (w.alloc o) tb mb N ((g, o) :: rs) := by
  subst hg
  obtain ⟨nv, ht, hg⟩ := h.tab
  obtain ⟨L, h1, _, _⟩ := ht.ex
  have hk := h.keep (below_alloc w o)
  refine ⟨⟨nv, ht.keep (below_alloc w o), fun r hr => ?_⟩, fun r hr => ?_, hk.bel⟩
  · rcases List.mem_cons.1 hr with rfl | hr
    · refine ⟨fun e => ?_, fun e => ?_, fun e => ?_⟩
      · have := blk_lt h1.tab; simp only at e; omega
      · have := h1.map.lt; simp only at e; omega
      · have := (h1.nodes.lt _ e.symm).2; omega
    · exact hg r hr
  · rcases List.mem_cons.1 hr with rfl | hr
    · show (w.heap.push o)[w.heap.size]? = some o
      simp
    · exact hk.own r hr
theorem Sg.ofPut {w0 w : World} {tb mb : Nat} {N : List Nd} {rs : List (Nat × Obj)} (h : Sg w0 w tb mb N rs) {nv : Value} (ht : TabX w w0.heap.size tb mb nv N []) (hg : ∀ r ∈ rs, r.1 ≠ tb ∧ r.1 ≠ mb ∧ some r.1 ≠ nv.ownBlock) {n : Nd} {e : Ending} {w' : World} (hm : PutX w w0.heap.size tb mb nv N [] n e w') :
    e = .returned (.int .i64 (putN N n).1) ∧ Sg w0 w' tb mb (putN N n).2 rs := by
  cases hc : idxN 1 N n with
  | some c =>
    rw [putN_old hc]
    obtain ⟨e1, hb⟩ := hm.old hc
    exact ⟨e1, h.keep hb⟩
  | none =>
    rw [putN_new hc]
    obtain ⟨e1, nv', h2, h4, h5⟩ := hm.new hc
    refine ⟨e1, ⟨nv', h2, fun r hr => ⟨(hg r hr).1, (hg r hr).2.1, ?_⟩⟩, (fun r hr => ?_), h.bel.trans (ht.at.below h4)⟩
    · rcases h5 with e | e
      · rw [e]; exact (hg r hr).2.2
      · intro e2
        have := e _ e2.symm
        have := blk_lt (h.own r hr)
        omega
    · rw [h4.block _ (blk_lt (h.own r hr)) (hg r hr).1 (hg r hr).2.1 (hg r hr).2.2]
      exact h.own r hr
set_option maxRecDepth 20000 in
theorem Sg.text {w0 w : World} {tb mb : Nat} {N : List Nd} {rs : List (Nat × Obj)} (h : Sg w0 w tb mb N rs) {vb : Value} {zb : List Int} (hb : Rd .u8 w vb zb) (hl : zb.length ≤ 2048) (hroom : N.length < 65536) :
    Calls Try.prog 14 #[.pointer (some ⟨tb, 0, none⟩), vb] w fun e w' => e = .returned (.int .i64 (textN N (bstr zb)).1) ∧ Sg w0 w' tb mb (textN N (bstr zb)).2 rs := by
  obtain ⟨nv, ht, hg⟩ := h.tab
  exact (ht.text hb hl hroom).mono fun e w' hm => h.ofPut ht hg hm
set_option maxRecDepth 20000 in
theorem Sg.makes {w0 w : World} {tb mb : Nat} {N : List Nd} {rs : List (Nat × Obj)} (h : Sg w0 w tb mb N rs) (k : Int) {pv : Value} {ps : List Int} (hp : Rd .i64 w pv ps) (hl : ps.length ≤ 1000000) (hroom : N.length < 65536) :
    Calls Try.prog 15 #[.pointer (some ⟨tb, 0, none⟩), .int .i64 k, pv] w fun e w' => e = .returned (.int .i64 (makeN N k ps).1) ∧ Sg w0 w' tb mb (makeN N k ps).2 rs := by
  obtain ⟨nv, ht, hg⟩ := h.tab
  unfold makeN
  by_cases hf : fitsN N k ps = true
  · rw [if_pos hf]
    exact (ht.make (fun v hv => by cases hv) k hp hl hf hroom h.bel.size).mono fun e w' hm => h.ofPut ht hg hm
  · rw [if_neg hf]
    exact (Tab.make_no ht.at k hp hl (by simpa using hf)).mono fun e w' ⟨e1, hb⟩ => ⟨e1, h.keep hb⟩
theorem fitsP {N : List Nd} {k : Int} {ps : List Int} (hk : k = 3 ∨ k = 5) (hl : ps.length = 2) (h : ∀ p ∈ ps, 1 ≤ p ∧ p ≤ (N.length : Int)) : fitsN N k ps = true := by
  obtain ⟨a, b, rfl⟩ : ∃ a b, ps = [a, b] := by
    match ps, hl with
    | [a, b], _ => exact ⟨a, b, rfl⟩
  have ha := h a (by simp)
  have hb := h b (by simp)
  have hask : askL k 2 = some [0, 0] := by rcases hk with rfl | rfl <;> rfl
  unfold fitsN
  simp only [List.length_cons, List.length_nil, Nat.zero_add, Nat.reduceAdd, hask]
  simp [List.range_succ, okN, ha, hb]
theorem pair_has {N : List Nd} (hN : GoodN N) {k a b : Int} (hk : k = 3 ∨ k = 5) (ha : 1 ≤ a ∧ a ≤ (N.length : Int)) (hb : 1 ≤ b ∧ b ≤ (N.length : Int)) :
    Has (makeN N k [a, b]).2 (makeN N k [a, b]).1 (k, ByteArray.empty, [a, b]) ∧ N <+: (makeN N k [a, b]).2 ∧ GoodN (makeN N k [a, b]).2 := by
  have hm : ∀ p ∈ [a, b], 1 ≤ p ∧ p ≤ (N.length : Int) := fun p hp => by
    simp only [List.mem_cons, List.not_mem_nil, or_false] at hp
    rcases hp with rfl | rfl
    · exact ha
    · exact hb
  exact make_has hN (by omega) (by omega) (fitsP hk rfl hm) fun p hp => (hm p hp).1
/-- A message more. -/
theorem good_nil : GoodN [] := fun m hm => by cases hm
variable {w0 w : World} {tb mb : Nat} {N : List Nd} {rs : List (Value × List Int)}
theorem St.look2 (h : St w0 w tb mb N rs) {m : Int} {k a b : Int} (hm : Has N m (k, ByteArray.empty, [a, b])) :
    Calls Try.prog 17 #[.pointer (some ⟨tb, 0, none⟩), .int .i64 m] w fun e w' => ∃ g cap, e = .returned (.tuple #[.agg #[.int .i64 k, .string ByteArray.empty, .slice (some ⟨g, 0, none⟩) 2 cap], .bool true]) ∧ 2 ≤ cap ∧ cap ≤ 9223372036854775807 ∧ g < w'.heap.size ∧ w'.cell? ⟨g, 0, none⟩ = some (.int .i64 a) ∧ w'.cell? ⟨g, 1, none⟩ = some (.int .i64 b) ∧ St w0 w' tb mb N rs ∧ Below w.heap.size w w' := by
  have hp := hm.pos
  have := h.look (m - 1).toNat _ hm.at'
  rw [show (((m - 1).toNat : Nat) : Int) + 1 = m by omega] at this
  refine this.mono ?_
  rintro e w' ⟨pv, rfl, ho, hb, hs⟩
  have hr := (Rd.of_own ho).1
  obtain ⟨g, cap, rfl, _, h3, h4, _, _⟩ := own_pair ho
  obtain ⟨ao, cp, hv, _, _, _, hc⟩ := hr
  cases hv
  have c0 := hc _ rfl 0 (by simp)
  have c1 := hc _ rfl 1 (by simp)
  rw [Addr.add_lit] at c0 c1
  exact ⟨g, cap, rfl, h3, h4, cell_lt c0, c0, c1, hs, hb⟩
theorem St.look0 (h : St w0 w tb mb N rs) (t : Int) (h0 : t < 1 ∨ (N.length : Int) < t) :
    Calls Try.prog 17 #[.pointer (some ⟨tb, 0, none⟩), .int .i64 t] w fun e w' => e = .returned (.tuple #[.agg #[.int .i64 0, .string ByteArray.empty, .slice none 0 0], .bool false]) ∧ St w0 w' tb mb N rs := by
  obtain ⟨nv, ht⟩ := h.tab
  exact (Tab.look_no ht.at t h0).mono fun e w' ⟨h1, h2⟩ => ⟨h1, h.keep h2⟩
def seq (a b : ByteArray) : Bool := a.toList == b.toList
theorem seq_eq (a b : ByteArray) : seq a b = decide (a = b) := by
  unfold seq
  by_cases h : a = b
  · subst h; simp
  · have := str_ne h
    rw [Bool.not_eq_true'] at this
    rw [this, decide_eq_false h]

/-- A constant text's row: what follows its last cell is marked. -/
theorem Rd.litM (w : World) (zs : List Int) (n : Nat) (hn : n = zs.length) (h : zs.length ≤ 1000) : Rd .u8 (w.alloc (.cells (cs .u8 zs).toArray 5 ((cs .u8 zs).toArray.size, (cs .u8 zs).toArray.size + 1))) (.slice (some ⟨w.heap.size, 0, none⟩) n n) zs := by
  subst hn
  refine ⟨some ⟨w.heap.size, 0, none⟩, zs.length, rfl, Nat.le_refl _, by unfold maxLen; omega, (fun h => by cases h), fun a ha j hj => ?_⟩
  cases ha
  rw [Addr.add_lit, Nat.zero_add, World.cell?_alloc_mark]
  simpa using cs_get .u8 zs j hj
theorem conv_const (w : World) (C : Array Value) (n c : Nat) : (convert 22 22 (.slice (some ⟨w.heap.size, 0, none⟩) n c)).run Try.prog (w.alloc (.cells C 5)) = .ok (.slice (some ⟨w.heap.size, 0, none⟩) n c) (w.alloc (.cells C 5 (C.size, C.size + 1))) :=
  Lib.run_convert_bytes_const (P := Try.prog) w 22 5 C n c Try.underlying22 Try.underlying5

theorem textN_len (N : List Nd) (s : ByteArray) : (textN N s).2.length ≤ N.length + 1 := by
  unfold textN; exact (putN_len _ _).2

#print axioms St.look2
end Go.Proofs.Ytkmjdpnbakcgcaa.T
