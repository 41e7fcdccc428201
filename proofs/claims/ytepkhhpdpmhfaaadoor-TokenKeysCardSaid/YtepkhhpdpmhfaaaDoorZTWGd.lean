/- The table beside guests, some calls more: a new secret; a look at whatever term; what Open tells of what is not sealed. Each with what stays. -/
import Derived.Test.YtepkhhpdpmhfaaaDoorZTSgB
namespace Go.Proofs.YtepkhhpdpmhfaaaDoor.T
open Go Go.RowKit

theorem Sg.look3 {w0 w : World} {tb mb : Nat} {N : List Nd} {rs : List (Nat × Obj)} (h : Sg w0 w tb mb N rs) {m : Int} {k a b c : Int} (hm : Has N m (k, ByteArray.empty, [a, b, c])) :
    Calls Tryd.prog 23 #[.pointer (some ⟨tb, 0, none⟩), .int .i64 m] w fun e w' => ∃ g cap, e = .returned (.tuple #[.agg #[.int .i64 k, .string ByteArray.empty, .slice (some ⟨g, 0, none⟩) 3 cap], .bool true]) ∧ 3 ≤ cap ∧ cap ≤ 9223372036854775807 ∧ g < w'.heap.size ∧ w'.cell? ⟨g, 0, none⟩ = some (.int .i64 a) ∧ w'.cell? ⟨g, 1, none⟩ = some (.int .i64 b) ∧ w'.cell? ⟨g, 2, none⟩ = some (.int .i64 c) ∧ Sg w0 w' tb mb N rs ∧ Below w.heap.size w w' :=
  (h.st.look3 hm).mono fun _ _ ⟨g, cap, h1, h2, h3, h4, h5, h6, h7, _, hb⟩ => ⟨g, cap, h1, h2, h3, h4, h5, h6, h7, h.keep hb, hb⟩
theorem Sg.look1 {w0 w : World} {tb mb : Nat} {N : List Nd} {rs : List (Nat × Obj)} (h : Sg w0 w tb mb N rs) {m : Int} {s : ByteArray} (hm : Has N m (1, s, [])) :
    Calls Tryd.prog 23 #[.pointer (some ⟨tb, 0, none⟩), .int .i64 m] w fun e w' => ∃ ao cap, e = .returned (.tuple #[.agg #[.int .i64 1, .string s, .slice ao 0 cap], .bool true]) ∧ Sg w0 w' tb mb N rs ∧ Below w.heap.size w w' :=
  (h.st.look1 hm).mono fun _ _ ⟨ao, cap, h1, _, hb⟩ => ⟨ao, cap, h1, h.keep hb, hb⟩
set_option maxRecDepth 20000 in
set_option maxHeartbeats 800000 in
theorem Sg.seal {w0 w : World} {tb mb : Nat} {N : List Nd} {rs : List (Nat × Obj)} (h : Sg w0 w tb mb N rs) (key content : Int) {vb : Value} {zb : List Int} (hb : Rd .u8 w vb zb) (hl : zb.length ≤ 2048) (hroom : N.length < 65535) :
    Calls Tryd.prog 18 #[.pointer (some ⟨tb, 0, none⟩), .int .i64 key, vb, .int .i64 content] w fun e w' => e = .returned (.int .i64 (sealN N key (bstr zb) content).1) ∧ Sg w0 w' tb mb (sealN N key (bstr zb) content).2 rs := by
  have c1 := h.text hb hl (by omega)
  have hlen := (putN_len N (1, bstr zb, [])).2
  have HL : Hid ((textN N (bstr zb)).2.length < 65536) := Lib.hid (by unfold textN; omega)
  unfold sealN
  generalize (textN N (bstr zb)) = T at *
  obtain ⟨ao, cap, rfl, _⟩ := hb
  clear h hl hroom hlen
  go_enter Tryd.func18, Tryd.ntmps18
  go_wp2_with fail
  refine c1.mono ?_
  rintro e w1 ⟨rfl, h1⟩
  have c2 := (h1.keep (below_alloc w1 (.cells (cs .i64 [key, T.1, content]).toArray 27))).makes 10 (Rd.lit .i64 27 w1 [key, T.1, content] (by simp)) (by simp) HL.out
  clear c1
  go_wp2_with fail
  refine c2.mono ?_
  rintro e w2 ⟨rfl, h2⟩
  go_wp2_with fail
  go_ret
  exact ⟨rfl, h2⟩

set_option maxRecDepth 20000 in
set_option maxHeartbeats 1600000 in
theorem Sg.open_key {w0 w : World} {tb mb : Nat} {N : List Nd} {rs : List (Nat × Obj)} (h : Sg w0 w tb mb N rs) {m k a b c : Int} (hm : Has N m (10, ByteArray.empty, [a, b, c])) (hk : a ≠ k) (vb : Value) :
    Calls Tryd.prog 22 #[.pointer (some ⟨tb, 0, none⟩), .int .i64 k, vb, .int .i64 m] w fun e w' => e = .returned (.tuple #[.int .i64 0, .bool false]) ∧ Sg w0 w' tb mb N rs ∧ Below w.heap.size w w' := by
  have c1 := h.look3 hm
  have t1 : (a != k) = true := bne_iff_ne.2 hk
  clear h hm hk
  go_enter Tryd.func22, Tryd.ntmps22
  go_wp2_with fail
  refine c1.mono ?_
  rintro e w1 ⟨g, cap, rfl, hc1, hc2, hg, k0, k1, k2, h1, hb1⟩
  clear c1
  have HS := Lib.hid (And.intro (h1.keep (below_alloc w1 (.cells #[.int .i64 10, .string ByteArray.empty, .slice (some ⟨g, 0, none⟩) 3 cap] 54))) (hb1.trans ((below_alloc w1 (.cells #[.int .i64 10, .string ByteArray.empty, .slice (some ⟨g, 0, none⟩) 3 cap] 54)).mono hb1.size)))
  clear h1 hb1
  go_wp2_with fail
  go_ret2
  exact ⟨rfl, HS.out⟩

set_option maxRecDepth 20000 in
set_option maxHeartbeats 1600000 in
theorem Sg.open_head {w0 w : World} {tb mb : Nat} {N : List Nd} {rs : List (Nat × Obj)} (h : Sg w0 w tb mb N rs) {m k b c : Int} (hm : Has N m (10, ByteArray.empty, [k, b, c])) {t : ByteArray} (ht : Has N b (1, t, [])) {vb : Value} {zb : List Int} (hb : Rd .u8 w vb zb) :
    Calls Tryd.prog 22 #[.pointer (some ⟨tb, 0, none⟩), .int .i64 k, vb, .int .i64 m] w fun e w' => e = .returned (.tuple #[.int .i64 (if t = bstr zb then c else 0), .bool (decide (t = bstr zb))]) ∧ Sg w0 w' tb mb N rs ∧ Below w.heap.size w w' := by
  have c1 := h.look3 hm
  have t1 : (k != k) = false := by simp
  have HB := Lib.hid hb
  have HT := Lib.hid ht
  obtain ⟨ao, cpb, rfl, _⟩ := hb
  clear h hm ht
  go_enter Tryd.func22, Tryd.ntmps22
  go_wp2_with fail
  refine c1.mono ?_
  rintro e w1 ⟨g, cap, rfl, hc1, hc2, hg, k0, k1, k2, h1, hb1⟩
  clear c1
  have h1' := h1.keep (below_alloc w1 (.cells #[.int .i64 10, .string ByteArray.empty, .slice (some ⟨g, 0, none⟩) 3 cap] 54))
  have c2 := h1'.look1 HT.out
  have HB1 := Lib.hid (HB.out.below (hb1.trans ((below_alloc w1 (.cells #[.int .i64 10, .string ByteArray.empty, .slice (some ⟨g, 0, none⟩) 3 cap] 54)).mono hb1.size)))
  have HA : Hid ((w1.alloc (.cells #[.int .i64 10, .string ByteArray.empty, .slice (some ⟨g, 0, none⟩) 3 cap] 54)).heap[w1.heap.size]? = some (.cells #[.int .i64 10, .string ByteArray.empty, .slice (some ⟨g, 0, none⟩) 3 cap] 54 (0, 0))) := Lib.hid (heap_alloc_new _ _)
  have HZ : Hid ((w1.alloc (.cells #[.int .i64 10, .string ByteArray.empty, .slice (some ⟨g, 0, none⟩) 3 cap] 54)).heap.size = w1.heap.size + 1) := Lib.hid (by simp)
  clear h1 h1'
  go_wp2_with fail
  refine c2.mono ?_
  rintro e w2 ⟨aop, capp, rfl, h2, hb2⟩
  clear c2
  have n0 : w2.cell? ⟨w1.heap.size, 2, none⟩ = some (.slice (some ⟨g, 0, none⟩) 3 cap) := by
    rw [hb2.cell (by show w1.heap.size < _; rw [HZ.out]; omega)]
    exact (cell_of_row _ w1.heap.size 2 _ 54 (0, 0) HA.out).trans rfl
  have n1 : w2.cell? ⟨g, 2, none⟩ = some (.int .i64 c) := by
    rw [hb2.cell (by show g < _; rw [HZ.out]; omega)]
    rw [show (w1.alloc (.cells #[.int .i64 10, .string ByteArray.empty, .slice (some ⟨g, 0, none⟩) 3 cap] 54)).cell? ⟨g, 2, none⟩ = w1.cell? ⟨g, 2, none⟩ from (below_alloc w1 _).cell hg]
    exact k2
  have hwlt : w1.heap.size < w2.heap.size := by have := hb2.size; rw [HZ.out] at this; omega
  have hglt : g < w2.heap.size := by omega
  have hcv := conv_any (HB1.out.below (hb2.trans ((below_alloc w2 (.cells #[.int .i64 1, .string t, .slice aop 0 capp] 54)).mono hb2.size)))
  have HB2 := ((hb1.trans ((below_alloc w1 (.cells #[.int .i64 10, .string ByteArray.empty, .slice (some ⟨g, 0, none⟩) 3 cap] 54)).mono hb1.size)).trans (hb2.mono (hb1.trans ((below_alloc w1 (.cells #[.int .i64 10, .string ByteArray.empty, .slice (some ⟨g, 0, none⟩) 3 cap] 54)).mono hb1.size)).size))
  have HS := Lib.hid (And.intro (h2.keep (below_alloc w2 (.cells #[.int .i64 1, .string t, .slice aop 0 capp] 54))) (HB2.trans ((below_alloc w2 (.cells #[.int .i64 1, .string t, .slice aop 0 capp] 54)).mono HB2.size)))
  clear HB2
  clear h2 k0 k1 k2
  by_cases hu : t = bstr zb
  · subst hu
    go_wp2_with fail
    go_ret2
    exact ⟨rfl, HS.out⟩
  · have q1 : (!t.toList == (bstr zb).toList) = true := str_ne hu
    go_wp2_with fail
    go_ret2
    exact ⟨rfl, HS.out⟩
/-- A table of at most n nodes, beside guests. -/
structure Gd (w0 w : World) (tb mb : Nat) (N : List Nd) (n : Nat) (rs : List (Nat × Obj)) : Prop where
  st : Sg w0 w tb mb N rs
  good : GoodN N
  len : N.length ≤ n
variable {w0 w : World} {tb mb n : Nat} {N : List Nd} {rs : List (Nat × Obj)}
theorem Gd.keep (h : Gd w0 w tb mb N n rs) {w' : World} (hb : Below w.heap.size w w') : Gd w0 w' tb mb N n rs := ⟨h.st.keep hb, h.good, h.len⟩
/-- What a call that tells a term leaves. -/
def Tells (w0 w' : World) (tb mb n : Nat) (N : List Nd) (rs : List (Nat × Obj)) (e : Ending) (K : List Nd → Int → Prop) : Prop := ∃ N' c, e = .returned (.int .i64 c) ∧ Gd w0 w' tb mb N' n rs ∧ N <+: N' ∧ K N' c
theorem Gd.textG (h : Gd w0 w tb mb N n rs) {vb : Value} {zb : List Int} (hb : Rd .u8 w vb zb) (hl : zb.length ≤ 2048) (hn : n ≤ 60000) :
    Calls Tryd.prog 19 #[.pointer (some ⟨tb, 0, none⟩), vb] w fun e w' => Tells w0 w' tb mb (n + 1) N rs e fun M c => Has M c (1, bstr zb, []) := by
  have := textN_len N (bstr zb)
  have := h.len
  obtain ⟨h1, h2, h3⟩ := text_has h.good (bstr zb)
  exact (h.st.text hb hl (by omega)).mono fun e w' ⟨he, hs⟩ => ⟨_, _, he, ⟨hs, h3, by omega⟩, h2, h1⟩
theorem Gd.pair (h : Gd w0 w tb mb N n rs) {k a b : Int} (hk : k = 3 ∨ k = 5) (ha : 1 ≤ a ∧ a ≤ (N.length : Int)) (hb : 1 ≤ b ∧ b ≤ (N.length : Int)) {pv : Value} (hp : Rd .i64 w pv [a, b]) (hn : n ≤ 60000) :
    Calls Tryd.prog 28 #[.pointer (some ⟨tb, 0, none⟩), .int .i64 k, pv] w fun e w' => Tells w0 w' tb mb (n + 1) N rs e fun M c => Has M c (k, ByteArray.empty, [a, b]) := by
  have := makeN_len N k [a, b]
  have := h.len
  obtain ⟨h1, h2, h3⟩ := pair_has h.good hk ha hb
  exact (h.st.makes k hp (by simp) (by omega)).mono fun e w' ⟨he, hs⟩ => ⟨_, _, he, ⟨hs, h3, by omega⟩, h2, h1⟩
theorem Gd.sizeG (h : Gd w0 w tb mb N n rs) : Calls Tryd.prog 48 #[.pointer (some ⟨tb, 0, none⟩)] w fun e w' => e = .returned (.int .i64 (N.length : Int)) ∧ w = w' := by
  obtain ⟨nv, ht, _⟩ := h.st.tab
  exact Tab.size ht.at
/-- A block that is there, of another type, is a guest. -/
theorem Sg.other (h : Sg w0 w tb mb N rs) {g : Nat} {c : Array Value} {e : TypeId} {fr : Nat × Nat} (hg : w.heap[g]? = some (.cells c e fr)) (h1 : e ≠ 51) (h2 : e ≠ 54) : Sg w0 w tb mb N ((g, .cells c e fr) :: rs) := by
  obtain ⟨nv, ht, hr⟩ := h.tab
  obtain ⟨L, hL, _, _⟩ := ht.ex
  refine ⟨⟨nv, ht, fun r hm => ?_⟩, fun r hm => ?_, h.bel⟩
  · rcases List.mem_cons.1 hm with rfl | hm
    · refine ⟨fun e1 => ?_, fun e1 => ?_, fun e1 => ?_⟩
      · simp only at e1; subst e1
        rw [hL.tab] at hg; cases hg; exact h1 rfl
      · simp only at e1; subst e1
        obtain ⟨D, ⟨es, clock, hb, _⟩, _⟩ := hL.map
        rw [hb] at hg; cases hg
      · obtain ⟨cur, hc⟩ := own_blk hL.nodes e1.symm
        simp only at hc
        rw [hc] at hg; cases hg; exact h2 rfl
    · exact hr r hm
  · rcases List.mem_cons.1 hm with rfl | hm
    · exact hg
    · exact h.own r hm
theorem fits_memG {N : List Nd} {k : Int} {ps : List Int} (hf : fitsN N k ps = true) : ∀ p ∈ ps, 1 ≤ p ∧ p ≤ (N.length : Int) := by
  unfold fitsN at hf
  cases ha : askL k ps.length with
  | none => rw [ha] at hf; cases hf
  | some l =>
    rw [ha] at hf
    simp only [Bool.and_eq_true, decide_eq_true_eq, List.all_eq_true, List.mem_range] at hf
    intro p hp
    obtain ⟨j, hj, rfl⟩ := List.mem_iff_getElem.1 hp
    have := hf.2 j hj
    unfold okN at this
    simp only [Bool.and_eq_true, decide_eq_true_eq, List.getD_eq_getElem?_getD, List.getElem?_eq_getElem hj, Option.getD_some] at this
    exact this.1
/-- c is sealed with key under head: content. -/
def IsSeal (M : List Nd) (c key : Int) (head : ByteArray) (content : Int) : Prop := ∃ h, Has M h (1, head, []) ∧ Has M c (10, ByteArray.empty, [key, h, content])
theorem IsSeal.ext {M M' : List Nd} {c k x : Int} {hd : ByteArray} (h : IsSeal M c k hd x) (hp : M <+: M') : IsSeal M' c k hd x := by
  obtain ⟨l, h1, h2⟩ := h; exact ⟨l, h1.ext hp, h2.ext hp⟩
theorem IsSeal.rng {M : List Nd} {c k x : Int} {hd : ByteArray} (h : IsSeal M c k hd x) : 1 ≤ c ∧ c ≤ (M.length : Int) := by
  obtain ⟨l, h1, h2⟩ := h; exact ⟨h2.pos, h2.le⟩
theorem IsSeal.iff {M : List Nd} {c d k k' x x' : Int} {hd hd' : ByteArray} (h : IsSeal M c k hd x) (h' : IsSeal M d k' hd' x') : c = d ↔ k = k' ∧ hd = hd' ∧ x = x' := by
  obtain ⟨l, h1, h2⟩ := h
  obtain ⟨l', h3, h4⟩ := h'
  constructor
  · intro e
    subst e
    have e1 := h2.node h4
    simp only [Prod.mk.injEq, List.cons.injEq, true_and, and_true] at e1
    obtain ⟨rfl, rfl, rfl⟩ := e1
    have e2 := h1.node h3
    simp only [Prod.mk.injEq, true_and, and_true] at e2
    exact ⟨rfl, e2, rfl⟩
  · rintro ⟨rfl, rfl, rfl⟩
    obtain rfl := h1.num h3
    exact h2.num h4
theorem Gd.sealG (h : Gd w0 w tb mb N n rs) {key content : Int} (hk : 1 ≤ key ∧ key ≤ (N.length : Int)) (hc : 1 ≤ content ∧ content ≤ (N.length : Int)) {vb : Value} {zb : List Int} (hb : Rd .u8 w vb zb) (hl : zb.length ≤ 2048) (hn : n ≤ 60000) :
    Calls Tryd.prog 18 #[.pointer (some ⟨tb, 0, none⟩), .int .i64 key, vb, .int .i64 content] w fun e w' => Tells w0 w' tb mb (n + 2) N rs e fun M c => IsSeal M c key (bstr zb) content := by
  have := h.len
  have := seal_len N key (bstr zb) content
  obtain ⟨l, h1, h2, h3, h4⟩ := seal_has h.good hk hc (bstr zb)
  exact (h.st.seal key content hb hl (by omega)).mono fun e w' ⟨he, hs⟩ => ⟨_, _, he, ⟨hs, h4, by omega⟩, h3, l, h1, h2⟩
/-- Sealed with what is none: none. -/
theorem Gd.seal_no (h : Gd w0 w tb mb N n rs) {key content : Int} (hx : key < 1 ∨ (N.length : Int) + 1 < key ∨ content < 1 ∨ (N.length : Int) + 1 < content) {vb : Value} {zb : List Int} (hb : Rd .u8 w vb zb) (hl : zb.length ≤ 2048) (hn : n ≤ 60000) :
    Calls Tryd.prog 18 #[.pointer (some ⟨tb, 0, none⟩), .int .i64 key, vb, .int .i64 content] w fun e w' => Tells w0 w' tb mb (n + 1) N rs e fun _ c => c = 0 := by
  have := h.len
  have hlen := textN_len N (bstr zb)
  obtain ⟨t1, t2, t3⟩ := text_has h.good (bstr zb)
  have hs : sealN N key (bstr zb) content = (0, (textN N (bstr zb)).2) := by
    unfold sealN makeN
    refine if_neg fun hf => ?_
    have hm := fits_memG hf
    have a := hm key (by simp)
    have b := hm content (by simp)
    omega
  refine (h.st.seal key content hb hl (by omega)).mono fun e w' ⟨he, hst⟩ => ?_
  rw [hs] at he hst
  exact ⟨_, 0, he, ⟨hst, t3, by simp only; omega⟩, t2, rfl⟩
/-- What Open tells of a sealed one. -/
def openB (k k' : Int) (hd hd' : ByteArray) : Bool := decide (k' = k) && decide (hd = hd')
theorem Gd.openG (h : Gd w0 w tb mb N n rs) {m k' x : Int} {hd : ByteArray} (hm : IsSeal N m k' hd x) (k : Int) {vb : Value} {zb : List Int} (hb : Rd .u8 w vb zb) :
    Calls Tryd.prog 22 #[.pointer (some ⟨tb, 0, none⟩), .int .i64 k, vb, .int .i64 m] w fun e w' => e = .returned (.tuple #[.int .i64 (if openB k k' hd (bstr zb) then x else 0), .bool (openB k k' hd (bstr zb))]) ∧ Gd w0 w' tb mb N n rs ∧ Below w.heap.size w w' := by
  obtain ⟨l, h1, h2⟩ := hm
  unfold openB
  by_cases hk : k' = k
  · subst hk
    refine (h.st.open_head h2 h1 hb).mono fun e w' ⟨he, hs, hbl⟩ => ⟨?_, ⟨hs, h.good, h.len⟩, hbl⟩
    rw [he]
    by_cases ht : hd = bstr zb
    · simp [ht]
    · simp [ht]
  · refine (h.st.open_key h2 hk vb).mono fun e w' ⟨he, hs, hbl⟩ => ⟨?_, ⟨hs, h.good, h.len⟩, hbl⟩
    rw [he]
    simp [hk]
#print axioms Gd.openG
end Go.Proofs.YtepkhhpdpmhfaaaDoor.T
namespace Go.Proofs.YtepkhhpdpmhfaaaDoor.T
open Go Go.RowKit

variable {w0 w : World} {tb mb n : Nat} {N : List Nd} {rs : List (Nat × Obj)}
theorem good_sec (h : GoodN N) : GoodN (N ++ [secretNd]) := good_secret h
/-- A secret of the table. -/
def IsSec (M : List Nd) (c : Int) : Prop := M[(c - 1).toNat]? = some secretNd ∧ 1 ≤ c ∧ c ≤ (M.length : Int)
theorem IsSec.ext {M M' : List Nd} {c : Int} (h : IsSec M c) (hp : M <+: M') : IsSec M' c := by
  obtain ⟨h1, h2, h3⟩ := h
  have hl := hp.length_le
  refine ⟨?_, h2, by omega⟩
  obtain ⟨r, rfl⟩ := hp
  have hlt := (List.getElem?_eq_some_iff.1 h1).1
  rw [List.getElem?_append_left hlt]
  exact h1
theorem Gd.secretG (h : Gd w0 w tb mb N n rs) (hn : n ≤ 60000) :
    Calls Tryd.prog 6 #[.pointer (some ⟨tb, 0, none⟩)] w fun e w' => Tells w0 w' tb mb (n + 1) N rs e fun M c => IsSec M c ∧ c = (N.length : Int) + 1 := by
  have := h.len
  refine (h.st.secret (by omega) (z := (N.length : Int) + 1) rfl).mono fun e w' ⟨he, hs⟩ => ⟨_, _, he, ⟨hs, good_sec h.good, by simp; omega⟩, List.prefix_append _ _, ⟨?_, by omega, by simp⟩, rfl⟩
  rw [show ((N.length : Int) + 1 - 1).toNat = N.length by omega]
  simp
theorem Gd.lookAt (h : Gd w0 w tb mb N n rs) {c : Int} (hc : 1 ≤ c) {m : Nd} (hm : N[(c - 1).toNat]? = some m) :
    Calls Tryd.prog 23 #[.pointer (some ⟨tb, 0, none⟩), .int .i64 c] w fun e w' => ∃ pv, e = .returned (.tuple #[.agg #[.int .i64 m.1, .string m.2.1, pv], .bool true]) ∧ w'.ownsRow w.heap.size 27 1 pv m.2.2.length (cs .i64 m.2.2) ∧ Gd w0 w' tb mb N n rs ∧ Below w.heap.size w w' := by
  have := h.st.st.look (c - 1).toNat _ hm
  rw [show (((c - 1).toNat : Nat) : Int) + 1 = c by omega] at this
  exact this.mono fun e w' ⟨pv, h1, h2, h3, _⟩ => ⟨pv, h1, h2, h.keep h3, h3⟩
theorem Gd.lookNo (h : Gd w0 w tb mb N n rs) (t : Int) (h0 : t < 1 ∨ (N.length : Int) < t) :
    Calls Tryd.prog 23 #[.pointer (some ⟨tb, 0, none⟩), .int .i64 t] w fun e w' => e = .returned (.tuple #[.agg #[.int .i64 0, .string ByteArray.empty, .slice none 0 0], .bool false]) ∧ Gd w0 w' tb mb N n rs ∧ Below w.heap.size w w' := by
  obtain ⟨nv, ht, _⟩ := h.st.tab
  exact (Tab.look_no ht.at t h0).mono fun e w' ⟨h1, h2⟩ => ⟨h1, h.keep h2, h2⟩
/-- No sealed term of the table. -/
def NoSeal (N : List Nd) (m : Int) : Prop := (m < 1 ∨ (N.length : Int) < m) ∨ 1 ≤ m ∧ ∃ d, N[(m - 1).toNat]? = some d ∧ d.1 ≠ 10
set_option maxRecDepth 20000 in
set_option maxHeartbeats 1600000 in
theorem Gd.openNo (h : Gd w0 w tb mb N n rs) {m : Int} (hm : NoSeal N m) (k : Int) (vb : Value) :
    Calls Tryd.prog 22 #[.pointer (some ⟨tb, 0, none⟩), .int .i64 k, vb, .int .i64 m] w fun e w' => e = .returned (.tuple #[.int .i64 0, .bool false]) ∧ Gd w0 w' tb mb N n rs ∧ Below w.heap.size w w' := by
  rcases hm with hm | ⟨h1, d, hd, hk⟩
  · have c1 := h.lookNo m hm
    clear h hm
    go_enter Tryd.func22, Tryd.ntmps22
    go_wp2_with fail
    refine c1.mono ?_
    rintro e w1 ⟨rfl, h1, hb1⟩
    clear c1
    have HS := Lib.hid (And.intro (h1.keep (below_alloc w1 (.cells #[.int .i64 0, .string ByteArray.empty, .slice none 0 0] 54))) (hb1.trans ((below_alloc w1 (.cells #[.int .i64 0, .string ByteArray.empty, .slice none 0 0] 54)).mono hb1.size)))
    clear h1 hb1
    go_wp2_with fail
    go_ret2
    exact ⟨rfl, HS.out⟩
  · have c1 := h.lookAt h1 hd
    obtain ⟨kd, sd, pd⟩ := d
    simp only at c1 hk
    have t1 : (kd != 10) = true := bne_iff_ne.2 hk
    have HL := Lib.hid (show True from trivial)
    generalize hpl : pd.length = pl at c1
    clear h h1 hd hk hpl
    go_enter Tryd.func22, Tryd.ntmps22
    go_wp2_with fail
    refine c1.mono ?_
    rintro e w1 ⟨pv, rfl, ho, h1, hb1⟩
    obtain ⟨ao, cap, rfl, _, _⟩ := own_shape ho
    clear c1 ho
    have HS := Lib.hid (And.intro (h1.keep (below_alloc w1 (.cells #[.int .i64 kd, .string sd, .slice ao pl cap] 54))) (hb1.trans ((below_alloc w1 (.cells #[.int .i64 kd, .string sd, .slice ao pl cap] 54)).mono hb1.size)))
    clear h1 hb1
    go_wp2_with fail
    go_ret2
    exact ⟨rfl, HS.out⟩
theorem conv_strP (w : World) (s : ByteArray) (hs : s.size ≤ maxLen) : ∃ cap w', (convert 9 22 (.string s)).run Tryd.prog w = .ok (.slice (some ⟨w.heap.size, 0, none⟩) s.size cap) w' ∧ Rd .u8 w' (.slice (some ⟨w.heap.size, 0, none⟩) s.size cap) (sbytes s) ∧ Below w.heap.size w w' := by
  have hr := Lib.run_convert_string_bytes (P := Tryd.prog) w 9 22 5 s Tryd.underlying9 Tryd.underlying22 Tryd.underlying5
  refine ⟨_, _, hr, ?_, ?_⟩
  · refine ⟨some ⟨w.heap.size, 0, none⟩, grownCap w s.size 0 5, by rw [sbytes_len], by rw [sbytes_len]; exact grownCap_ge _ _ _ _, grownCap_le_maxLen _ _ _ _ hs, (fun h => by cases h), fun a ha j hj => ?_⟩
    cases ha
    rw [sbytes_len] at hj
    rw [Addr.add_lit, Nat.zero_add, Lib.bytesWorld_cell w 5 s j hj]
    simp [sbytes, List.getD, hj]
  · exact ⟨rfl, rfl, rfl, by rw [Lib.bytesWorld_size]; omega, fun k hk => Lib.bytesWorld_at_old w 5 s k hk⟩
#print axioms Gd.openNo
#print axioms conv_strP
end Go.Proofs.YtepkhhpdpmhfaaaDoor.T
