/- The table beside guests: blocks of others, which the table's calls leave as they are; sched's contracts so. -/
import Derived.Test.YtipgidcpocgojaaScIs
namespace Go.Proofs.Ytipgidcpocgojaa
open Go Go.RowKit

/-- The table since w0, and guests: blocks that are none of the table's. -/
structure Sg (w0 w : World) (tb mb : Nat) (N : List Nd) (rs : List (Nat × Obj)) : Prop where
  tab : ∃ nv, TabX w w0.heap.size tb mb nv N [] ∧ ∀ r ∈ rs, r.1 ≠ tb ∧ r.1 ≠ mb ∧ some r.1 ≠ nv.ownBlock
  own : ∀ r ∈ rs, w.heap[r.1]? = some r.2
  bel : Below w0.heap.size w0 w
theorem Sg.of_st {w0 w : World} {tb mb : Nat} {N : List Nd} (h : St w0 w tb mb N []) : Sg w0 w tb mb N [] := by
  obtain ⟨nv, ht⟩ := h.tab
  exact ⟨⟨nv, ht, fun r hr => by cases hr⟩, (fun r hr => by cases hr), h.bel⟩
theorem Sg.st {w0 w : World} {tb mb : Nat} {N : List Nd} {rs : List (Nat × Obj)} (h : Sg w0 w tb mb N rs) : St w0 w tb mb N [] := by
  obtain ⟨nv, ht, _⟩ := h.tab
  exact ⟨⟨nv, ht⟩, (fun r hr => by cases hr), List.Pairwise.nil, h.bel⟩
theorem Sg.sub {w0 w : World} {tb mb : Nat} {N : List Nd} {rs us : List (Nat × Obj)} (h : Sg w0 w tb mb N rs) (hs : ∀ u ∈ us, u ∈ rs) : Sg w0 w tb mb N us := by
  obtain ⟨nv, ht, hg⟩ := h.tab
  exact ⟨⟨nv, ht, fun r hr => hg r (hs r hr)⟩, (fun r hr => h.own r (hs r hr)), h.bel⟩
theorem Sg.keep {w0 w w' : World} {tb mb : Nat} {N : List Nd} {rs : List (Nat × Obj)} (h : Sg w0 w tb mb N rs) (hb : Below w.heap.size w w') : Sg w0 w' tb mb N rs := by
  obtain ⟨nv, ht, hg⟩ := h.tab
  exact ⟨⟨nv, ht.keep hb, hg⟩, (fun r hr => by rw [hb.block _ (blk_lt (h.own r hr))]; exact h.own r hr), h.bel.trans (hb.mono h.bel.size)⟩
/-- A guest comes. -/
theorem Sg.guest {w0 w : World} {tb mb : Nat} {N : List Nd} {rs : List (Nat × Obj)} (h : Sg w0 w tb mb N rs) (o : Obj) (g : Nat) (hg : g = w.heap.size) : Sg w0 (w.alloc o) tb mb N ((g, o) :: rs) := by
  subst hg
  obtain ⟨nv, ht, hg⟩ := h.tab
  obtain ⟨L, h1, _, _⟩ := ht.ex
  have hk := h.keep (below_alloc w o)
  refine ⟨⟨nv, ht.keep (below_alloc w o), fun r hr => ?_⟩, fun r hr => ?_, hk.bel⟩
  · rcases List.mem_cons.1 hr with rfl | hr
    · refine ⟨fun e => ?_, fun e => ?_, fun e => ?_⟩
      · have := blk_lt h1.tab; simp only at e; omega
      · have := h1.map.lt; simp only at e; omega
      · have := (h1.nodes.lt _ e.symm).2; omega
    · exact hg r hr
  · rcases List.mem_cons.1 hr with rfl | hr
    · show (w.heap.push o)[w.heap.size]? = some o
      simp
    · exact hk.own r hr
theorem Sg.ofPut {w0 w : World} {tb mb : Nat} {N : List Nd} {rs : List (Nat × Obj)} (h : Sg w0 w tb mb N rs) {nv : Value} (ht : TabX w w0.heap.size tb mb nv N []) (hg : ∀ r ∈ rs, r.1 ≠ tb ∧ r.1 ≠ mb ∧ some r.1 ≠ nv.ownBlock) {n : Nd} {e : Ending} {w' : World} (hm : PutX w w0.heap.size tb mb nv N [] n e w') :
    e = .returned (.int .i64 (putN N n).1) ∧ Sg w0 w' tb mb (putN N n).2 rs := by
  cases hc : idxN 1 N n with
  | some c =>
    rw [putN_old hc]
    obtain ⟨e1, hb⟩ := hm.old hc
    exact ⟨e1, h.keep hb⟩
  | none =>
    rw [putN_new hc]
    obtain ⟨e1, nv', h2, h4, h5⟩ := hm.new hc
    refine ⟨e1, ⟨nv', h2, fun r hr => ⟨(hg r hr).1, (hg r hr).2.1, ?_⟩⟩, (fun r hr => ?_), h.bel.trans (ht.at.below h4)⟩
    · rcases h5 with e | e
      · rw [e]; exact (hg r hr).2.2
      · intro e2
        have := e _ e2.symm
        have := blk_lt (h.own r hr)
        omega
    · rw [h4.block _ (blk_lt (h.own r hr)) (hg r hr).1 (hg r hr).2.1 (hg r hr).2.2]
      exact h.own r hr
set_option maxRecDepth 20000 in
theorem Sg.text {w0 w : World} {tb mb : Nat} {N : List Nd} {rs : List (Nat × Obj)} (h : Sg w0 w tb mb N rs) {vb : Value} {zb : List Int} (hb : Rd .u8 w vb zb) (hl : zb.length ≤ 2048) (hroom : N.length < 65536) :
    Calls Try.prog 13 #[.pointer (some ⟨tb, 0, none⟩), vb] w fun e w' => e = .returned (.int .i64 (textN N (bstr zb)).1) ∧ Sg w0 w' tb mb (textN N (bstr zb)).2 rs := by
  obtain ⟨nv, ht, hg⟩ := h.tab
  exact (ht.text hb hl hroom).mono fun e w' hm => h.ofPut ht hg hm
set_option maxRecDepth 20000 in
theorem Sg.makes {w0 w : World} {tb mb : Nat} {N : List Nd} {rs : List (Nat × Obj)} (h : Sg w0 w tb mb N rs) (k : Int) {pv : Value} {ps : List Int} (hp : Rd .i64 w pv ps) (hl : ps.length ≤ 1000000) (hroom : N.length < 65536) :
    Calls Try.prog 12 #[.pointer (some ⟨tb, 0, none⟩), .int .i64 k, pv] w fun e w' => e = .returned (.int .i64 (makeN N k ps).1) ∧ Sg w0 w' tb mb (makeN N k ps).2 rs := by
  obtain ⟨nv, ht, hg⟩ := h.tab
  unfold makeN
  by_cases hf : fitsN N k ps = true
  · rw [if_pos hf]
    exact (ht.make (fun v hv => by cases hv) k hp hl hf hroom h.bel.size).mono fun e w' hm => h.ofPut ht hg hm
  · rw [if_neg hf]
    exact (Tab.make_no ht.at k hp hl (by simpa using hf)).mono fun e w' ⟨e1, hb⟩ => ⟨e1, h.keep hb⟩
set_option maxRecDepth 20000 in
theorem Sg.secret {w0 w : World} {tb mb : Nat} {N : List Nd} {rs : List (Nat × Obj)} (h : Sg w0 w tb mb N rs) (hroom : N.length < 65536) {z : Int} (hz : (N.length : Int) + 1 = z) :
    Calls Try.prog 15 #[.pointer (some ⟨tb, 0, none⟩)] w fun e w' => e = .returned (.int .i64 z) ∧ Sg w0 w' tb mb (N ++ [secretNd]) rs := by
  obtain ⟨nv, ht, hg⟩ := h.tab
  refine (ht.secret hroom).mono fun e w' ⟨e1, nv', h2, h4, h5⟩ => ?_
  refine ⟨by rw [← hz]; exact e1, ⟨nv', h2, fun r hr => ⟨(hg r hr).1, (hg r hr).2.1, ?_⟩⟩, (fun r hr => ?_), h.bel.trans (ht.at.below h4)⟩
  · rcases h5 with e | e
    · rw [e]; exact (hg r hr).2.2
    · intro e2
      have := e _ e2.symm
      have := blk_lt (h.own r hr)
      omega
  · rw [h4.block _ (blk_lt (h.own r hr)) (hg r hr).1 (hg r hr).2.1 (hg r hr).2.2]
    exact h.own r hr
set_option maxRecDepth 20000 in
set_option maxHeartbeats 1600000 in
theorem Sg.derive {w0 w : World} {tb mb : Nat} {N : List Nd} {rs : List (Nat × Obj)} (h : Sg w0 w tb mb N rs) (secret context : Int) (s : ByteArray) (hl : s.size ≤ 2048) (hroom : N.length < 65534) :
    Calls Try.prog 50 #[.pointer (some ⟨tb, 0, none⟩), .int .i64 secret, .string s, .int .i64 context] w fun e w' => e = .returned (.int .i64 (deriveN N secret s context).1) ∧ Sg w0 w' tb mb (deriveN N secret s context).2 rs := by
  have hsz : s.size ≤ maxLen := by unfold maxLen; omega
  unfold deriveN
  by_cases hc : context = 0
  · rw [if_pos hc]
    subst hc
    have c1 := h.text (Rd.nil .u8 w) (Nat.zero_le _) (by omega)
    rw [empty_bstr] at c1
    have hlen := (putN_len N (1, ByteArray.empty, [])).2
    have HT : Hid ((textN N ByteArray.empty).2.length < 65535) := Lib.hid (by unfold textN; omega)
    generalize textN N ByteArray.empty = T at *
    have hlen2 := (putN_len T.2 (1, s, [])).2
    have HT2 : Hid ((textN T.2 s).2.length < 65536) := Lib.hid (by have := HT.out; unfold textN; omega)
    obtain ⟨U, hU⟩ : ∃ U, U = textN T.2 s := ⟨_, rfl⟩
    rw [← hU] at HT2 ⊢
    have HU := Lib.hid hU
    clear hU
    have HSL := Lib.hid hl
    have HSZ := Lib.hid hsz
    clear h hroom hlen hlen2 hl hsz
    go_enter Try.func50, Try.ntmps50
    go_wp2_with fail
    refine c1.mono ?_
    rintro e w1 ⟨rfl, h1⟩
    clear c1
    obtain ⟨v, w2, hv, hr, hb⟩ := conv_str w1 s HSZ.out
    have c2 := (h1.keep hb).text hr (by rw [sbytes_len]; exact HSL.out) (by have := HT.out; omega)
    rw [bstr_sbytes, ← HU.out] at c2
    go_wp2_with fail
    refine c2.mono ?_
    rintro e w3 ⟨rfl, h3⟩
    clear c2
    have c4 := (h3.keep (below_alloc w3 (.cells (cs .i64 [secret, U.1, T.1]).toArray 26))).makes 6 (Rd.lit .i64 26 w3 [secret, U.1, T.1] (by simp)) (by simp) HT2.out
    go_wp2_with fail
    refine c4.mono ?_
    rintro e w4 ⟨rfl, h4⟩
    go_wp2_with fail
    go_ret
    exact ⟨rfl, h4⟩
  · rw [if_neg hc]
    have hc0 : (context == 0) = false := beq_eq_false_iff_ne.2 hc
    have hlen2 := (putN_len N (1, s, [])).2
    have HT2 : Hid ((textN N s).2.length < 65536) := Lib.hid (by unfold textN; omega)
    obtain ⟨U, hU⟩ : ∃ U, U = textN N s := ⟨_, rfl⟩
    rw [← hU] at HT2 ⊢
    have HU := Lib.hid hU
    clear hU
    have HSL := Lib.hid hl
    have HSZ := Lib.hid hsz
    have HR := Lib.hid hroom
    clear hroom hlen2 hl hsz hc
    go_enter Try.func50, Try.ntmps50
    obtain ⟨v, w2, hv, hr, hb⟩ := conv_str w s HSZ.out
    have c2 := (h.keep hb).text hr (by rw [sbytes_len]; exact HSL.out) (by have := HR.out; omega)
    rw [bstr_sbytes, ← HU.out] at c2
    clear h
    go_wp2_with fail
    refine c2.mono ?_
    rintro e w3 ⟨rfl, h3⟩
    clear c2
    have c4 := (h3.keep (below_alloc w3 (.cells (cs .i64 [secret, U.1, context]).toArray 26))).makes 6 (Rd.lit .i64 26 w3 [secret, U.1, context] (by simp)) (by simp) HT2.out
    go_wp2_with fail
    refine c4.mono ?_
    rintro e w4 ⟨rfl, h4⟩
    go_wp2_with fail
    go_ret
    exact ⟨rfl, h4⟩

variable {w0 w : World} {tb mb : Nat} {N : List Nd} {rs : List (Nat × Obj)}
set_option maxRecDepth 20000 in
set_option maxHeartbeats 1600000 in
theorem Sg.beginS (h : Sg w0 w tb mb N rs) (hroom : N.length < 65536) :
    Calls Try.prog 10 #[.pointer (some ⟨tb, 0, none⟩)] w fun e w' => e = .returned (.int .i64 (textN N ByteArray.empty).1) ∧ Sg w0 w' tb mb (textN N ByteArray.empty).2 rs := by
  have c1 := h.text (Rd.nil .u8 w) (Nat.zero_le _) hroom
  rw [empty_bstr] at c1
  generalize textN N ByteArray.empty = T at *
  clear h hroom
  go_enter Try.func10, Try.ntmps10
  go_wp2_with fail
  refine c1.mono ?_
  rintro e w1 ⟨rfl, h1⟩
  go_wp2_with fail
  go_ret
  exact ⟨rfl, h1⟩
set_option maxRecDepth 20000 in
set_option maxHeartbeats 1600000 in
theorem Sg.nextS (h : Sg w0 w tb mb N rs) (tr : Int) {vb : Value} {zb : List Int} (hb : Rd .u8 w vb zb) (hl : zb.length ≤ 2048) (hroom : N.length < 65533) :
    Calls Try.prog 11 #[.pointer (some ⟨tb, 0, none⟩), .int .i64 tr, vb] w fun e w' => e = .returned (.int .i64 (nextN N tr (bstr zb)).1) ∧ Sg w0 w' tb mb (nextN N tr (bstr zb)).2 rs := by
  have c1 := h.text hb hl (by omega)
  have hlen := textN_len N (bstr zb)
  unfold nextN
  generalize (textN N (bstr zb)) = T at *
  have hlen2 := (makeN_len T.2 3 [tr, T.1]).2
  obtain ⟨U, hU⟩ : ∃ U, U = makeN T.2 3 [tr, T.1] := ⟨_, rfl⟩
  rw [← hU] at hlen2 ⊢
  have HL : Hid (T.2.length < 65536 ∧ U.2.length < 65536) := Lib.hid (by omega)
  have HU := Lib.hid hU
  obtain ⟨ao, cap, rfl, _⟩ := hb
  clear h hl hroom hlen hlen2 hU
  go_enter Try.func11, Try.ntmps11
  go_wp2_with fail
  refine c1.mono ?_
  rintro e w1 ⟨rfl, h1⟩
  have c2 := (h1.keep (below_alloc w1 (.cells (cs .i64 [tr, T.1]).toArray 26))).makes 3 (Rd.lit .i64 26 w1 [tr, T.1] (by simp)) (by simp) HL.out.1
  rw [← HU.out] at c2
  clear c1
  go_wp2_with fail
  refine c2.mono ?_
  rintro e w2 ⟨rfl, h2⟩
  have c3 := (h2.keep (below_alloc w2 (.cells (cs .i64 [U.1]).toArray 26))).makes 4 (Rd.lit .i64 26 w2 [U.1] (by simp)) (by simp) HL.out.2
  clear c2
  go_wp2_with fail
  refine c3.mono ?_
  rintro e w3 ⟨rfl, h3⟩
  go_wp2_with fail
  go_ret
  exact ⟨rfl, h3⟩
set_option maxRecDepth 20000 in
set_option maxHeartbeats 1600000 in
theorem Sg.ofS (h : Sg w0 w tb mb N rs) (l : ByteArray) (s : Int) (hl : l.size ≤ 2048) (hroom : N.length < 65534) :
    Calls Try.prog 39 #[.string l, .pointer (some ⟨tb, 0, none⟩), .int .i64 s] w fun e w' => e = .returned (.int .i64 (deriveN N s l 0).1) ∧ Sg w0 w' tb mb (deriveN N s l 0).2 rs := by
  have c1 := h.derive s 0 l hl hroom
  generalize deriveN N s l 0 = T at *
  clear h hroom hl
  go_enter Try.func39, Try.ntmps39
  go_wp2_with fail
  refine c1.mono ?_
  rintro e w1 ⟨rfl, h1⟩
  go_wp2_with fail
  go_ret
  exact ⟨rfl, h1⟩
set_option maxRecDepth 20000 in
set_option maxHeartbeats 1600000 in
theorem Sg.atS (h : Sg w0 w tb mb N rs) (l : ByteArray) (s tr : Int) (hl : l.size ≤ 2048) (hroom : N.length < 65534) :
    Calls Try.prog 41 #[.string l, .pointer (some ⟨tb, 0, none⟩), .int .i64 s, .int .i64 tr] w fun e w' => e = .returned (.int .i64 (atN N l s tr).1) ∧ Sg w0 w' tb mb (atN N l s tr).2 rs := by
  unfold atN
  by_cases ht : tr = 0
  · rw [if_pos ht]
    subst ht
    go_enter Try.func41, Try.ntmps41
    go_wp2_with fail
    go_ret
    exact ⟨rfl, h⟩
  · rw [if_neg ht]
    have e0 : (tr == 0) = false := beq_eq_false_iff_ne.2 ht
    have c1 := h.derive s tr l hl hroom
    generalize deriveN N s l tr = T at *
    clear h hroom hl ht
    go_enter Try.func41, Try.ntmps41
    go_wp2_with fail
    refine c1.mono ?_
    rintro e w1 ⟨rfl, h1⟩
    go_wp2_with fail
    go_ret
    exact ⟨rfl, h1⟩
set_option maxRecDepth 20000 in
set_option maxHeartbeats 1600000 in
/-- Both sides' secrets. -/
theorem Sg.bothS (h : Sg w0 w tb mb N rs) (a b : ByteArray) (s tr : Int) (hl : a.size ≤ 2048) (hk : b.size ≤ 2048) (hroom : N.length < 65530) :
    Calls Try.prog 40 #[.pointer (some ⟨tb, 0, none⟩), .int .i64 s, .int .i64 tr, .func (.func 41) #[.string a] #[], .func (.func 41) #[.string b] #[]] w fun e w' => e = .returned (.tuple #[.int .i64 (atN N a s tr).1, .int .i64 (atN (atN N a s tr).2 b s tr).1]) ∧ Sg w0 w' tb mb (atN (atN N a s tr).2 b s tr).2 rs := by
  have c1 := h.atS a s tr hl (by omega)
  have hlen := atN_len N a s tr
  generalize atN N a s tr = T at *
  have HT : Hid (T.2.length < 65534 ∧ b.size ≤ 2048) := Lib.hid ⟨by omega, hk⟩
  clear h hl hroom hlen hk
  go_enter Try.func40, Try.ntmps40
  go_wp2_with fail
  refine c1.mono ?_
  rintro e w1 ⟨rfl, h1⟩
  have c2 := h1.atS b s tr HT.out.2 HT.out.1
  clear h1
  go_wp2_with fail
  refine c2.mono ?_
  rintro e w2 ⟨rfl, h2⟩
  go_wp2_with fail
  go_ret2
  exact ⟨rfl, h2⟩
set_option maxRecDepth 20000 in
set_option maxHeartbeats 1600000 in
theorem Sg.macS (h : Sg w0 w tb mb N rs) (l : ByteArray) (s tr : Int) (hl : l.size ≤ 2048) (hroom : N.length < 65530) :
    Calls Try.prog 42 #[.pointer (some ⟨tb, 0, none⟩), .int .i64 s, .int .i64 tr, .func (.func 39) #[.string l] #[]] w fun e w' => e = .returned (.int .i64 (macN N l s tr).1) ∧ Sg w0 w' tb mb (macN N l s tr).2 rs := by
  have c1 := h.ofS l s hl (by omega)
  have hlen := derive_len N s l 0
  unfold macN
  generalize deriveN N s l 0 = T at *
  have HT : Hid (T.2.length < 65536) := Lib.hid (by omega)
  clear h hl hroom hlen
  go_enter Try.func42, Try.ntmps42
  go_wp2_with fail
  refine c1.mono ?_
  rintro e w1 ⟨rfl, h1⟩
  have c2 := (h1.keep (below_alloc w1 (.cells (cs .i64 [T.1, tr]).toArray 26))).makes 5 (Rd.lit .i64 26 w1 [T.1, tr] (by simp)) (by simp) HT.out
  clear h1
  go_wp2_with fail
  refine c2.mono ?_
  rintro e w2 ⟨rfl, h2⟩
  go_wp2_with fail
  go_ret
  exact ⟨rfl, h2⟩
set_option maxRecDepth 20000 in
set_option maxHeartbeats 1600000 in
theorem Sg.shakenTrafficS (h : Sg w0 w tb mb N rs) (s tr : Int) (hroom : N.length < 65500) :
    Calls Try.prog 19 #[.pointer (some ⟨tb, 0, none⟩), .int .i64 s, .int .i64 tr] w fun e w' => e = .returned (.tuple #[.int .i64 (atN N lClientHs s tr).1, .int .i64 (atN (atN N lClientHs s tr).2 lServerHs s tr).1]) ∧ Sg w0 w' tb mb (atN (atN N lClientHs s tr).2 lServerHs s tr).2 rs := by
  have c1 := h.bothS lClientHs lServerHs s tr (by decide) (by decide) (by omega)
  clear h hroom
  go_enter Try.func19, Try.ntmps19
  go_wp2_with fail
  refine c1.mono ?_
  rintro e w1 ⟨rfl, h1⟩
  go_wp2_with fail
  go_ret2
  exact ⟨rfl, h1⟩
set_option maxRecDepth 20000 in
set_option maxHeartbeats 1600000 in
theorem Sg.mainTrafficS (h : Sg w0 w tb mb N rs) (s tr : Int) (hroom : N.length < 65500) :
    Calls Try.prog 21 #[.pointer (some ⟨tb, 0, none⟩), .int .i64 s, .int .i64 tr] w fun e w' => e = .returned (.tuple #[.int .i64 (atN N lClientApp s tr).1, .int .i64 (atN (atN N lClientApp s tr).2 lServerApp s tr).1]) ∧ Sg w0 w' tb mb (atN (atN N lClientApp s tr).2 lServerApp s tr).2 rs := by
  have c1 := h.bothS lClientApp lServerApp s tr (by decide) (by decide) (by omega)
  clear h hroom
  go_enter Try.func21, Try.ntmps21
  go_wp2_with fail
  refine c1.mono ?_
  rintro e w1 ⟨rfl, h1⟩
  go_wp2_with fail
  go_ret2
  exact ⟨rfl, h1⟩
set_option maxRecDepth 20000 in
set_option maxHeartbeats 1600000 in
theorem Sg.earlyTrafficS (h : Sg w0 w tb mb N rs) (s tr : Int) (hroom : N.length < 65500) :
    Calls Try.prog 27 #[.pointer (some ⟨tb, 0, none⟩), .int .i64 s, .int .i64 tr] w fun e w' => e = .returned (.int .i64 (atN N lClientEarly s tr).1) ∧ Sg w0 w' tb mb (atN N lClientEarly s tr).2 rs := by
  have c1 := h.atS lClientEarly s tr (by decide) (by omega)
  clear h hroom
  go_enter Try.func27, Try.ntmps27
  go_wp2_with fail
  refine c1.mono ?_
  rintro e w1 ⟨rfl, h1⟩
  go_wp2_with fail
  go_ret
  exact ⟨rfl, h1⟩
set_option maxRecDepth 20000 in
set_option maxHeartbeats 1600000 in
theorem Sg.resumeS (h : Sg w0 w tb mb N rs) (s tr : Int) (hroom : N.length < 65500) :
    Calls Try.prog 28 #[.pointer (some ⟨tb, 0, none⟩), .int .i64 s, .int .i64 tr] w fun e w' => e = .returned (.int .i64 (atN N lResume s tr).1) ∧ Sg w0 w' tb mb (atN N lResume s tr).2 rs := by
  have c1 := h.atS lResume s tr (by decide) (by omega)
  clear h hroom
  go_enter Try.func28, Try.ntmps28
  go_wp2_with fail
  refine c1.mono ?_
  rintro e w1 ⟨rfl, h1⟩
  go_wp2_with fail
  go_ret
  exact ⟨rfl, h1⟩
set_option maxRecDepth 20000 in
set_option maxHeartbeats 1600000 in
theorem Sg.finishedS (h : Sg w0 w tb mb N rs) (s tr : Int) (hroom : N.length < 65500) :
    Calls Try.prog 22 #[.pointer (some ⟨tb, 0, none⟩), .int .i64 s, .int .i64 tr] w fun e w' => e = .returned (.int .i64 (macN N lFinished s tr).1) ∧ Sg w0 w' tb mb (macN N lFinished s tr).2 rs := by
  have c1 := h.macS lFinished s tr (by decide) (by omega)
  clear h hroom
  go_enter Try.func22, Try.ntmps22
  go_wp2_with fail
  refine c1.mono ?_
  rintro e w1 ⟨rfl, h1⟩
  go_wp2_with fail
  go_ret
  exact ⟨rfl, h1⟩
set_option maxRecDepth 20000 in
set_option maxHeartbeats 1600000 in
theorem Sg.binderS (h : Sg w0 w tb mb N rs) (s tr : Int) (hroom : N.length < 65500) :
    Calls Try.prog 23 #[.pointer (some ⟨tb, 0, none⟩), .int .i64 s, .int .i64 tr] w fun e w' => e = .returned (.int .i64 (macN N lBinder s tr).1) ∧ Sg w0 w' tb mb (macN N lBinder s tr).2 rs := by
  have c1 := h.macS lBinder s tr (by decide) (by omega)
  clear h hroom
  go_enter Try.func23, Try.ntmps23
  go_wp2_with fail
  refine c1.mono ?_
  rintro e w1 ⟨rfl, h1⟩
  go_wp2_with fail
  go_ret
  exact ⟨rfl, h1⟩
set_option maxRecDepth 20000 in
set_option maxHeartbeats 1600000 in
theorem Sg.mainS (h : Sg w0 w tb mb N rs) (s : Int) (hroom : N.length < 65500) :
    Calls Try.prog 20 #[.pointer (some ⟨tb, 0, none⟩), .int .i64 s] w fun e w' => e = .returned (.int .i64 (deriveN N s lMain 0).1) ∧ Sg w0 w' tb mb (deriveN N s lMain 0).2 rs := by
  have c1 := h.ofS lMain s (by decide) (by omega)
  clear h hroom
  go_enter Try.func20, Try.ntmps20
  go_wp2_with fail
  refine c1.mono ?_
  rintro e w1 ⟨rfl, h1⟩
  go_wp2_with fail
  go_ret
  exact ⟨rfl, h1⟩
set_option maxRecDepth 20000 in
set_option maxHeartbeats 1600000 in
theorem Sg.firstS (h : Sg w0 w tb mb N rs) {vb : Value} {zb : List Int} (hb : Rd .u8 w vb zb) (hl : zb.length ≤ 2048) (hroom : N.length < 65500) {T D E : Int × List Nd} (hT : T = textN N (bstr zb)) (hD : D = deriveN T.2 T.1 lClientIn 0) (hE : E = deriveN D.2 T.1 lServerIn 0) :
    Calls Try.prog 16 #[.pointer (some ⟨tb, 0, none⟩), vb] w fun e w' => e = .returned (.tuple #[.int .i64 D.1, .int .i64 E.1]) ∧ Sg w0 w' tb mb E.2 rs := by
  have c1 := h.text hb hl (by omega)
  have n1 := textN_len N (bstr zb)
  rw [← hT] at c1 n1
  have n2 := derive_len T.2 T.1 lClientIn 0
  rw [← hD] at n2
  have HN : Hid (T.2.length < 65534 ∧ D.2.length < 65534) := Lib.hid (by omega)
  have HD := Lib.hid hD
  have HE := Lib.hid hE
  obtain ⟨ao, cap, rfl, _⟩ := hb
  clear h hl hroom n1 n2 hT hD hE
  go_enter Try.func16, Try.ntmps16
  go_wp2_with fail
  refine c1.mono ?_
  rintro e w1 ⟨rfl, h1⟩
  have c2 := h1.ofS lClientIn T.1 (by decide) HN.out.1
  rw [← HD.out] at c2
  clear c1
  go_wp2_with fail
  refine c2.mono ?_
  rintro e w2 ⟨rfl, h2⟩
  have c3 := h2.ofS lServerIn T.1 (by decide) HN.out.2
  rw [← HE.out] at c3
  clear c2
  go_wp2_with fail
  refine c3.mono ?_
  rintro e w3 ⟨rfl, h3⟩
  go_wp2_with fail
  go_ret2
  exact ⟨rfl, h3⟩
set_option maxRecDepth 20000 in
set_option maxHeartbeats 1600000 in
theorem Sg.earlyS (h : Sg w0 w tb mb N rs) (t : Int) (hroom : N.length < 65500) :
    Calls Try.prog 17 #[.pointer (some ⟨tb, 0, none⟩), .int .i64 t] w fun e w' => e = .returned (.int .i64 (earlyN N t).1) ∧ Sg w0 w' tb mb (earlyN N t).2 rs := by
  unfold earlyN
  by_cases ht : t = 0
  · subst ht
    rw [if_pos rfl]
    have c1 := (h.keep (below_alloc w (.cells (cs .u8 [110, 111, 110, 101]).toArray 5 ((cs .u8 [110, 111, 110, 101]).toArray.size, (cs .u8 [110, 111, 110, 101]).toArray.size + 1)))).text (Rd.litM w [110, 111, 110, 101] 4 rfl (by simp)) (by simp) (by omega)
    have hcv := conv_const w
    rw [show bstr [110, 111, 110, 101] = lNone from rfl] at c1
    have n1 := textN_len N lNone
    generalize textN N lNone = T at *
    have HN : Hid (T.2.length < 65534) := Lib.hid (by omega)
    clear h hroom n1
    go_enter Try.func17, Try.ntmps17
    go_wp2_with fail
    refine c1.mono ?_
    rintro e w1 ⟨rfl, h1⟩
    have c2 := h1.ofS lEarly T.1 (by decide) HN.out
    clear c1
    go_wp2_with fail
    refine c2.mono ?_
    rintro e w2 ⟨rfl, h2⟩
    go_wp2_with fail
    go_ret
    exact ⟨rfl, h2⟩
  · rw [if_neg ht]
    have e0 : (t == 0) = false := beq_eq_false_iff_ne.2 ht
    have c2 := h.ofS lEarly t (by decide) (by omega)
    clear h hroom ht
    go_enter Try.func17, Try.ntmps17
    go_wp2_with fail
    refine c2.mono ?_
    rintro e w2 ⟨rfl, h2⟩
    go_wp2_with fail
    go_ret
    exact ⟨rfl, h2⟩
set_option maxRecDepth 20000 in
set_option maxHeartbeats 1600000 in
theorem Sg.shakenS (h : Sg w0 w tb mb N rs) (x y : Int) (hroom : N.length < 65500) {T D : Int × List Nd} (hT : T = makeN N 3 [x, y]) (hD : D = deriveN T.2 T.1 lHandshake 0) :
    Calls Try.prog 18 #[.pointer (some ⟨tb, 0, none⟩), .int .i64 x, .int .i64 y] w fun e w' => e = .returned (.int .i64 D.1) ∧ Sg w0 w' tb mb D.2 rs := by
  have c1 := (h.keep (below_alloc w (.cells (cs .i64 [x, y]).toArray 26))).makes 3 (Rd.lit .i64 26 w [x, y] (by simp)) (by simp) (by omega)
  have n1 := (makeN_len N 3 [x, y]).2
  rw [← hT] at c1 n1
  have HN : Hid (T.2.length < 65534) := Lib.hid (by omega)
  have HD := Lib.hid hD
  clear h hroom n1 hT hD
  go_enter Try.func18, Try.ntmps18
  go_wp2_with fail
  refine c1.mono ?_
  rintro e w1 ⟨rfl, h1⟩
  have c2 := h1.ofS lHandshake T.1 (by decide) HN.out
  rw [← HD.out] at c2
  clear c1
  go_wp2_with fail
  refine c2.mono ?_
  rintro e w2 ⟨rfl, h2⟩
  go_wp2_with fail
  go_ret
  exact ⟨rfl, h2⟩
set_option maxRecDepth 20000 in
set_option maxHeartbeats 1600000 in
theorem Sg.signedS (h : Sg w0 w tb mb N rs) (tr : Int) (hroom : N.length < 65500) {T D : Int × List Nd} (hT : T = textN N lProof) (hD : D = makeN T.2 3 [T.1, tr]) :
    Calls Try.prog 24 #[.pointer (some ⟨tb, 0, none⟩), .int .i64 tr] w fun e w' => e = .returned (.int .i64 D.1) ∧ Sg w0 w' tb mb D.2 rs := by
  have c1 := (h.keep (below_alloc w (.cells (cs .u8 [115, 101, 114, 118, 101, 114, 32, 112, 114, 111, 111, 102]).toArray 5 ((cs .u8 [115, 101, 114, 118, 101, 114, 32, 112, 114, 111, 111, 102]).toArray.size, (cs .u8 [115, 101, 114, 118, 101, 114, 32, 112, 114, 111, 111, 102]).toArray.size + 1)))).text (Rd.litM w [115, 101, 114, 118, 101, 114, 32, 112, 114, 111, 111, 102] 12 rfl (by simp)) (by simp) (by omega)
  have hcv := conv_const w
  rw [show bstr [115, 101, 114, 118, 101, 114, 32, 112, 114, 111, 111, 102] = lProof from rfl, ← hT] at c1
  have n1 := textN_len N lProof
  rw [← hT] at n1
  have HN : Hid (T.2.length < 65536) := Lib.hid (by omega)
  have HD := Lib.hid hD
  clear h hroom n1 hT hD
  go_enter Try.func24, Try.ntmps24
  go_wp2_with fail
  refine c1.mono ?_
  rintro e w1 ⟨rfl, h1⟩
  have c2 := (h1.keep (below_alloc w1 (.cells (cs .i64 [T.1, tr]).toArray 26))).makes 3 (Rd.lit .i64 26 w1 [T.1, tr] (by simp)) (by simp) HN.out
  rw [← HD.out] at c2
  clear c1
  go_wp2_with fail
  refine c2.mono ?_
  rintro e w2 ⟨rfl, h2⟩
  go_wp2_with fail
  go_ret
  exact ⟨rfl, h2⟩
#print axioms Sg.signedS
end Go.Proofs.Ytipgidcpocgojaa
