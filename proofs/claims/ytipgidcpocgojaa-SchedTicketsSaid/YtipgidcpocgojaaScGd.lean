/- sched's calls, each by what is there behind it; the law's own: is, derived. -/
import Derived.Test.YtipgidcpocgojaaScIs
import Derived.Test.YtipgidcpocgojaaScUn
import Derived.Test.YtipgidcpocgojaaSg
namespace Go.Proofs.Ytipgidcpocgojaa
open Go Go.RowKit

/-- A table of at most n nodes. -/
structure Gd (w0 w : World) (tb mb : Nat) (N : List Nd) (n : Nat) (rs : List (Nat × Obj)) : Prop where
  st : Sg w0 w tb mb N rs
  good : GoodN N
  len : N.length ≤ n
variable {w0 w : World} {tb mb n : Nat} {N : List Nd} {rs : List (Nat × Obj)}
theorem Gd.keep (h : Gd w0 w tb mb N n rs) {w' : World} (hb : Below w.heap.size w w') : Gd w0 w' tb mb N n rs := ⟨h.st.keep hb, h.good, h.len⟩
/-- What a call that tells a term leaves. -/
def Tells (w0 w' : World) (tb mb n : Nat) (N : List Nd) (rs : List (Nat × Obj)) (e : Ending) (K : List Nd → Int → Prop) : Prop := ∃ N' c, e = .returned (.int .i64 c) ∧ Gd w0 w' tb mb N' n rs ∧ N <+: N' ∧ K N' c
def Tells2 (w0 w' : World) (tb mb n : Nat) (N : List Nd) (rs : List (Nat × Obj)) (e : Ending) (K : List Nd → Int → Int → Prop) : Prop := ∃ N' c d, e = .returned (.tuple #[.int .i64 c, .int .i64 d]) ∧ Gd w0 w' tb mb N' n rs ∧ N <+: N' ∧ K N' c d
theorem Gd.textG (h : Gd w0 w tb mb N n rs) {vb : Value} {zb : List Int} (hb : Rd .u8 w vb zb) (hl : zb.length ≤ 2048) (hn : n ≤ 60000) :
    Calls Try.prog 13 #[.pointer (some ⟨tb, 0, none⟩), vb] w fun e w' => Tells w0 w' tb mb (n + 1) N rs e fun M c => Has M c (1, bstr zb, []) := by
  have := textN_len N (bstr zb)
  have := h.len
  obtain ⟨h1, h2, h3⟩ := text_has h.good (bstr zb)
  exact (h.st.text hb hl (by omega)).mono fun e w' ⟨he, hs⟩ => ⟨_, _, he, ⟨hs, h3, by omega⟩, h2, h1⟩
theorem Gd.secretG (h : Gd w0 w tb mb N n rs) (hn : n ≤ 60000) :
    Calls Try.prog 15 #[.pointer (some ⟨tb, 0, none⟩)] w fun e w' => Tells w0 w' tb mb (n + 1) N rs e fun M c => M[(c - 1).toNat]? = some secretNd ∧ 1 ≤ c ∧ c ≤ (M.length : Int) := by
  have := h.len
  refine (h.st.secret (by omega) (z := (N.length : Int) + 1) rfl).mono fun e w' ⟨he, hs⟩ => ⟨_, _, he, ⟨hs, good_secret h.good, by simp; omega⟩, List.prefix_append _ _, ?_, by omega, by simp⟩
  rw [show ((N.length : Int) + 1 - 1).toNat = N.length by omega]
  simp
theorem sec_ext {M M' : List Nd} {c : Int} (h : M[(c - 1).toNat]? = some secretNd) (hp : M <+: M') : M'[(c - 1).toNat]? = some secretNd := by
  obtain ⟨r, rfl⟩ := hp
  have hlt := (List.getElem?_eq_some_iff.1 h).1
  rw [List.getElem?_append_left hlt]
  exact h
theorem sec_kind {M : List Nd} {c : Int} (h : M[(c - 1).toNat]? = some secretNd) (hc : 1 ≤ c) : kindN M c = 2 := by
  unfold kindN
  rw [if_neg (by omega), h]
  rfl
theorem Gd.pair (h : Gd w0 w tb mb N n rs) {k a b : Int} (hk : k = 3 ∨ k = 5) (ha : 1 ≤ a ∧ a ≤ (N.length : Int)) (hb : 1 ≤ b ∧ b ≤ (N.length : Int)) {pv : Value} (hp : Rd .i64 w pv [a, b]) (hn : n ≤ 60000) :
    Calls Try.prog 12 #[.pointer (some ⟨tb, 0, none⟩), .int .i64 k, pv] w fun e w' => Tells w0 w' tb mb (n + 1) N rs e fun M c => Has M c (k, ByteArray.empty, [a, b]) := by
  have := makeN_len N k [a, b]
  have := h.len
  obtain ⟨h1, h2, h3⟩ := pair_has h.good hk ha hb
  exact (h.st.makes k hp (by simp) (by omega)).mono fun e w' ⟨he, hs⟩ => ⟨_, _, he, ⟨hs, h3, by omega⟩, h2, h1⟩
theorem fits7 {a : Int} (h : 1 ≤ a ∧ a ≤ (N.length : Int)) (hk : kindN N a = 2) : fitsN N 7 [a] = true := by
  have hask : askL 7 1 = some [2] := rfl
  unfold fitsN
  simp only [List.length_cons, List.length_nil, Nat.zero_add, hask]
  simp [okN, h, hk]
theorem Gd.publicG (h : Gd w0 w tb mb N n rs) {a : Int} (ha : N[(a - 1).toNat]? = some secretNd) (hr : 1 ≤ a ∧ a ≤ (N.length : Int)) {pv : Value} (hp : Rd .i64 w pv [a]) (hn : n ≤ 60000) :
    Calls Try.prog 12 #[.pointer (some ⟨tb, 0, none⟩), .int .i64 7, pv] w fun e w' => Tells w0 w' tb mb (n + 1) N rs e fun M c => Has M c (7, ByteArray.empty, [a]) := by
  have := makeN_len N 7 [a]
  have := h.len
  obtain ⟨h1, h2, h3⟩ := make_has h.good (k := 7) (ps := [a]) (by decide) (by decide) (fits7 hr (sec_kind ha hr.1)) (fun p hp => by rw [List.mem_singleton.1 hp]; exact hr.1)
  exact (h.st.makes 7 hp (by simp) (by omega)).mono fun e w' ⟨he, hs⟩ => ⟨_, _, he, ⟨hs, h3, by omega⟩, h2, h1⟩
theorem Gd.sharedG (h : Gd w0 w tb mb N n rs) {a b p : Int} (ha : N[(a - 1).toNat]? = some secretNd) (hr : 1 ≤ a ∧ a ≤ (N.length : Int)) (hb : 1 ≤ b) (hP : Has N p (7, ByteArray.empty, [b])) {pv : Value} (hp : Rd .i64 w pv [a, p]) (hn : n ≤ 60000) :
    Calls Try.prog 12 #[.pointer (some ⟨tb, 0, none⟩), .int .i64 8, pv] w fun e w' => Tells w0 w' tb mb (n + 1) N rs e fun M c => Has M c (8, ByteArray.empty, [min a b, max a b]) := by
  have := makeN_len N 8 [a, p]
  have := h.len
  have hpl := hP.le
  have hpp := hP.pos
  have hpk : kindN N p = 7 := hP.kind
  have hf : fitsN N 8 [a, p] = true := by
    have hask : askL 8 2 = some [2, 7] := rfl
    have hak := sec_kind ha hr.1
    unfold fitsN
    simp only [List.length_cons, List.length_nil, Nat.zero_add, Nat.reduceAdd, hask]
    simp [List.range_succ, okN, hr, hak, hpk, hpp, hpl]
  have hm : mkN N 8 [a, p] = [min a b, max a b] := by
    unfold mkN
    rw [if_pos rfl]
    have : partsN N p = [b] := by unfold partsN; rw [hP.at']
    simp [this]
  have hput : makeN N 8 [a, p] = putN N (8, ByteArray.empty, [min a b, max a b]) := by
    unfold makeN
    rw [if_pos hf, hm]
  obtain ⟨h1, h2, h3⟩ := put_has h.good (n := (8, ByteArray.empty, [min a b, max a b])) (show (8 : Int) ≠ 2 by decide) (fun q hq => by
    simp only [List.mem_cons, List.not_mem_nil, or_false] at hq
    rcases hq with rfl | rfl <;> omega)
  rw [← hput] at h1 h2 h3
  exact (h.st.makes 8 hp (by simp) (by omega)).mono fun e w' ⟨he, hs⟩ => ⟨_, _, he, ⟨hs, h3, by omega⟩, h2, h1⟩
theorem Gd.firstG (h : Gd w0 w tb mb N n rs) {vb : Value} {zb : List Int} (hb : Rd .u8 w vb zb) (hl : zb.length ≤ 2048) (hn : n ≤ 60000) :
    Calls Try.prog 16 #[.pointer (some ⟨tb, 0, none⟩), vb] w fun e w' => Tells2 w0 w' tb mb (n + 7) N rs e fun M c d => ∃ g, Has M g (1, bstr zb, []) ∧ Der0 M c g lClientIn ∧ Der0 M d g lServerIn := by
  have := h.len
  obtain ⟨h1, h2, h3⟩ := text_has h.good (bstr zb)
  have n1 := textN_len N (bstr zb)
  refine (h.st.firstS hb hl (by omega) rfl rfl rfl).mono fun e w' ⟨he, hs⟩ => ?_
  generalize textN N (bstr zb) = T at *
  obtain ⟨a1, a2, a3⟩ := derive_der0 h3 (s := T.1) ⟨h1.pos, h1.le⟩ lClientIn
  have n2 := derive_len T.2 T.1 lClientIn 0
  generalize deriveN T.2 T.1 lClientIn 0 = A at *
  obtain ⟨b1, b2, b3⟩ := derive_der0 a3 (s := T.1) ⟨(h1.ext a2).pos, (h1.ext a2).le⟩ lServerIn
  have n3 := derive_len A.2 T.1 lServerIn 0
  exact ⟨_, _, _, he, ⟨hs, b3, by omega⟩, h2.trans (a2.trans b2), T.1, h1.ext (a2.trans b2), a1.ext b2, b1⟩
/-- Of what the early secret is. -/
def OwnOf (M : List Nd) (t o : Int) : Prop := (t = 0 ∧ Has M o (1, lNone, [])) ∨ (t ≠ 0 ∧ o = t)
theorem Gd.earlyG (h : Gd w0 w tb mb N n rs) (t : Int) (ht : t = 0 ∨ 1 ≤ t ∧ t ≤ (N.length : Int)) (hn : n ≤ 60000) :
    Calls Try.prog 17 #[.pointer (some ⟨tb, 0, none⟩), .int .i64 t] w fun e w' => Tells w0 w' tb mb (n + 4) N rs e fun M c => ∃ o, OwnOf M t o ∧ Der0 M c o lEarly := by
  have := h.len
  have n1 := earlyN_len N t
  refine (h.st.earlyS t (by omega)).mono fun e w' ⟨he, hs⟩ => ?_
  unfold earlyN at he hs n1
  by_cases h0 : t = 0
  · rw [if_pos h0] at he hs n1
    obtain ⟨h1, h2, h3⟩ := text_has h.good lNone
    generalize textN N lNone = T at *
    obtain ⟨a1, a2, a3⟩ := derive_der0 h3 (s := T.1) ⟨h1.pos, h1.le⟩ lEarly
    exact ⟨_, _, he, ⟨hs, a3, by omega⟩, h2.trans a2, T.1, .inl ⟨h0, h1.ext a2⟩, a1⟩
  · rw [if_neg h0] at he hs n1
    obtain ⟨a1, a2, a3⟩ := derive_der0 h.good (s := t) (by omega) lEarly
    exact ⟨_, _, he, ⟨hs, a3, by omega⟩, a2, t, .inr ⟨h0, rfl⟩, a1⟩
theorem Gd.shakenG (h : Gd w0 w tb mb N n rs) {x y : Int} (hx : 1 ≤ x ∧ x ≤ (N.length : Int)) (hy : 1 ≤ y ∧ y ≤ (N.length : Int)) (hn : n ≤ 60000) :
    Calls Try.prog 18 #[.pointer (some ⟨tb, 0, none⟩), .int .i64 x, .int .i64 y] w fun e w' => Tells w0 w' tb mb (n + 4) N rs e fun M c => ∃ r, Has M r (3, ByteArray.empty, [x, y]) ∧ Der0 M c r lHandshake := by
  have := h.len
  have n1 := makeN_len N 3 [x, y]
  refine (h.st.shakenS x y (by omega) rfl rfl).mono fun e w' ⟨he, hs⟩ => ?_
  obtain ⟨h1, h2, h3⟩ := pair_has h.good (k := 3) (.inl rfl) hx hy
  generalize makeN N 3 [x, y] = T at *
  obtain ⟨a1, a2, a3⟩ := derive_der0 h3 (s := T.1) ⟨h1.pos, h1.le⟩ lHandshake
  have n2 := derive_len T.2 T.1 lHandshake 0
  exact ⟨_, _, he, ⟨hs, a3, by omega⟩, h2.trans a2, T.1, h1.ext a2, a1⟩
theorem Gd.mainG (h : Gd w0 w tb mb N n rs) {s : Int} (hx : 1 ≤ s ∧ s ≤ (N.length : Int)) (hn : n ≤ 60000) :
    Calls Try.prog 20 #[.pointer (some ⟨tb, 0, none⟩), .int .i64 s] w fun e w' => Tells w0 w' tb mb (n + 3) N rs e fun M c => Der0 M c s lMain := by
  have := h.len
  have n1 := derive_len N s lMain 0
  obtain ⟨a1, a2, a3⟩ := derive_der0 h.good hx lMain
  exact (h.st.mainS s (by omega)).mono fun e w' ⟨he, hs⟩ => ⟨_, _, he, ⟨hs, a3, by omega⟩, a2, a1⟩
theorem Gd.signedG (h : Gd w0 w tb mb N n rs) {x : Int} (hx : 1 ≤ x ∧ x ≤ (N.length : Int)) (hn : n ≤ 60000) :
    Calls Try.prog 24 #[.pointer (some ⟨tb, 0, none⟩), .int .i64 x] w fun e w' => Tells w0 w' tb mb (n + 2) N rs e fun M c => ∃ p, Has M p (1, lProof, []) ∧ Has M c (3, ByteArray.empty, [p, x]) := by
  have := h.len
  have n1 := textN_len N lProof
  refine (h.st.signedS x (by omega) rfl rfl).mono fun e w' ⟨he, hs⟩ => ?_
  obtain ⟨h1, h2, h3⟩ := text_has h.good lProof
  generalize textN N lProof = T at *
  have := h2.length_le
  have n2 := makeN_len T.2 3 [T.1, x]
  obtain ⟨a1, a2, a3⟩ := pair_has h3 (k := 3) (.inl rfl) (a := T.1) (b := x) ⟨h1.pos, h1.le⟩ (by omega)
  exact ⟨_, _, he, ⟨hs, a3, by omega⟩, h2.trans a2, T.1, h1.ext a2, a1⟩
theorem Gd.earlyTrafficG (h : Gd w0 w tb mb N n rs) {s x : Int} (hs : 1 ≤ s ∧ s ≤ (N.length : Int)) (hx : 1 ≤ x ∧ x ≤ (N.length : Int)) (hn : n ≤ 60000) :
    Calls Try.prog 27 #[.pointer (some ⟨tb, 0, none⟩), .int .i64 s, .int .i64 x] w fun e w' => Tells w0 w' tb mb (n + 3) N rs e fun M c => Der M c s lClientEarly x := by
  have := h.len
  have n1 := atN_len N lClientEarly s x
  obtain ⟨a1, a2, a3⟩ := at_der h.good hs hx lClientEarly
  exact (h.st.earlyTrafficS s x (by omega)).mono fun e w' ⟨he, hs⟩ => ⟨_, _, he, ⟨hs, a3, by omega⟩, a2, a1⟩
theorem Gd.resumeG (h : Gd w0 w tb mb N n rs) {s x : Int} (hs : 1 ≤ s ∧ s ≤ (N.length : Int)) (hx : 1 ≤ x ∧ x ≤ (N.length : Int)) (hn : n ≤ 60000) :
    Calls Try.prog 28 #[.pointer (some ⟨tb, 0, none⟩), .int .i64 s, .int .i64 x] w fun e w' => Tells w0 w' tb mb (n + 3) N rs e fun M c => Der M c s lResume x := by
  have := h.len
  have n1 := atN_len N lResume s x
  obtain ⟨a1, a2, a3⟩ := at_der h.good hs hx lResume
  exact (h.st.resumeS s x (by omega)).mono fun e w' ⟨he, hs⟩ => ⟨_, _, he, ⟨hs, a3, by omega⟩, a2, a1⟩
theorem Gd.finishedG (h : Gd w0 w tb mb N n rs) {s x : Int} (hs : 1 ≤ s ∧ s ≤ (N.length : Int)) (hx : 1 ≤ x ∧ x ≤ (N.length : Int)) (hn : n ≤ 60000) :
    Calls Try.prog 22 #[.pointer (some ⟨tb, 0, none⟩), .int .i64 s, .int .i64 x] w fun e w' => Tells w0 w' tb mb (n + 4) N rs e fun M c => IsMac M c s lFinished x := by
  have := h.len
  have n1 := macN_len N lFinished s x
  obtain ⟨a1, a2, a3⟩ := mac_has h.good hs hx lFinished
  exact (h.st.finishedS s x (by omega)).mono fun e w' ⟨he, hs⟩ => ⟨_, _, he, ⟨hs, a3, by omega⟩, a2, a1⟩
theorem Gd.binderG (h : Gd w0 w tb mb N n rs) {s x : Int} (hs : 1 ≤ s ∧ s ≤ (N.length : Int)) (hx : 1 ≤ x ∧ x ≤ (N.length : Int)) (hn : n ≤ 60000) :
    Calls Try.prog 23 #[.pointer (some ⟨tb, 0, none⟩), .int .i64 s, .int .i64 x] w fun e w' => Tells w0 w' tb mb (n + 4) N rs e fun M c => IsMac M c s lBinder x := by
  have := h.len
  have n1 := macN_len N lBinder s x
  obtain ⟨a1, a2, a3⟩ := mac_has h.good hs hx lBinder
  exact (h.st.binderS s x (by omega)).mono fun e w' ⟨he, hs⟩ => ⟨_, _, he, ⟨hs, a3, by omega⟩, a2, a1⟩
theorem Gd.shakenTrafficG (h : Gd w0 w tb mb N n rs) {s x : Int} (hs : 1 ≤ s ∧ s ≤ (N.length : Int)) (hx : 1 ≤ x ∧ x ≤ (N.length : Int)) (hn : n ≤ 60000) :
    Calls Try.prog 19 #[.pointer (some ⟨tb, 0, none⟩), .int .i64 s, .int .i64 x] w fun e w' => Tells2 w0 w' tb mb (n + 6) N rs e fun M c d => Der M c s lClientHs x ∧ Der M d s lServerHs x := by
  have := h.len
  refine (h.st.shakenTrafficS s x (by omega)).mono fun e w' ⟨he, hst⟩ => ?_
  have n1 := atN_len N lClientHs s x
  obtain ⟨a1, a2, a3⟩ := at_der h.good hs hx lClientHs
  generalize atN N lClientHs s x = A at *
  have := a2.length_le
  have n2 := atN_len A.2 lServerHs s x
  obtain ⟨b1, b2, b3⟩ := at_der a3 (s := s) (x := x) (by omega) (by omega) lServerHs
  exact ⟨_, _, _, he, ⟨hst, b3, by omega⟩, a2.trans b2, a1.ext b2, b1⟩
theorem Gd.mainTrafficG (h : Gd w0 w tb mb N n rs) {s x : Int} (hs : 1 ≤ s ∧ s ≤ (N.length : Int)) (hx : 1 ≤ x ∧ x ≤ (N.length : Int)) (hn : n ≤ 60000) :
    Calls Try.prog 21 #[.pointer (some ⟨tb, 0, none⟩), .int .i64 s, .int .i64 x] w fun e w' => Tells2 w0 w' tb mb (n + 6) N rs e fun M c d => Der M c s lClientApp x ∧ Der M d s lServerApp x := by
  have := h.len
  refine (h.st.mainTrafficS s x (by omega)).mono fun e w' ⟨he, hst⟩ => ?_
  have n1 := atN_len N lClientApp s x
  obtain ⟨a1, a2, a3⟩ := at_der h.good hs hx lClientApp
  generalize atN N lClientApp s x = A at *
  have := a2.length_le
  have n2 := atN_len A.2 lServerApp s x
  obtain ⟨b1, b2, b3⟩ := at_der a3 (s := s) (x := x) (by omega) (by omega) lServerApp
  exact ⟨_, _, _, he, ⟨hst, b3, by omega⟩, a2.trans b2, a1.ext b2, b1⟩
#print axioms Gd.mainTrafficG
end Go.Proofs.Ytipgidcpocgojaa
