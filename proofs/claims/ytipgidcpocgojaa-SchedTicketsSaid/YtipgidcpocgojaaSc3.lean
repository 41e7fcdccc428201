/- law 15: awake; of terms that are none nothing is derived (SchedNone's walk). -/
import Derived.Test.YtipgidcpocgojaaSc2
namespace Go.Proofs.Ytipgidcpocgojaa
open Go Go.RowKit

theorem fits_mem {N : List Nd} {k : Int} {ps : List Int} (hf : fitsN N k ps = true) : ∀ p ∈ ps, 1 ≤ p ∧ p ≤ (N.length : Int) := by
  unfold fitsN at hf
  cases ha : askL k ps.length with
  | none => rw [ha] at hf; cases hf
  | some l =>
    rw [ha] at hf
    simp only [Bool.and_eq_true, decide_eq_true_eq, List.all_eq_true, List.mem_range] at hf
    intro p hp
    obtain ⟨j, hj, rfl⟩ := List.mem_iff_getElem.1 hp
    have := hf.2 j hj
    unfold okN at this
    simp only [Bool.and_eq_true, decide_eq_true_eq, List.getD_eq_getElem?_getD, List.getElem?_eq_getElem hj, Option.getD_some] at this
    exact this.1
/-- A number that no small table has. -/
def Far (x : Int) : Prop := x < 1 ∨ 100 < x
theorem make_none {N : List Nd} {k x : Int} {ps : List Int} (hx : x ∈ ps) (h : Far x) (hN : N.length ≤ 100) : makeN N k ps = (0, N) := by
  unfold makeN
  refine if_neg fun hf => ?_
  have := fits_mem hf x hx
  unfold Far at h
  omega
theorem far0 : Far 0 := .inl (by decide)
theorem derive_none {N : List Nd} {s c : Int} (l : ByteArray) (h : Far s ∨ (Far c ∧ c ≠ 0)) (hN : N.length ≤ 90) : (deriveN N s l c).1 = 0 := by
  unfold deriveN
  have h1 := textN_len N ByteArray.empty
  have h2 := textN_len (textN N ByteArray.empty).2 l
  have h3 := textN_len N l
  split
  · rename_i hc
    rcases h with h | h
    · rw [make_none (x := s) (by simp) h (by omega)]
    · exact absurd hc h.2
  · rcases h with h | h
    · rw [make_none (x := s) (by simp) h (by omega)]
    · rw [make_none (x := c) (by simp) h.1 (by omega)]
theorem at_none {N : List Nd} {s c : Int} (l : ByteArray) (h : Far s ∨ Far c) (hN : N.length ≤ 90) : (atN N l s c).1 = 0 := by
  unfold atN
  split
  · rfl
  · rename_i hc
    exact derive_none l (h.imp id fun h => ⟨h, hc⟩) hN

variable {w0 w : World} {tb mb : Nat} {N : List Nd} {rs : List (Value × List Int)}
/-- A table of at most n nodes more. -/
def More (w0 w : World) (tb mb : Nat) (n : Nat) (rs : List (Value × List Int)) : Prop := ∃ N : List Nd, N.length ≤ n ∧ St w0 w tb mb N rs
theorem shakenTraffic_none (h : St w0 w tb mb N rs) (s x : Int) (hx : Far s ∨ Far x) {n : Nat} (hN : N.length ≤ n) (hn : n ≤ 80) :
    Calls Try.prog 19 #[.pointer (some ⟨tb, 0, none⟩), .int .i64 s, .int .i64 x] w fun e w' => e = .returned (.tuple #[.int .i64 0, .int .i64 0]) ∧ More w0 w' tb mb (n + 6) rs := by
  have n1 := atN_len N lClientHs s x
  have n2 := atN_len (atN N lClientHs s x).2 lServerHs s x
  refine (h.shakenTrafficS s x (by omega)).mono fun e w' ⟨h1, h2⟩ => ⟨?_, _, ?_, h2⟩
  · rw [h1, at_none _ hx (by omega), at_none _ hx (by omega)]
  · omega
theorem mainTraffic_none (h : St w0 w tb mb N rs) (s x : Int) (hx : Far s ∨ Far x) {n : Nat} (hN : N.length ≤ n) (hn : n ≤ 80) :
    Calls Try.prog 21 #[.pointer (some ⟨tb, 0, none⟩), .int .i64 s, .int .i64 x] w fun e w' => e = .returned (.tuple #[.int .i64 0, .int .i64 0]) ∧ More w0 w' tb mb (n + 6) rs := by
  have n1 := atN_len N lClientApp s x
  have n2 := atN_len (atN N lClientApp s x).2 lServerApp s x
  refine (h.mainTrafficS s x (by omega)).mono fun e w' ⟨h1, h2⟩ => ⟨?_, _, ?_, h2⟩
  · rw [h1, at_none _ hx (by omega), at_none _ hx (by omega)]
  · omega
theorem resume_none (h : St w0 w tb mb N rs) (s x : Int) (hx : Far s ∨ Far x) {n : Nat} (hN : N.length ≤ n) (hn : n ≤ 80) :
    Calls Try.prog 28 #[.pointer (some ⟨tb, 0, none⟩), .int .i64 s, .int .i64 x] w fun e w' => e = .returned (.int .i64 0) ∧ More w0 w' tb mb (n + 3) rs := by
  have n1 := atN_len N lResume s x
  refine (h.resumeS s x (by omega)).mono fun e w' ⟨h1, h2⟩ => ⟨?_, _, ?_, h2⟩
  · rw [h1, at_none _ hx (by omega)]
  · omega
theorem main_none (h : St w0 w tb mb N rs) (s : Int) (hx : Far s) {n : Nat} (hN : N.length ≤ n) (hn : n ≤ 80) :
    Calls Try.prog 20 #[.pointer (some ⟨tb, 0, none⟩), .int .i64 s] w fun e w' => e = .returned (.int .i64 0) ∧ More w0 w' tb mb (n + 3) rs := by
  have n1 := derive_len N s lMain 0
  refine (h.mainS s (by omega)).mono fun e w' ⟨h1, h2⟩ => ⟨?_, _, ?_, h2⟩
  · rw [h1, derive_none _ (.inl hx) (by omega)]
  · omega
theorem finished_none (h : St w0 w tb mb N rs) (s x : Int) (hx : Far s) {n : Nat} (hN : N.length ≤ n) (hn : n ≤ 80) :
    Calls Try.prog 22 #[.pointer (some ⟨tb, 0, none⟩), .int .i64 s, .int .i64 x] w fun e w' => e = .returned (.int .i64 0) ∧ More w0 w' tb mb (n + 4) rs := by
  have n1 := macN_len N lFinished s x
  have n2 := derive_len N s lFinished 0
  refine (h.finishedS s x (by omega)).mono fun e w' ⟨h1, h2⟩ => ⟨?_, _, ?_, h2⟩
  · rw [h1]
    unfold macN
    rw [derive_none _ (.inl hx) (by omega), make_none (x := 0) (by simp) far0 (by omega)]
  · omega
theorem next_none (h : St w0 w tb mb N rs) (x : Int) (hx : Far x) {n : Nat} (hN : N.length ≤ n) (hn : n ≤ 80) :
    Calls Try.prog 11 #[.pointer (some ⟨tb, 0, none⟩), .int .i64 x, .slice none 0 0] w fun e w' => e = .returned (.int .i64 0) ∧ More w0 w' tb mb (n + 3) rs := by
  have n1 := nextN_len N x (bstr [])
  have n2 := textN_len N (bstr [])
  refine (h.nextS x (Rd.nil .u8 w) (Nat.zero_le _) (by omega)).mono fun e w' ⟨h1, h2⟩ => ⟨?_, _, ?_, h2⟩
  · rw [h1]
    unfold nextN
    rw [make_none (x := x) (k := 3) (by simp) hx (by omega), make_none (x := 0) (by simp) far0 (by simp only; omega)]
  · omega
theorem signed_none (h : St w0 w tb mb N rs) (x : Int) (hx : Far x) {n : Nat} (hN : N.length ≤ n) (hn : n ≤ 80) :
    Calls Try.prog 24 #[.pointer (some ⟨tb, 0, none⟩), .int .i64 x] w fun e w' => e = .returned (.int .i64 0) ∧ More w0 w' tb mb (n + 2) rs := by
  have n1 := textN_len N lProof
  have n2 := (makeN_len (textN N lProof).2 3 [(textN N lProof).1, x]).2
  refine (h.signedS x (by omega) rfl rfl).mono fun e w' ⟨h1, h2⟩ => ⟨?_, _, ?_, h2⟩
  · rw [h1, make_none (x := x) (by simp) hx (by omega)]
  · omega
theorem shaken_none (h : St w0 w tb mb N rs) (x y : Int) (hx : Far x) {n : Nat} (hN : N.length ≤ n) (hn : n ≤ 80) :
    Calls Try.prog 18 #[.pointer (some ⟨tb, 0, none⟩), .int .i64 x, .int .i64 y] w fun e w' => e = .returned (.int .i64 0) ∧ More w0 w' tb mb (n + 4) rs := by
  have n1 := (makeN_len N 3 [x, y]).2
  have n2 := derive_len (makeN N 3 [x, y]).2 (makeN N 3 [x, y]).1 lHandshake 0
  refine (h.shakenS x y (by omega) rfl rfl).mono fun e w' ⟨h1, h2⟩ => ⟨?_, _, ?_, h2⟩
  · rw [h1, make_none (x := x) (by simp) hx (by omega), derive_none _ (.inl far0) (by simp only; omega)]
  · omega

theorem aw15 : textN [] ByteArray.empty = (1, [(1, ByteArray.empty, [])]) ∧ ((nextN [(1, ByteArray.empty, [])] 1 (bstr [120])).1 != 1) = true := by decide +kernel
theorem aw15h : Has [(1, ByteArray.empty, [])] 1 (1, ByteArray.empty, []) := ⟨by decide, rfl, by decide +kernel⟩
set_option maxRecDepth 20000 in
set_option maxHeartbeats 1600000 in
theorem awake15 (w : World) : Calls Try.prog 29 #[] w fun e w' => e = .returned (.bool true) ∧ Below w.heap.size w w' := by
  have a2 := aw15.2
  have hcv : ∀ (w : World) (o : Obj) (C : Array Value) (n c : Nat), (convert 22 22 (.slice (some ⟨w.heap.size + 1, 0, none⟩) n c)).run Try.prog ((w.alloc o).alloc (.cells C 5)) = .ok (.slice (some ⟨w.heap.size + 1, 0, none⟩) n c) ((w.alloc o).alloc (.cells C 5 (C.size, C.size + 1))) := fun w o C n c => by
    have := conv_const (w.alloc o) C n c
    simpa only [World.size_alloc] using this
  generalize hM : nextN [(1, ByteArray.empty, [])] 1 (bstr [120]) = M at *
  have HM := Lib.hid hM
  clear hM
  go_enter Try.func29, Try.ntmps29
  go_wp2_with fail
  refine (St.new w).mono ?_
  rintro e w1 ⟨tb, mb, rfl, s1⟩
  have c1 := s1.beginS (by simp)
  rw [aw15.1] at c1
  go_wp2_with fail
  refine c1.mono ?_
  rintro e w2 ⟨rfl, s2⟩
  clear c1 s1
  have c2 := s2.look1 aw15h
  go_wp2_with fail
  refine c2.mono ?_
  rintro e w3 ⟨ao, cap, rfl, s3, b3⟩
  clear c2 s2
  have s4 := s3.keep (below_alloc w3 (.cells #[.int .i64 1, .string ByteArray.empty, .slice ao 0 cap] 40))
  have s5 := s4.keep (below_alloc _ (.cells (cs .u8 [120]).toArray 5 ((cs .u8 [120]).toArray.size, (cs .u8 [120]).toArray.size + 1)))
  have r5 := Rd.litM (w3.alloc (.cells #[.int .i64 1, .string ByteArray.empty, .slice ao 0 cap] 40)) [120] 1 rfl (by simp)
  rw [World.size_alloc] at r5
  have c3 := s5.nextS 1 r5 (by simp) (by simp)
  rw [HM.out] at c3
  clear s3 s4 s5
  go_wp2_with fail
  refine c3.mono ?_
  rintro e w6 ⟨rfl, s6⟩
  have HB := Lib.hid s6.bel
  clear c3 s6
  go_wp2_with fail
  go_ret
  exact ⟨rfl, HB.out⟩
#print axioms awake15
end Go.Proofs.Ytipgidcpocgojaa
