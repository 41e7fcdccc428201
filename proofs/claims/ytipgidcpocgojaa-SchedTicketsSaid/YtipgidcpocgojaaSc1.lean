/- sched: each secret as a plain function of the table's nodes. -/
import Derived.Test.YtipgidcpocgojaaIdOpen
import Derived.Test.YtipgidcpocgojaaLookNo
namespace Go.Proofs.Ytipgidcpocgojaa
open Go Go.RowKit

/-- The transcript behind a message more. -/
def nextN (N : List Nd) (tr : Int) (m : ByteArray) : Int × List Nd :=
  makeN (makeN (textN N m).2 3 [tr, (textN N m).1]).2 4 [(makeN (textN N m).2 3 [tr, (textN N m).1]).1]
theorem nextN_len (N : List Nd) (tr : Int) (m : ByteArray) : (nextN N tr m).2.length ≤ N.length + 3 := by
  unfold nextN
  have h1 := (putN_len N (1, m, [])).2
  have h2 := (makeN_len (textN N m).2 3 [tr, (textN N m).1]).2
  have h3 := (makeN_len (makeN (textN N m).2 3 [tr, (textN N m).1]).2 4 [(makeN (textN N m).2 3 [tr, (textN N m).1]).1]).2
  unfold textN at *
  omega
/-- What is derived with a transcript. -/
def atN (N : List Nd) (l : ByteArray) (s tr : Int) : Int × List Nd := if tr = 0 then (0, N) else deriveN N s l tr
theorem atN_len (N : List Nd) (l : ByteArray) (s tr : Int) : (atN N l s tr).2.length ≤ N.length + 3 := by
  unfold atN
  split
  · simp
  · exact derive_len _ _ _ _
/-- A mac by a secret. -/
def macN (N : List Nd) (l : ByteArray) (s tr : Int) : Int × List Nd := makeN (deriveN N s l 0).2 5 [(deriveN N s l 0).1, tr]
theorem macN_len (N : List Nd) (l : ByteArray) (s tr : Int) : (macN N l s tr).2.length ≤ N.length + 4 := by
  unfold macN
  have h1 := derive_len N s l 0
  have h2 := (makeN_len (deriveN N s l 0).2 5 [(deriveN N s l 0).1, tr]).2
  omega
theorem textN_len (N : List Nd) (s : ByteArray) : (textN N s).2.length ≤ N.length + 1 := by
  unfold textN; exact (putN_len _ _).2

variable {w0 w : World} {tb mb : Nat} {N : List Nd} {rs : List (Value × List Int)}
set_option maxRecDepth 20000 in
set_option maxHeartbeats 1600000 in
theorem St.beginS (h : St w0 w tb mb N rs) (hroom : N.length < 65536) :
    Calls Try.prog 10 #[.pointer (some ⟨tb, 0, none⟩)] w fun e w' => e = .returned (.int .i64 (textN N ByteArray.empty).1) ∧ St w0 w' tb mb (textN N ByteArray.empty).2 rs := by
  have c1 := h.text (Rd.nil .u8 w) (Nat.zero_le _) hroom
  rw [empty_bstr] at c1
  generalize textN N ByteArray.empty = T at *
  clear h hroom
  go_enter Try.func10, Try.ntmps10
  go_wp2_with fail
  refine c1.mono ?_
  rintro e w1 ⟨rfl, h1⟩
  go_wp2_with fail
  go_ret
  exact ⟨rfl, h1⟩
set_option maxRecDepth 20000 in
set_option maxHeartbeats 1600000 in
theorem St.nextS (h : St w0 w tb mb N rs) (tr : Int) {vb : Value} {zb : List Int} (hb : Rd .u8 w vb zb) (hl : zb.length ≤ 2048) (hroom : N.length < 65533) :
    Calls Try.prog 11 #[.pointer (some ⟨tb, 0, none⟩), .int .i64 tr, vb] w fun e w' => e = .returned (.int .i64 (nextN N tr (bstr zb)).1) ∧ St w0 w' tb mb (nextN N tr (bstr zb)).2 rs := by
  have c1 := h.text hb hl (by omega)
  have hlen := textN_len N (bstr zb)
  unfold nextN
  generalize (textN N (bstr zb)) = T at *
  have hlen2 := (makeN_len T.2 3 [tr, T.1]).2
  obtain ⟨U, hU⟩ : ∃ U, U = makeN T.2 3 [tr, T.1] := ⟨_, rfl⟩
  rw [← hU] at hlen2 ⊢
  have HL : Hid (T.2.length < 65536 ∧ U.2.length < 65536) := Lib.hid (by omega)
  have HU := Lib.hid hU
  obtain ⟨ao, cap, rfl, _⟩ := hb
  clear h hl hroom hlen hlen2 hU
  go_enter Try.func11, Try.ntmps11
  go_wp2_with fail
  refine c1.mono ?_
  rintro e w1 ⟨rfl, h1⟩
  have c2 := (h1.keep (below_alloc w1 (.cells (cs .i64 [tr, T.1]).toArray 26))).makes 3 (Rd.lit .i64 26 w1 [tr, T.1] (by simp)) (by simp) HL.out.1
  rw [← HU.out] at c2
  clear c1
  go_wp2_with fail
  refine c2.mono ?_
  rintro e w2 ⟨rfl, h2⟩
  have c3 := (h2.keep (below_alloc w2 (.cells (cs .i64 [U.1]).toArray 26))).makes 4 (Rd.lit .i64 26 w2 [U.1] (by simp)) (by simp) HL.out.2
  clear c2
  go_wp2_with fail
  refine c3.mono ?_
  rintro e w3 ⟨rfl, h3⟩
  go_wp2_with fail
  go_ret
  exact ⟨rfl, h3⟩
set_option maxRecDepth 20000 in
set_option maxHeartbeats 1600000 in
theorem St.ofS (h : St w0 w tb mb N rs) (l : ByteArray) (s : Int) (hl : l.size ≤ 2048) (hroom : N.length < 65534) :
    Calls Try.prog 39 #[.string l, .pointer (some ⟨tb, 0, none⟩), .int .i64 s] w fun e w' => e = .returned (.int .i64 (deriveN N s l 0).1) ∧ St w0 w' tb mb (deriveN N s l 0).2 rs := by
  have c1 := h.derive s 0 l hl hroom
  generalize deriveN N s l 0 = T at *
  clear h hroom hl
  go_enter Try.func39, Try.ntmps39
  go_wp2_with fail
  refine c1.mono ?_
  rintro e w1 ⟨rfl, h1⟩
  go_wp2_with fail
  go_ret
  exact ⟨rfl, h1⟩
set_option maxRecDepth 20000 in
set_option maxHeartbeats 1600000 in
theorem St.atS (h : St w0 w tb mb N rs) (l : ByteArray) (s tr : Int) (hl : l.size ≤ 2048) (hroom : N.length < 65534) :
    Calls Try.prog 41 #[.string l, .pointer (some ⟨tb, 0, none⟩), .int .i64 s, .int .i64 tr] w fun e w' => e = .returned (.int .i64 (atN N l s tr).1) ∧ St w0 w' tb mb (atN N l s tr).2 rs := by
  unfold atN
  by_cases ht : tr = 0
  · rw [if_pos ht]
    subst ht
    go_enter Try.func41, Try.ntmps41
    go_wp2_with fail
    go_ret
    exact ⟨rfl, h⟩
  · rw [if_neg ht]
    have e0 : (tr == 0) = false := beq_eq_false_iff_ne.2 ht
    have c1 := h.derive s tr l hl hroom
    generalize deriveN N s l tr = T at *
    clear h hroom hl ht
    go_enter Try.func41, Try.ntmps41
    go_wp2_with fail
    refine c1.mono ?_
    rintro e w1 ⟨rfl, h1⟩
    go_wp2_with fail
    go_ret
    exact ⟨rfl, h1⟩
theorem make_fn (fn : Fn) (first cap : Array Value) (w : World) : (Instr.makeFunc fn first cap).run Try.prog w = .ok (.func fn first cap) w := rfl
set_option maxRecDepth 20000 in
set_option maxHeartbeats 1600000 in
/-- Both sides' secrets. -/
theorem St.bothS (h : St w0 w tb mb N rs) (a b : ByteArray) (s tr : Int) (hl : a.size ≤ 2048) (hk : b.size ≤ 2048) (hroom : N.length < 65530) :
    Calls Try.prog 40 #[.pointer (some ⟨tb, 0, none⟩), .int .i64 s, .int .i64 tr, .func (.func 41) #[.string a] #[], .func (.func 41) #[.string b] #[]] w fun e w' => e = .returned (.tuple #[.int .i64 (atN N a s tr).1, .int .i64 (atN (atN N a s tr).2 b s tr).1]) ∧ St w0 w' tb mb (atN (atN N a s tr).2 b s tr).2 rs := by
  have c1 := h.atS a s tr hl (by omega)
  have hlen := atN_len N a s tr
  generalize atN N a s tr = T at *
  have HT : Hid (T.2.length < 65534 ∧ b.size ≤ 2048) := Lib.hid ⟨by omega, hk⟩
  clear h hl hroom hlen hk
  go_enter Try.func40, Try.ntmps40
  go_wp2_with fail
  refine c1.mono ?_
  rintro e w1 ⟨rfl, h1⟩
  have c2 := h1.atS b s tr HT.out.2 HT.out.1
  clear h1
  go_wp2_with fail
  refine c2.mono ?_
  rintro e w2 ⟨rfl, h2⟩
  go_wp2_with fail
  go_ret2
  exact ⟨rfl, h2⟩
set_option maxRecDepth 20000 in
set_option maxHeartbeats 1600000 in
theorem St.macS (h : St w0 w tb mb N rs) (l : ByteArray) (s tr : Int) (hl : l.size ≤ 2048) (hroom : N.length < 65530) :
    Calls Try.prog 42 #[.pointer (some ⟨tb, 0, none⟩), .int .i64 s, .int .i64 tr, .func (.func 39) #[.string l] #[]] w fun e w' => e = .returned (.int .i64 (macN N l s tr).1) ∧ St w0 w' tb mb (macN N l s tr).2 rs := by
  have c1 := h.ofS l s hl (by omega)
  have hlen := derive_len N s l 0
  unfold macN
  generalize deriveN N s l 0 = T at *
  have HT : Hid (T.2.length < 65536) := Lib.hid (by omega)
  clear h hl hroom hlen
  go_enter Try.func42, Try.ntmps42
  go_wp2_with fail
  refine c1.mono ?_
  rintro e w1 ⟨rfl, h1⟩
  have c2 := (h1.keep (below_alloc w1 (.cells (cs .i64 [T.1, tr]).toArray 26))).makes 5 (Rd.lit .i64 26 w1 [T.1, tr] (by simp)) (by simp) HT.out
  clear h1
  go_wp2_with fail
  refine c2.mono ?_
  rintro e w2 ⟨rfl, h2⟩
  go_wp2_with fail
  go_ret
  exact ⟨rfl, h2⟩
#print axioms St.macS
end Go.Proofs.Ytipgidcpocgojaa
