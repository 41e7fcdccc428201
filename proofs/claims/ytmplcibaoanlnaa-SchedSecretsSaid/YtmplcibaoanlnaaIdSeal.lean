/- Derive (and Seal's numbers) as plain functions of the table's nodes: for a seat without ideal.Seal. -/
import Derived.Test.YtmplcibaoanlnaaPuts
import Derived.Lib.ConvBytes
namespace Go.Proofs.Ytmplcibaoanlnaa
open Go Go.RowKit

def sealN (N : List Nd) (key : Int) (head : ByteArray) (content : Int) : Int × List Nd := makeN (textN N head).2 10 [key, (textN N head).1, content]
def deriveN (N : List Nd) (secret : Int) (label : ByteArray) (context : Int) : Int × List Nd :=
  if context = 0 then makeN (textN (textN N ByteArray.empty).2 label).2 6 [secret, (textN (textN N ByteArray.empty).2 label).1, (textN N ByteArray.empty).1]
  else makeN (textN N label).2 6 [secret, (textN N label).1, context]

/-- A string's bytes, as numbers. -/
def sbytes (s : ByteArray) : List Int := s.data.toList.map fun b => (b.toNat : Int)
theorem sbytes_len (s : ByteArray) : (sbytes s).length = s.size := by simp [sbytes]
theorem bstr_sbytes (s : ByteArray) : bstr (sbytes s) = s := by
  have key : ∀ (l : List UInt8) (r : ByteArray), (l.map (fun b => (b.toNat : Int))).foldl (fun r n => r.push (UInt8.ofNat n.toNat)) r = ⟨r.data ++ l.toArray⟩ := by
    intro l
    induction l with
    | nil => intro r; simp
    | cons b l ih =>
      intro r
      simp only [List.map_cons, List.foldl_cons]
      rw [ih]
      simp [ByteArray.push]
  unfold bstr sbytes
  rw [key]
  have e : (ByteArray.empty.data ++ s.data.toList.toArray) = s.data := by
    show (#[] : Array UInt8) ++ s.data.toList.toArray = s.data
    simp
  rw [e]
theorem conv_str (w : World) (s : ByteArray) (hs : s.size ≤ maxLen) : ∃ v w', (convert 9 22 (.string s)).run Try.prog w = .ok v w' ∧ Rd .u8 w' v (sbytes s) ∧ Below w.heap.size w w' := by
  have hr := Lib.run_convert_string_bytes (P := Try.prog) w 9 22 5 s Try.underlying9 Try.underlying22 Try.underlying5
  refine ⟨_, _, hr, ?_, ?_⟩
  · refine ⟨some ⟨w.heap.size, 0, none⟩, grownCap w s.size 0 5, by rw [sbytes_len], by rw [sbytes_len]; exact grownCap_ge _ _ _ _, grownCap_le_maxLen _ _ _ _ hs, (fun h => by cases h), fun a ha j hj => ?_⟩
    cases ha
    rw [sbytes_len] at hj
    rw [Addr.add_lit, Nat.zero_add, Lib.bytesWorld_cell w 5 s j hj]
    simp [sbytes, List.getD, hj]
  · exact ⟨rfl, rfl, rfl, by rw [Lib.bytesWorld_size]; omega, fun k hk => Lib.bytesWorld_at_old w 5 s k hk⟩
theorem empty_bstr : bstr [] = ByteArray.empty := rfl

set_option maxRecDepth 20000 in
set_option maxHeartbeats 1600000 in
theorem St.derive {w0 w : World} {tb mb : Nat} {N : List Nd} {rs : List (Value × List Int)} (h : St w0 w tb mb N rs) (secret context : Int) (s : ByteArray) (hl : s.size ≤ 2048) (hroom : N.length < 65534) :
    Calls Try.prog 34 #[.pointer (some ⟨tb, 0, none⟩), .int .i64 secret, .string s, .int .i64 context] w fun e w' => e = .returned (.int .i64 (deriveN N secret s context).1) ∧ St w0 w' tb mb (deriveN N secret s context).2 rs := by
  have hsz : s.size ≤ maxLen := by unfold maxLen; omega
  unfold deriveN
  by_cases hc : context = 0
  · rw [if_pos hc]
    subst hc
    have c1 := h.text (Rd.nil .u8 w) (Nat.zero_le _) (by omega)
    rw [empty_bstr] at c1
    have hlen := (putN_len N (1, ByteArray.empty, [])).2
    have HT : Hid ((textN N ByteArray.empty).2.length < 65535) := Lib.hid (by unfold textN; omega)
    generalize textN N ByteArray.empty = T at *
    have hlen2 := (putN_len T.2 (1, s, [])).2
    have HT2 : Hid ((textN T.2 s).2.length < 65536) := Lib.hid (by have := HT.out; unfold textN; omega)
    obtain ⟨U, hU⟩ : ∃ U, U = textN T.2 s := ⟨_, rfl⟩
    rw [← hU] at HT2 ⊢
    have HU := Lib.hid hU
    clear hU
    have HSL := Lib.hid hl
    have HSZ := Lib.hid hsz
    clear h hroom hlen hlen2 hl hsz
    go_enter Try.func34, Try.ntmps34
    go_wp2_with fail
    refine c1.mono ?_
    rintro e w1 ⟨rfl, h1⟩
    clear c1
    obtain ⟨v, w2, hv, hr, hb⟩ := conv_str w1 s HSZ.out
    have c2 := (h1.keep hb).text hr (by rw [sbytes_len]; exact HSL.out) (by have := HT.out; omega)
    rw [bstr_sbytes, ← HU.out] at c2
    go_wp2_with fail
    refine c2.mono ?_
    rintro e w3 ⟨rfl, h3⟩
    clear c2
    have c4 := (h3.keep (below_alloc w3 (.cells (cs .i64 [secret, U.1, T.1]).toArray 26))).makes 6 (Rd.lit .i64 26 w3 [secret, U.1, T.1] (by simp)) (by simp) HT2.out
    go_wp2_with fail
    refine c4.mono ?_
    rintro e w4 ⟨rfl, h4⟩
    go_wp2_with fail
    go_ret
    exact ⟨rfl, h4⟩
  · rw [if_neg hc]
    have hc0 : (context == 0) = false := beq_eq_false_iff_ne.2 hc
    have hlen2 := (putN_len N (1, s, [])).2
    have HT2 : Hid ((textN N s).2.length < 65536) := Lib.hid (by unfold textN; omega)
    obtain ⟨U, hU⟩ : ∃ U, U = textN N s := ⟨_, rfl⟩
    rw [← hU] at HT2 ⊢
    have HU := Lib.hid hU
    clear hU
    have HSL := Lib.hid hl
    have HSZ := Lib.hid hsz
    have HR := Lib.hid hroom
    clear hroom hlen2 hl hsz hc
    go_enter Try.func34, Try.ntmps34
    obtain ⟨v, w2, hv, hr, hb⟩ := conv_str w s HSZ.out
    have c2 := (h.keep hb).text hr (by rw [sbytes_len]; exact HSL.out) (by have := HR.out; omega)
    rw [bstr_sbytes, ← HU.out] at c2
    clear h
    go_wp2_with fail
    refine c2.mono ?_
    rintro e w3 ⟨rfl, h3⟩
    clear c2
    have c4 := (h3.keep (below_alloc w3 (.cells (cs .i64 [secret, U.1, context]).toArray 26))).makes 6 (Rd.lit .i64 26 w3 [secret, U.1, context] (by simp)) (by simp) HT2.out
    go_wp2_with fail
    refine c4.mono ?_
    rintro e w4 ⟨rfl, h4⟩
    go_wp2_with fail
    go_ret
    exact ⟨rfl, h4⟩
#print axioms St.derive
end Go.Proofs.Ytmplcibaoanlnaa
