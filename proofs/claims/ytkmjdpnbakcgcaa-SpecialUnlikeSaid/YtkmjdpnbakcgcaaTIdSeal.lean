/- Derive (and Seal's numbers) as plain functions of the table's nodes: for a seat without ideal.Seal. -/
import Derived.Test.YtkmjdpnbakcgcaaTPuts
import Derived.Lib.ConvBytes
namespace Go.Proofs.Ytkmjdpnbakcgcaa.T
open Go Go.RowKit

def sealN (N : List Nd) (key : Int) (head : ByteArray) (content : Int) : Int × List Nd := makeN (textN N head).2 10 [key, (textN N head).1, content]
def deriveN (N : List Nd) (secret : Int) (label : ByteArray) (context : Int) : Int × List Nd :=
  if context = 0 then makeN (textN (textN N ByteArray.empty).2 label).2 6 [secret, (textN (textN N ByteArray.empty).2 label).1, (textN N ByteArray.empty).1]
  else makeN (textN N label).2 6 [secret, (textN N label).1, context]

/-- A string's bytes, as numbers. -/
def sbytes (s : ByteArray) : List Int := s.data.toList.map fun b => (b.toNat : Int)
theorem sbytes_len (s : ByteArray) : (sbytes s).length = s.size := by simp [sbytes]
theorem bstr_sbytes (s : ByteArray) : bstr (sbytes s) = s := by
  have key : ∀ (l : List UInt8) (r : ByteArray), (l.map (fun b => (b.toNat : Int))).foldl (fun r n => r.push (UInt8.ofNat n.toNat)) r = ⟨r.data ++ l.toArray⟩ := by
    intro l
    induction l with
    | nil => intro r; simp
    | cons b l ih =>
      intro r
      simp only [List.map_cons, List.foldl_cons]
      rw [ih]
      simp [ByteArray.push]
  unfold bstr sbytes
  rw [key]
  have e : (ByteArray.empty.data ++ s.data.toList.toArray) = s.data := by
    show (#[] : Array UInt8) ++ s.data.toList.toArray = s.data
    simp
  rw [e]
theorem conv_str (w : World) (s : ByteArray) (hs : s.size ≤ maxLen) : ∃ v w', (convert 9 22 (.string s)).run Try.prog w = .ok v w' ∧ Rd .u8 w' v (sbytes s) ∧ Below w.heap.size w w' := by
  have hr := Lib.run_convert_string_bytes (P := Try.prog) w 9 22 5 s Try.underlying9 Try.underlying22 Try.underlying5
  refine ⟨_, _, hr, ?_, ?_⟩
  · refine ⟨some ⟨w.heap.size, 0, none⟩, grownCap w s.size 0 5, by rw [sbytes_len], by rw [sbytes_len]; exact grownCap_ge _ _ _ _, grownCap_le_maxLen _ _ _ _ hs, (fun h => by cases h), fun a ha j hj => ?_⟩
    cases ha
    rw [sbytes_len] at hj
    rw [Addr.add_lit, Nat.zero_add, Lib.bytesWorld_cell w 5 s j hj]
    simp [sbytes, List.getD, hj]
  · exact ⟨rfl, rfl, rfl, by rw [Lib.bytesWorld_size]; omega, fun k hk => Lib.bytesWorld_at_old w 5 s k hk⟩
theorem empty_bstr : bstr [] = ByteArray.empty := rfl

end Go.Proofs.Ytkmjdpnbakcgcaa.T
