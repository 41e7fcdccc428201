/- Text tells the number of a text; 0 of one that is too long, and where there is no table. -/
import Derived.Test.YtmplcibaoanlnaaNumber
import Derived.Laws.BytesString
namespace Go.Proofs.Ytmplcibaoanlnaa
open Go Go.RowKit

/-- The string of bytes. -/
def bstr (zs : List Int) : ByteArray := zs.foldl (fun r n => r.push (UInt8.ofNat n.toNat)) ByteArray.empty
theorem bstr_size (zs : List Int) : (bstr zs).size = zs.length := by
  have : ∀ (zs : List Int) (r : ByteArray), (zs.foldl (fun r n => r.push (UInt8.ofNat n.toNat)) r).size = r.size + zs.length := by
    intro zs
    induction zs with
    | nil => intro r; rfl
    | cons z zs ih => intro r; simp only [List.foldl_cons]; rw [ih]; simp [ByteArray.size_push]; omega
  have h := this zs ByteArray.empty
  simpa [bstr] using h
theorem conv_any {w : World} {v : Value} {zs : List Int} (h : Rd .u8 w v zs) : (convert 22 9 v).run Try.prog w = .ok (.string (bstr zs)) w := by
  obtain ⟨ao, cap, rfl, h1, _, h3, hc⟩ := h
  rw [run_convert_bytes_string w 22 9 5 ao _ cap Try.underlying22 Try.underlying5 Try.underlying9]
  cases ao with
  | none =>
    have hcap := h3 rfl
    have hz : zs = [] := List.eq_nil_of_length_eq_zero (by omega)
    subst hz; subst hcap
    simp [Conv.bytesToString, bstr]
  | some a =>
    have hl := run_loadCells_list (P := Try.prog) w a (cs .u8 zs) (fun j u hj => by
      have hj' : j < zs.length := by
        have := (List.getElem?_eq_some_iff.1 hj).1
        simpa [cs_len] using this
      rw [cs_get .u8 zs j hj'] at hj
      cases hj
      exact hc a rfl j hj')
    rw [cs_len] at hl
    rw [run_bytesToString w a zs.length cap zs hl]
    rfl

set_option maxRecDepth 20000 in
theorem text_nil {w : World} {ao : Option Addr} {n cap : Nat} : Calls Try.prog 19 #[.pointer none, .slice ao n cap] w fun e w' => e = .returned (.int .i64 0) ∧ w = w' := by
  go_enter Try.func19, Try.ntmps19
  go_wp2
  go_ret
  exact ⟨rfl, rfl⟩
set_option maxRecDepth 20000 in
theorem text_long {w : World} {tb : Nat} {ao : Option Addr} {n cap : Nat} (hn : 2048 < n) : Calls Try.prog 19 #[.pointer (some ⟨tb, 0, none⟩), .slice ao n cap] w fun e w' => e = .returned (.int .i64 0) ∧ w = w' := by
  have hn' : (2048 : Int) < (n : Int) := by omega
  clear hn
  go_enter Try.func19, Try.ntmps19
  go_wp2
  go_ret
  exact ⟨rfl, rfl⟩
set_option maxHeartbeats 1000000 in
set_option maxRecDepth 20000 in
theorem text_any {w : World} {B tb mb : Nat} {nv : Value} {L : List (Nd × Value)} (h : Tbl w B tb mb nv L (idx L)) {vb : Value} {zb : List Int} (hb : Rd .u8 w vb zb) (hl : zb.length ≤ 2048) (hroom : L.length < 65536) :
    Calls Try.prog 19 #[.pointer (some ⟨tb, 0, none⟩), vb] w fun e w' => Numbered w B tb mb nv L ((1, bstr zb, []), .slice none 0 0) (idx L 1 (bstr zb) (pad [])) e w' := by
  have hN := number_any h 1 (bstr zb) [] (.slice none 0 0) ⟨wf_small 1 (by decide) (by decide), (by rw [bstr_size]; unfold maxLen; omega), Nat.zero_le _, (fun p hp => by cases hp), (fun h => by cases h)⟩ (by decide) (World.ownsRow_nil _ _ _ _) hroom
  have hconv := conv_any hb
  obtain ⟨ao, cap, rfl, _⟩ := hb
  have hn' : ¬ (2048 : Int) < (zb.length : Int) := by omega
  have HL := Lib.hid hl
  have HR := Lib.hid hroom
  clear hl hroom h
  go_enter Try.func19, Try.ntmps19
  go_wp2_with fail
  refine hN.mono ?_
  intro e w1 hn1
  have HN1 := Lib.hid hn1
  unfold Numbered at hn1
  cases hC : idx L 1 (bstr zb) (pad []) with
  | some c =>
    rw [hC] at hn1
    have HC := Lib.hid hC
    clear hC
    obtain ⟨rfl, hb1⟩ := hn1
    go_wp2_with fail
    go_ret
    rw [HC.out] at HN1 ⊢
    exact HN1.out
  | none =>
    rw [hC] at hn1
    have HC := Lib.hid hC
    clear hC
    obtain ⟨rfl, hb1⟩ := hn1
    have HB1 := Lib.hid hb1
    clear hb1
    go_wp2_with fail
    go_ret
    rw [HC.out] at HN1 ⊢
    exact HN1.out
#print axioms text_any
end Go.Proofs.Ytmplcibaoanlnaa
