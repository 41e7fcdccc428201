/- Plain facts on the bytes of a number, the greatest first. -/
import Derived.Test.YtefcjggmlhoebaaDoorKit
import Derived.Laws.BitsAllLaws
namespace Go.Proofs.YtefcjggmlhoebaaDoor
open Go Go.RowKit

/-- The last j bytes of n, the greatest first. -/
def tl : Nat → Int → List Int
  | 0, _ => []
  | j + 1, n => (n / 256 ^ j) % 256 :: tl j n
theorem tl_len (j : Nat) (n : Int) : (tl j n).length = j := by induction j with | zero => rfl | succ j ih => simp [tl, ih]

/-- The logarithm of a size. -/
def lg (k : Nat) : Int := if k = 2 then 1 else if k = 4 then 2 else if k = 8 then 3 else 0
/-- The bytes of n in k bytes: in the first one's highest bits stands the logarithm of k. -/
def bts (k : Nat) (n : Int) : List Int := match tl k n with
  | [] => []
  | x :: r => (x + 64 * lg k) :: r
theorem bts_len (k : Nat) (n : Int) : (bts k n).length = k := by
  have := tl_len k n
  unfold bts
  split
  · simp_all
  · simp_all

theorem or_u8 (x c : Int) (hx : 0 ≤ x) (h : x < 64) (hc : c = 0 ∨ c = 64 ∨ c = 128 ∨ c = 192) : bits BinOp.or IntKind.u8 x c = x + c := by
  obtain ⟨m, rfl⟩ := Int.eq_ofNat_of_zero_le hx
  have hm : m < 64 := by omega
  have H : ∀ c ∈ [(0 : Int), 64, 128, 192], ∀ m : Fin 64, bits BinOp.or IntKind.u8 ((m.val : Nat) : Int) c = ((m.val : Nat) : Int) + c := by decide +kernel
  exact H c (by simp; omega) ⟨m, hm⟩

theorem set_tail (L : List Value) (p : Nat) (T : List Value) (x : Value) (h : p < L.length) : (L.take (p + 1) ++ T).set p x = L.take p ++ x :: T := by
  have e : L.take (p + 1) = L.take p ++ [L[p]] := by rw [List.take_succ_eq_append_getElem h]
  have hl : (L.take p).length = p := by simp; omega
  rw [e, List.append_assoc, List.set_append_right _ _ (by omega), hl, Nat.sub_self]
  rfl
theorem div_pow (n : Int) (j : Nat) : n / 256 ^ j / 256 = n / 256 ^ (j + 1) := by
  rw [Int.pow_succ, Int.ediv_ediv_of_nonneg (Int.le_of_lt (Int.pow_pos (by decide)))]
#print axioms or_u8
end Go.Proofs.YtefcjggmlhoebaaDoor
