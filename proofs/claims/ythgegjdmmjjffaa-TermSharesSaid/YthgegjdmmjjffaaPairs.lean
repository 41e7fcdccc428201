/- The numbers and the nodes that TermShares' loops make. -/
import Derived.Test.YthgegjdmmjjffaaAwake
namespace Go.Proofs.Ythgegjdmmjjffaa
open Go Go.RowKit

def alt (i : Nat) : List Nd := (List.range i).flatMap fun q : Nat => [nS, nd 7 [2 * (q : Int) + 1]]
def secs (i : Nat) : List Int := (List.range i).map fun q : Nat => 2 * (q : Int) + 1
def pubs (i : Nat) : List Int := (List.range i).map fun q : Nat => 2 * (q : Int) + 2
def shr (i j : Nat) : List Nd := ((List.range i).flatMap fun a : Nat => (List.range (a + 1)).map fun b : Nat => nd 8 [2 * (b : Int) + 1, 2 * (a : Int) + 1]) ++ (List.range j).map fun b : Nat => nd 8 [2 * (b : Int) + 1, 2 * (i : Int) + 1]
def sn (c m : Nat) : List Int := (List.range m).map fun q : Nat => (c : Int) + q + 1

theorem alt_succ (i : Nat) : alt (i + 1) = alt i ++ [nS] ++ [nd 7 [2 * (i : Int) + 1]] := by
  simp [alt, List.range_succ]
theorem secs_succ (i : Nat) : secs (i + 1) = secs i ++ [2 * (i : Int) + 1] := by simp [secs, List.range_succ]
theorem pubs_succ (i : Nat) : pubs (i + 1) = pubs i ++ [2 * (i : Int) + 2] := by simp [pubs, List.range_succ]
theorem sn_succ (c m : Nat) : sn c (m + 1) = sn c m ++ [(c : Int) + m + 1] := by simp [sn, List.range_succ]
theorem shr_right (i j : Nat) : shr i (j + 1) = shr i j ++ [nd 8 [2 * (j : Int) + 1, 2 * (i : Int) + 1]] := by
  simp [shr, List.range_succ]
theorem shr_down (i : Nat) : shr (i + 1) 0 = shr i (i + 1) := by
  simp [shr, List.range_succ]
theorem alt_len (i : Nat) : (alt i).length = 2 * i := by
  induction i with
  | zero => rfl
  | succ i ih => rw [alt_succ]; simp [ih]; omega
theorem secs_len (i : Nat) : (secs i).length = i := by simp [secs]
theorem pubs_len (i : Nat) : (pubs i).length = i := by simp [pubs]
theorem sn_len (c m : Nat) : (sn c m).length = m := by simp [sn]
theorem secs_get (i q : Nat) (h : q < i) : (secs i).getD q 0 = 2 * (q : Int) + 1 := by simp [secs, h]
theorem pubs_get (i q : Nat) (h : q < i) : (pubs i).getD q 0 = 2 * (q : Int) + 2 := by simp [pubs, h]
theorem sn_get (c m q : Nat) (h : q < m) : (sn c m).getD q 0 = (c : Int) + q + 1 := by simp [sn, h]

theorem pub_new : ∀ i, i < 7 → fitsN (alt i ++ [nS]) 7 [2 * (i : Int) + 1] = true ∧ idxN 1 (alt i ++ [nS]) (7, ByteArray.empty, [2 * (i : Int) + 1]) = none := by decide +kernel
theorem shr_new : ∀ k, k < 8 → ∀ i, i < k → ∀ j, j < i + 1 → fitsN (alt k ++ shr i j) 8 [2 * (i : Int) + 1, 2 * (j : Int) + 2] = true ∧ mkN (alt k ++ shr i j) 8 [2 * (i : Int) + 1, 2 * (j : Int) + 2] = [2 * (j : Int) + 1, 2 * (i : Int) + 1] ∧ idxN 1 (alt k ++ shr i j) (8, ByteArray.empty, [2 * (j : Int) + 1, 2 * (i : Int) + 1]) = none := by decide +kernel
theorem shr_old : ∀ k, k < 8 → ∀ i, i < k → ∀ j, j < i + 1 → fitsN (alt k ++ shr i (j + 1)) 8 [2 * (j : Int) + 1, 2 * (i : Int) + 2] = true ∧ mkN (alt k ++ shr i (j + 1)) 8 [2 * (j : Int) + 1, 2 * (i : Int) + 2] = [2 * (j : Int) + 1, 2 * (i : Int) + 1] ∧ idxN 1 (alt k ++ shr i (j + 1)) (8, ByteArray.empty, [2 * (j : Int) + 1, 2 * (i : Int) + 1]) = some ((((alt k ++ shr i j).length : Nat) : Int) + 1) := by decide +kernel
theorem shr_len : ∀ k, k < 8 → ∀ i, i < k → ∀ j, j < i + 2 → (shr i j).length < 100 := by decide +kernel
#print axioms shr_old
end Go.Proofs.Ythgegjdmmjjffaa
