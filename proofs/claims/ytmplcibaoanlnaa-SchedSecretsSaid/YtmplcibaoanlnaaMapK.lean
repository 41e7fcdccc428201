/- The keys of the table's map: each key of a number, a text and sixteen numbers is one that a map can hold; two keys are told apart. -/
import Derived.Test.YtmplcibaoanlnaaKit
import Derived.Test.YtmplcibaoanlnaaChecked
import Derived.Maps.OwnSet
import Derived.ProofKit
namespace Go.Proofs.Ytmplcibaoanlnaa
open Go Go.RowKit

theorem laidOut : laidOutB Try.prog = true := by kernel_rfl
theorem nTypes : Try.prog.types.size = (Try.prog.types.size - 2) + 1 + 1 := by kernel_rfl
theorem keyed : Go.Maps.Keyed Try.prog 64 := Go.Maps.Keyed.of_law (deep_law_laid laidOut (m := 5) (by decide) (of_decide_eq_true (by kernel_rfl)) (by kernel_rfl) (by kernel_rfl))
theorem cells71 : Try.prog.cellsOf 64 = 18 := by kernel_rfl
theorem cells69 : Try.prog.cellsOf 62 = 16 := by kernel_rfl
theorem cells32 : Try.prog.cellsOf 26 = 1 := by kernel_rfl
theorem cells3 : Try.prog.cellsOf 3 = 1 := by kernel_rfl
theorem cells9 : Try.prog.cellsOf 9 = 1 := by kernel_rfl
theorem isKey71 : Try.prog.keyType 64 = true := by kernel_rfl

theorem lits_int (d : Nat) (t : TypeId) (h : Try.prog.underlying t = some (.int .i64)) (n : Int) (hn : (Lit.int .i64 n).wf = true) : Try.prog.keyLits (d + 1) t [.int .i64 n] = some [.int .i64 n] := by
  unfold Program.keyLits
  simp [h, hn]
theorem lits_str (d : Nat) (s : ByteArray) (hs : s.size ≤ maxLen) : Try.prog.keyLits (d + 1) 9 [.string s] = some [.string s.data.toList] := by
  unfold Program.keyLits
  simp [Try.underlying9, hs]

theorem mapM_some {α β : Type} (f : α → Option β) (l : List α) (h : ∀ a ∈ l, ∃ b, f a = some b) : ∃ r, l.mapM f = some r := by
  induction l with
  | nil => exact ⟨[], rfl⟩
  | cons a l ih =>
    obtain ⟨b, hb⟩ := h a (by simp)
    obtain ⟨r, hr⟩ := ih (fun a ha => h a (by simp [ha]))
    exact ⟨b :: r, by simp [List.mapM_cons, hb, hr]⟩

theorem lits_arr (d : Nat) (ps : List Int) (hl : ps.length = 16) (hp : ∀ p ∈ ps, (Lit.int .i64 p).wf = true) : ∃ l, Try.prog.keyLits (d + 1 + 1) 62 (cs .i64 ps) = some l := by
  unfold Program.keyLits
  simp only [Try.underlying62, cells69, cells32, Nat.mul_one]
  rw [if_pos (by rw [cs_len]; exact hl)]
  obtain ⟨r, hr⟩ := mapM_some (fun i => Try.prog.keyLits (d + 1) 26 (((cs .i64 ps).drop i).take 1)) (List.range 16) (by
    intro i hi
    have hi' : i < ps.length := by rw [hl]; exact List.mem_range.1 hi
    have e : ((cs .i64 ps).drop i).take 1 = [.int .i64 ps[i]] := by
      unfold cs
      rw [← List.map_drop, ← List.map_take, List.drop_eq_getElem_cons hi']
      rfl
    rw [e]
    exact ⟨_, lits_int d 26 Try.underlying26 _ (hp _ (List.getElem_mem hi'))⟩)
  exact ⟨_, by rw [hr]; rfl⟩

/-- The key of a kind, a text, and sixteen numbers. -/
def kval (k : Int) (s : ByteArray) (ps : List Int) : Value := .agg (.int .i64 k :: .string s :: cs .i64 ps).toArray
theorem keyOf_kval (k : Int) (s : ByteArray) (ps : List Int) (hk : (Lit.int .i64 k).wf = true) (hs : s.size ≤ maxLen) (hl : ps.length = 16) (hp : ∀ p ∈ ps, (Lit.int .i64 p).wf = true) : ∃ l, keyOf Try.prog 64 (kval k s ps) = some l := by
  obtain ⟨l, ha⟩ := lits_arr (Try.prog.types.size - 2) ps hl hp
  have hf : (kval k s ps).formed Try.prog 64 = true := by simp [kval, Value.formed, Try.underlying64, cells71, cs_len, hl]
  have hlits : ∃ r, Try.prog.keyLits (Try.prog.types.size + 1) 64 (kval k s ps).cells.toList = some r := by
    rw [show Try.prog.types.size + 1 = (Try.prog.types.size - 2) + 1 + 1 + 1 by kernel_rfl]
    unfold Program.keyLits
    simp only [Try.underlying64]
    have hlen : (kval k s ps).cells.toList.length = Try.prog.cellsOf 64 := by simp [kval, Value.cells, cells71, cs_len, hl]
    rw [if_pos ⟨hlen, by kernel_rfl⟩]
    have h1 := lits_int (Try.prog.types.size - 2 + 1) 3 Try.underlying3 k hk
    have h2 := lits_str (Try.prog.types.size - 2 + 1) s hs
    have h3 : (cs .i64 ps).take 16 = cs .i64 ps := List.take_of_length_le (by rw [cs_len, hl]; exact Nat.le_refl _)
    simp only [List.mapM_cons, List.mapM_nil, kval, Value.cells, cells3, cells9, cells69, List.drop_zero, List.drop_succ_cons, List.take_succ_cons, List.take_zero, h1, h2, h3, ha]
    exact ⟨_, rfl⟩
  obtain ⟨r, hr⟩ := hlits
  refine ⟨.string (keyBytes r), ?_⟩
  unfold keyOf
  simp only [Try.underlying64, isKey71, hf, hr, Bool.and_self, if_true, Option.map_some]
#print axioms keyOf_kval
end Go.Proofs.Ytmplcibaoanlnaa
