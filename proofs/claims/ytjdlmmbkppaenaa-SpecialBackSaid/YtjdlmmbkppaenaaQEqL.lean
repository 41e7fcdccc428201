/- special: what bytes are as a list of versions, by what the program cuts off and by what the document's start tells: the same. -/
import Derived.Test.YtjdlmmbkppaenaaQSame
namespace Go.Proofs.Ytjdlmmbkppaenaa
open Go Go.RowKit

/-- So many versions from a place on. -/
def versAt (zs : List Int) (e k : Nat) : List Int := (List.range k).map fun i => say4 (cutZ zs (e + 4 * i) 4)
theorem versAt_len (zs : List Int) (e k : Nat) : (versAt zs e k).length = k := by simp [versAt]
theorem versAt_succ (zs : List Int) (e k : Nat) : versAt zs e (k + 1) = versAt zs e k ++ [say4 (cutZ zs (e + 4 * k) 4)] := by simp [versAt, List.range_succ]
/-- How many versions the program cuts off: as long as bytes are left, at most 16. -/
def cuts (zs : List Int) (e : Nat) : Nat := min 16 ((zs.length - e + 3) / 4)
/-- Is it a list, by what the program cuts off? -/
def plB (zs : List Int) (e : Nat) (x ver : Int) (to fr : List Int) : Bool := decide (zs.length = e + 4 * cuts zs e) && (x == 128) && (ver == 0) && listB to fr (versAt zs e (cuts zs e))
/-- The versions that the document reads out of what stands behind. -/
def versOf (r : List Int) (k : Nat) : List Int := (List.range k).map fun i => say4 ((r.drop (4 * i)).take 4)
/-- Is it a list, by what the document's start tells? -/
def dlB (s : Int × List Int × List Int × List Int × Bool) : Bool :=
  s.2.2.2.2 && (s.1 == 0) && decide (0 < s.2.2.2.1.length) && (s.2.2.2.1.length % 4 == 0) && decide (s.2.2.2.1.length ≤ 64) && (versOf s.2.2.2.1 (s.2.2.2.1.length / 4)).all fun n => !(n == 0)
theorem all_ver {zs : List Int} (hb : Byt zs) (e k : Nat) : (versAt zs e k).all verB = (versAt zs e k).all fun n => !(n == 0) := by
  unfold versAt
  rw [List.all_map, List.all_map]
  congr 1
  funext i
  exact ver_eq (say4_bd hb _)
theorem vers_eq {zs : List Int} {e k : Nat} (h : e + 4 * k ≤ zs.length) : versOf (zs.drop e) k = versAt zs e k := by
  unfold versOf versAt
  refine List.map_congr_left fun i hi => ?_
  have := List.mem_range.1 hi
  rw [cutZ_in (by omega), List.drop_drop]
theorem list_eq {zs : List Int} (hb : Byt zs) {x y z : Int} {e : Nat} (hx : cutZ zs 0 1 = [x]) (hy : cutZ zs 5 1 = [y]) (hz : cutZ zs (6 + y.toNat) 1 = [z]) (he : 7 + y.toNat + z.toNat = e) (s : Int × List Int × List Int × List Int × Bool) (hs : startP zs 128 = s) :
    dlB s = plB zs e x (say4 (cutZ zs 1 4)) (cutZ zs 6 y.toNat) (cutZ zs (7 + y.toNat) z.toNat) ∧
    (dlB s = true → s.2.1 = cutZ zs 6 y.toNat ∧ s.2.2.1 = cutZ zs (7 + y.toNat) z.toNat ∧ versOf s.2.2.2.1 (s.2.2.2.1.length / 4) = versAt zs e (cuts zs e)) := by
  by_cases hC : x = 128 ∧ y ≤ 20 ∧ z ≤ 20 ∧ 7 + y.toNat + z.toNat ≤ zs.length
  · obtain ⟨rfl, hy20, hz20, hle⟩ := hC
    rw [start_yes hx hy hz hle hy20 hz20, he] at hs
    subst hs
    rw [he] at hle
    have hr : (zs.drop e).length = zs.length - e := by simp
    by_cases hl : zs.length = e + 4 * cuts zs e
    · have hk : (zs.length - e) / 4 = cuts zs e := by omega
      have hk16 : cuts zs e ≤ 16 := by unfold cuts; omega
      have hv := vers_eq (zs := zs) (e := e) (k := cuts zs e) (by omega)
      simp only [dlB, hr, hk, hv]
      refine ⟨?_, fun _ => by simp⟩
      unfold plB listB
      rw [all_ver hb, versAt_len, cutZ_len, cutZ_len, decide_eq_true hl, decide_eq_true hk16, decide_eq_true (show y.toNat ≤ 20 by omega), decide_eq_true (show z.toNat ≤ 20 by omega), show ((zs.length - e) % 4 == 0) = true by simp; omega, decide_eq_true (show zs.length - e ≤ 64 by omega), show decide (0 < zs.length - e) = decide (1 ≤ cuts zs e) by congr 1; apply propext; omega]
      simp [Bool.and_assoc]
    · have h8 : ((zs.length - e) % 4 == 0 && decide (zs.length - e ≤ 64)) = false := by
        rw [Bool.and_eq_false_iff]
        by_cases h6 : zs.length - e ≤ 64
        · left
          rw [beq_eq_false_iff_ne]
          intro h4
          exact hl (by unfold cuts; omega)
        · right
          exact decide_eq_false h6
      have hd : dlB (say4 (cutZ zs 1 4), cutZ zs 6 y.toNat, cutZ zs (7 + y.toNat) z.toNat, zs.drop e, true) = false := by
        simp only [dlB, hr]
        rw [Bool.and_assoc (_ && _) ((zs.length - e) % 4 == 0), h8]
        simp
      rw [hd]
      refine ⟨?_, fun h => by cases h⟩
      unfold plB
      rw [decide_eq_false hl]; rfl
  · have hk := start_no' (f := 128) hx hy hz hC
    rw [hs] at hk
    have hd : dlB s = false := by unfold dlB; rw [hk]; rfl
    rw [hd]
    refine ⟨?_, fun h => by cases h⟩
    cases hp : plB zs e x (say4 (cutZ zs 1 4)) (cutZ zs 6 y.toNat) (cutZ zs (7 + y.toNat) z.toNat) with
    | false => rfl
    | true =>
      exfalso
      unfold plB listB at hp
      simp only [Bool.and_eq_true, decide_eq_true_eq, beq_iff_eq, cutZ_len] at hp
      obtain ⟨⟨⟨h1, h2⟩, _⟩, ⟨⟨⟨h3, h4⟩, _⟩, _⟩, _⟩ := hp
      exact hC ⟨h2, by omega, by omega, by omega⟩
end Go.Proofs.Ytjdlmmbkppaenaa
