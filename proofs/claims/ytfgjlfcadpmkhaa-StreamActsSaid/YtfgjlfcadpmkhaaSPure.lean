/- Plain: the message that bytes begin with; the messages of which bytes consist. -/
import Derived.Test.YtfgjlfcadpmkhaaSBase
namespace Go.Proofs.Ytfgjlfcadpmkhaa
open Go Go.RowKit

/-- The length that a message's head tells. -/
def headN (zs : List Int) : Nat := (65536 * zs.getD 1 0 + 256 * zs.getD 2 0 + zs.getD 3 0).toNat
/-- What is wrong with the message that bytes begin with; 0: nothing. -/
def firstE (zs : List Int) : Int := if zs.length < 4 then 2 else if 2000 < headN zs then 4 else if zs.length < headN zs + 4 then 2 else 0
theorem headN_eq {zs : List Int} (hz : Byt zs) : (headN zs : Int) = 65536 * zs.getD 1 0 + 256 * zs.getD 2 0 + zs.getD 3 0 := by
  have h1 := hz.get 1
  have h2 := hz.get 2
  have h3 := hz.get 3
  unfold headN
  omega
/-- The messages of bytes; an error's number. -/
def msgF : Nat → List Int → List (List Int) × Int
  | 0, _ => ([], 0)
  | n + 1, zs =>
    if zs = [] then ([], 0)
    else if firstE zs = 0 then (zs.take (headN zs + 4) :: (msgF n (zs.drop (headN zs + 4))).1, (msgF n (zs.drop (headN zs + 4))).2)
    else ([], firstE zs)
theorem msgF_fuel : ∀ (n m : Nat) (zs : List Int), zs.length ≤ n → zs.length ≤ m → msgF n zs = msgF m zs := by
  intro n
  induction n with
  | zero =>
    intro m zs hn _
    have : zs = [] := List.eq_nil_of_length_eq_zero (by omega)
    subst this
    cases m with
    | zero => rfl
    | succ m => simp [msgF]
  | succ n ih =>
    intro m zs hn hm
    cases m with
    | zero =>
      have : zs = [] := List.eq_nil_of_length_eq_zero (by omega)
      subst this
      simp [msgF]
    | succ m =>
      simp only [msgF]
      by_cases hz : zs = []
      · rw [if_pos hz, if_pos hz]
      · rw [if_neg hz, if_neg hz]
        by_cases he : firstE zs = 0
        · rw [if_pos he, if_pos he, ih m (zs.drop (headN zs + 4)) (by simp; omega) (by simp; omega)]
        · rw [if_neg he, if_neg he]
def msgP (zs : List Int) : List (List Int) × Int := msgF zs.length zs
theorem msgP_nil : msgP [] = ([], 0) := rfl
theorem msgP_err {zs : List Int} (hz : zs ≠ []) (he : firstE zs ≠ 0) : msgP zs = ([], firstE zs) := by
  unfold msgP
  cases hl : zs.length with
  | zero => exact absurd (List.eq_nil_of_length_eq_zero hl) hz
  | succ n => simp only [msgF]; rw [if_neg hz, if_neg he]
theorem msgP_ok {zs : List Int} (hz : zs ≠ []) (he : firstE zs = 0) : msgP zs = (zs.take (headN zs + 4) :: (msgP (zs.drop (headN zs + 4))).1, (msgP (zs.drop (headN zs + 4))).2) := by
  unfold msgP
  cases hl : zs.length with
  | zero => exact absurd (List.eq_nil_of_length_eq_zero hl) hz
  | succ n =>
    simp only [msgF]
    rw [if_neg hz, if_pos he, msgF_fuel n (zs.drop (headN zs + 4)).length (zs.drop (headN zs + 4)) (by simp; omega) (Nat.le_refl _)]
theorem first_ok {zs : List Int} (he : firstE zs = 0) : 4 ≤ zs.length ∧ headN zs ≤ 2000 ∧ headN zs + 4 ≤ zs.length := by
  unfold firstE at he
  by_cases h1 : zs.length < 4
  · rw [if_pos h1] at he; cases he
  · rw [if_neg h1] at he
    by_cases h2 : 2000 < headN zs
    · rw [if_pos h2] at he; cases he
    · rw [if_neg h2] at he
      by_cases h3 : zs.length < headN zs + 4
      · rw [if_pos h3] at he; cases he
      · omega
end Go.Proofs.Ytfgjlfcadpmkhaa
