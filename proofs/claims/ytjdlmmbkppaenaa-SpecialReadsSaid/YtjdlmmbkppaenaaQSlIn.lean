/- A slice of bytes that came in reads as such, and can be cut. -/
import Derived.Test.YtjdlmmbkppaenaaQIn
import Derived.Test.YtjdlmmbkppaenaaQPList
namespace Go.Proofs.Ytjdlmmbkppaenaa
open Go.ChangeShapes Go.WideShapes Go.ChangeAt Go.RowKit

theorem bytes_in {W : World} {H : Type} {enc : TypeId × Value → H} {base : Nat} {sp : Nat → Bool} {held : Bool} {a : Option Addr} {len cap : Nat} {d : DataW H} {p : List MemPlace} (h : DataW.Trod enc Try.prog W base sp held 22 (.slice a len cap) d p) :
    ∃ zs, Rd W (.slice a len cap) zs ∧ Byt zs ∧ zs.length = len := by
  obtain ⟨fuel, hf⟩ := h
  obtain ⟨a', c', zs, hv, hr⟩ := rdb_in hf
  simp only [Value.slice.injEq] at hv
  obtain ⟨rfl, rfl, rfl⟩ := hv
  exact ⟨zs, hr, hr.byt, rfl⟩
set_option maxRecDepth 100000 in
theorem plain_in {W : World} {r : Reach} {b : Nat} {a : Option Addr} {len cap : Nat} (h : Value.okWide Try.prog W r b 22 (.slice a len cap)) : Plain (.slice a len cap) := by
  unfold Value.okWide at h
  rw [Try.underlying22] at h
  simp only [Cell.okWide, Try.underlying22, Cell.ok] at h
  cases a with
  | none =>
    split at h
    all_goals first
      | (rename_i e1 e2; cases e1; cases e2; exact .inl rfl)
      | (exfalso; simp_all; done)
  | some x =>
    obtain ⟨b, off, spot⟩ := x
    have hs : spot = none := h.2.2.2.1
    subst hs
    exact .inr ⟨_, _, _, _, rfl⟩
end Go.Proofs.Ytjdlmmbkppaenaa
