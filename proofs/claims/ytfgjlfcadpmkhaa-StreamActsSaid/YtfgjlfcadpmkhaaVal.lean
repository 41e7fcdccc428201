/- Small facts that bytes' texts lean on, for a seat that has no numbers of layer 1. -/
import Derived.Test.YtfgjlfcadpmkhaaKit
import Derived.Test.YtfgjlfcadpmkhaaChecked
import Derived.WalkSpells
import Derived.WalkLawsBesides
import Derived.Outline
import Derived.Lib.Hide
namespace Go.Proofs.Ytfgjlfcadpmkhaa
open Go Go.RowKit

theorem info5 : (Try.prog.info? 5).map (fun i => (i.zero, i.size, i.bytes)) = some (some (.int .u8 0), 1, 1) := by kernel_rfl
theorem byt_of {zs : List Int} (h : zs.all (fun z => decide (0 ≤ z) && decide (z ≤ 255)) = true) : Byt zs := fun z hz => by
  have := List.all_eq_true.1 h z hz
  simpa using this
theorem below_alloc (w : World) (o : Obj) : Below w.heap.size w (w.alloc o) := (Below.refl _ _).alloc (Nat.le_refl _) o
theorem Rd.take {w : World} {ao : Option Addr} {n cap : Nat} {zs : List Int} (h : Rd w (.slice ao n cap) zs) (k : Nat) (hk : k ≤ zs.length) : Rd w (.slice ao k cap) (zs.take k) := by
  obtain ⟨ao', cap', hv, h1, h2, h3, h4, hc⟩ := h
  simp only [Value.slice.injEq] at hv
  obtain ⟨rfl, rfl, rfl⟩ := hv
  have hl : (zs.take k).length = k := by simp; omega
  refine ⟨ao, cap, by rw [hl], by omega, h2, h3, h4.take k, fun a ha j hj => ?_⟩
  rw [hl] at hj
  rw [hc a ha j (by omega)]
  simp [List.getD, hj]

end Go.Proofs.Ytfgjlfcadpmkhaa
