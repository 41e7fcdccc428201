/- The document's own reader: what it holds, and what each of its methods does. -/
import Derived.Test.YtgnjmmaahpngpaaDoorHPure
import Derived.Test.YtgnjmmaahpngpaaDoorRefRead
import Derived.Deep.QuietTactic
import Derived.BigQuiet
import Derived.Laws.Cover3
namespace Go.Proofs.YtgnjmmaahpngpaaDoor
open Go Go.RowKit

theorem But.drewNs {B : Nat} {w w' : World} (h : But B w w') (n : Nat) : But B w (w'.drewN n) := ⟨h.os, h.tape, h.output, h.size, h.block⟩
theorem But.drewN2 {B : Nat} {w w' : World} {n : Nat} (h : But B (w.drewN n) w') : But B w w' := ⟨h.os, h.tape, h.output, h.size, h.block⟩

theorem rd_part {w : World} {ao : Option Addr} {cap : Nat} {zs : List Int} (h : Rd w (.slice ao zs.length cap) zs) (hp : Plain (.slice ao zs.length cap)) (t k : Nat) (ht : t + k ≤ zs.length) :
    Rd w (.slice (Option.map (fun x => x.add t) ao) k (cap - t)) ((zs.drop t).take k) ∧ Plain (.slice (Option.map (fun x => x.add t) ao) k (cap - t)) := by
  obtain ⟨ao', cap', e, h1, h2, h3, h4, h5⟩ := h
  simp only [Value.slice.injEq] at e
  obtain ⟨rfl, _, rfl⟩ := e
  have hl : ((zs.drop t).take k).length = k := by simp; omega
  rcases hp with hp | ⟨b, off, n', c', hp⟩
  · simp only [Value.slice.injEq] at hp
    obtain ⟨rfl, hz, rfl⟩ := hp
    have hk : k = 0 := by omega
    subst hk
    have ht0 : t = 0 := by omega
    subst ht0
    exact ⟨by simpa using Rd.nil w, .inl (by simp)⟩
  · simp only [Value.slice.injEq] at hp
    obtain ⟨rfl, _, _⟩ := hp
    have e : (⟨b, off, none⟩ : Addr).add t = ⟨b, off + t, none⟩ := Addr.add_lit _ _ _
    simp only [Option.map_some, e]
    refine ⟨⟨_, cap - t, by rw [hl], by omega, by omega, (fun h => by cases h), (h4.drop t).take k, fun a ha j hj => ?_⟩, .inr ⟨_, _, _, _, rfl⟩⟩
    cases ha
    rw [hl] at hj
    have := h5 _ rfl (t + j) (by omega)
    rw [Addr.add_lit] at this ⊢
    rw [show off + t + j = off + (t + j) from by omega, this]
    simp [List.getD, hj]
theorem rd_part0 {w : World} {ao : Option Addr} {cap : Nat} {zs : List Int} (h : Rd w (.slice ao zs.length cap) zs) (hp : Plain (.slice ao zs.length cap)) (t k : Nat) (ht : t + k ≤ zs.length) (hc : cap = t) :
    Rd w (.slice ao k 0) ((zs.drop t).take k) ∧ Plain (.slice ao k 0) := by
  obtain ⟨ao', cap', e, h1, h2, h3, h4, h5⟩ := h
  simp only [Value.slice.injEq] at e
  obtain ⟨rfl, _, rfl⟩ := e
  have hk : k = 0 := by omega
  subst hk
  rw [List.take_zero]
  refine ⟨⟨ao, 0, rfl, Nat.le_refl _, by omega, fun _ => rfl, Byt.nil, fun a _ j hj => by simp at hj⟩, ?_⟩
  rcases hp with hp | ⟨b, off, n', c', hp⟩
  · simp only [Value.slice.injEq] at hp
    obtain ⟨rfl, _⟩ := hp
    exact .inl rfl
  · simp only [Value.slice.injEq] at hp
    obtain ⟨rfl, _⟩ := hp
    exact .inr ⟨_, _, _, _, rfl⟩
theorem inBytes_len (n : Nat) (s : In) : (inBytes n s).1.length ≤ n := by
  unfold inBytes
  split
  · split
    · simp
    · simp; omega
  · simp
/-- What is left of a slice, whichever way it is cut. -/
theorem rd_rest {w : World} {ao : Option Addr} {cap : Nat} {zs : List Int} (h : Rd w (.slice ao zs.length cap) zs) (hp : Plain (.slice ao zs.length cap)) (t : Nat) (ht : t ≤ zs.length) (o : Option Addr) (ho : o = Option.map (fun x => x.add t) ao ∨ cap = t ∧ o = ao) :
    Rd w (.slice o (zs.length - t) (cap - t)) (zs.drop t) := by
  have hl : (zs.drop t).take (zs.length - t) = zs.drop t := List.take_of_length_le (by simp)
  rcases ho with rfl | ⟨hc, rfl⟩
  · have := (rd_part h hp t (zs.length - t) (by omega)).1
    rw [hl] at this; exact this
  · have := (rd_part0 h hp t (zs.length - t) (by omega) hc).1
    rw [hl] at this
    have e : cap - t = 0 := by omega
    rw [e]; exact this
end Go.Proofs.YtgnjmmaahpngpaaDoor
