/- stream.first: the message with which bytes begin, in their memory. -/
import Derived.Test.YtfgjlfcadpmkhaaSPure
import Derived.Deep.QuietTactic
import Derived.BigQuiet
import Derived.IntWalk
namespace Go.Proofs.Ytfgjlfcadpmkhaa
open Go Go.RowKit

theorem below_drewN (w : World) : ∀ n, Below w.heap.size w (w.drewN n)
  | 0 => Below.refl _ _
  | n + 1 => (below_drewN w n).drew
theorem or_add (i a b : Nat) (hb : b < 2 ^ i) (h : 2 ^ i * a + b < 9223372036854775808) : bits .or .i64 ((2 ^ i * a : Nat) : Int) (b : Int) = ((2 ^ i * a + b : Nat) : Int) := by
  have h1 : 2 ^ i * a < 18446744073709551616 := by omega
  have h2 : b < 18446744073709551616 := by omega
  have e : (2 ^ i * a ||| b) = 2 ^ i * a + b := (Nat.two_pow_add_eq_or_of_lt hb a).symm
  show IntKind.i64.wrap (((BitVec.ofInt 64 ((2 ^ i * a : Nat) : Int)) ||| (BitVec.ofInt 64 (b : Int))).toNat : Int) = _
  simp only [BitVec.ofInt_natCast, BitVec.toNat_or, BitVec.toNat_ofNat]
  rw [Nat.mod_eq_of_lt h1, Nat.mod_eq_of_lt h2, e]
  generalize 2 ^ i * a + b = m at *
  exact IntWalk.i64_in (m : Int) ⟨by omega, by omega⟩
theorem or3 {z1 z2 z3 : Int} (h1 : 0 ≤ z1 ∧ z1 ≤ 255) (h2 : 0 ≤ z2 ∧ z2 ≤ 255) (h3 : 0 ≤ z3 ∧ z3 ≤ 255) : bits .or .i64 (bits .or .i64 (z1 * 65536) (z2 * 256)) z3 = 65536 * z1 + 256 * z2 + z3 := by
  obtain ⟨a, rfl⟩ := Int.eq_ofNat_of_zero_le h1.1
  obtain ⟨b, rfl⟩ := Int.eq_ofNat_of_zero_le h2.1
  obtain ⟨c, rfl⟩ := Int.eq_ofNat_of_zero_le h3.1
  have e1 := or_add 16 a (256 * b) (by omega) (by omega)
  have e2 := or_add 8 (256 * a + b) c (by omega) (by omega)
  rw [show ((a : Int) * 65536) = ((2 ^ 16 * a : Nat) : Int) by omega, show ((b : Int) * 256) = ((256 * b : Nat) : Int) by omega, e1, show (2 ^ 16 * a + 256 * b) = 2 ^ 8 * (256 * a + b) by omega, e2]
  omega
theorem slice3 {ao : Option Addr} {n cap h : Nat} (hh : h ≤ cap) (hp : Plain (.slice ao n cap)) (wx : World) :
    (Instr.slice 29 (.slice ao n cap) none (some (.int .i64 h)) (some (.int .i64 h))).run Try.prog wx = .ok (.slice ao h h) wx := by
  rw [run_slice_any _ _ _ _ _ elem_bytes]
  have hb : (Instr.sliceBounds true n cap none (some (.int .i64 h)) (some (.int .i64 h))).run Try.prog wx = .ok (0, h, h) wx := by
    simp [Instr.sliceBounds, run_sliceBound, hh, go_sem]
  rw [hb]
  simp only [Result.andThen, size_elem, sliced, Nat.sub_zero]
  congr 2
  rcases hp with e | ⟨b, off, _, _, e⟩
  · simp only [Value.slice.injEq] at e
    obtain ⟨rfl, _, _⟩ := e
    simp
  · simp only [Value.slice.injEq] at e
    obtain ⟨rfl, _, _⟩ := e
    by_cases h0 : h = 0
    · rw [if_pos h0]
    · rw [if_neg h0]; simp [Addr.add_lit]
theorem Rd.front {w : World} {ao : Option Addr} {cap : Nat} {zs : List Int} (hr : Rd w (.slice ao zs.length cap) zs) (h : Nat) (hh : h ≤ zs.length) (hpos : 0 < h) : Rd w (.slice ao h h) (zs.take h) := by
  obtain ⟨ao', cap', e, c1, c2, c3, c4, c5⟩ := hr
  simp only [Value.slice.injEq] at e
  obtain ⟨rfl, _, rfl⟩ := e
  have hl : (zs.take h).length = h := by simp; omega
  refine ⟨ao, h, by rw [hl], by omega, by omega, fun e => ?_, c4.take h, fun a ha j hj => ?_⟩
  · have := c3 e; omega
  · rw [hl] at hj
    rw [c5 a ha j (by omega)]
    simp [List.getD, hj]
theorem Plain.front {ao : Option Addr} {n cap : Nat} (hp : Plain (.slice ao n cap)) (h : Nat) (hc : 0 < cap) : Plain (.slice ao h h) := by
  rcases hp with e | ⟨b, off, _, _, e⟩
  · simp only [Value.slice.injEq] at e; omega
  · simp only [Value.slice.injEq] at e
    obtain ⟨rfl, _, _⟩ := e
    exact .inr ⟨_, _, _, _, rfl⟩
/-- A row of bytes does not lie in a block that holds one thing that is no byte. -/
theorem Rd.off {w : World} {v : Value} {zs : List Int} {g : Nat} {x : Value} {t : TypeId} {fr : Nat × Nat} (h : Rd w v zs) (hg : w.heap[g]? = some (.cells #[x] t fr)) (hx : ∀ z, x ≠ .int .u8 z) : Fa g v zs := by
  obtain ⟨ao, cap, hv, _, _, _, _, hc⟩ := h
  intro a n c e hz hb
  rw [e] at hv
  cases hv
  have h0 := hc a rfl 0 (List.length_pos_iff.2 hz)
  obtain ⟨b, off, spot⟩ := a
  have hs : spot = none := by simpa [Addr.add] using World.cell?_spot h0
  subst hs
  simp only at hb
  subst hb
  rw [Addr.add_lit, cell_of_row w b _ _ t fr hg] at h0
  have : off + 0 = 0 := by
    by_cases h : off + 0 = 0
    · exact h
    · rw [Array.getElem?_eq_none (by simp; omega)] at h0; cases h0
  rw [this] at h0
  simp at h0
  exact hx _ h0
set_option maxRecDepth 20000 in
set_option maxHeartbeats 2000000 in
theorem first_any {w : World} {ao : Option Addr} {cap : Nat} {zs : List Int} (hr : Rd w (.slice ao zs.length cap) zs) (hp : Plain (.slice ao zs.length cap)) :
    Calls Try.prog 11 #[.slice ao zs.length cap] w fun e w' => Below w.heap.size w w' ∧
      (firstE zs ≠ 0 ∧ e = .returned (.tuple #[.slice none 0 0, .int .i64 (firstE zs)]) ∨
       firstE zs = 0 ∧ e = .returned (.tuple #[.slice ao (headN zs + 4) (headN zs + 4), .int .i64 0])) := by
  have hl := hr.len
  by_cases h4 : zs.length < 4
  · have he : firstE zs = 2 := by simp [firstE, h4]
    have hd : decide ((zs.length : Int) < 4) = true := decide_eq_true (by omega)
    clear hr hp
    go_enter Try.func11, Try.ntmps11
    go_wp2_with fail
    go_ret2
    exact ⟨Below.refl _ _, .inl ⟨by rw [he]; decide, by rw [he]; rfl⟩⟩
  · have hd : decide ((zs.length : Int) < 4) = false := decide_eq_false (by omega)
    rcases hr.cases with ⟨rfl, _⟩ | ⟨b, off, cap', e, hpos, hlc, hcm, hbl, hcell⟩
    · simp at h4
    simp only [Value.slice.injEq] at e
    obtain ⟨rfl, _, rfl⟩ := e
    have c1 := hcell 1 (by omega)
    have c2 := hcell 2 (by omega)
    have c3 := hcell 3 (by omega)
    have b1 := hr.byt.get 1
    have b2 := hr.byt.get 2
    have b3 := hr.byt.get 3
    have hN := headN_eq hr.byt
    generalize zs.getD 1 0 = z1 at *
    generalize zs.getD 2 0 = z2 at *
    generalize zs.getD 3 0 = z3 at *
    have l1 : (1 : Int) < (zs.length : Int) := by omega
    have l2 : (2 : Int) < (zs.length : Int) := by omega
    have l3 : (3 : Int) < (zs.length : Int) := by omega
    have ho := or3 b1 b2 b3
    rw [← hN] at ho
    have HN := Lib.hid hN
    clear hcell hN
    go_enter Try.func11, Try.ntmps11
    go_wp2_with fail
    go_quiet (fail)
    by_cases h5 : 2000 < headN zs
    · have he : firstE zs = 4 := by simp [firstE, h4, h5]
      have hd2 : decide (2000 < (headN zs : Int)) = true := decide_eq_true (by omega)
      go_wp2_with fail
      go_ret2
      exact ⟨below_drewN _ _, .inl ⟨by rw [he]; decide, by rw [he]; rfl⟩⟩
    · have hd2 : decide (2000 < (headN zs : Int)) = false := decide_eq_false (by omega)
      have hw : IntKind.i64.wrap (4 + (headN zs : Int)) = ((headN zs + 4 : Nat) : Int) := by
        have : headN zs ≤ 2000 := by omega
        generalize headN zs = m at *
        rw [show (4 + (m : Int)) = ((m + 4 : Nat) : Int) by omega]
        exact IntWalk.i64_in _ ⟨by omega, by omega⟩
      by_cases h6 : zs.length < headN zs + 4
      · have he : firstE zs = 2 := by simp [firstE, h4, h5, h6]
        go_wp2_with fail
        go_ret2
        exact ⟨below_drewN _ _, .inl ⟨by rw [he]; decide, by rw [he]; rfl⟩⟩
      · have he : firstE zs = 0 := by simp [firstE, h4, h5, h6]
        have hsl := fun wx => slice3 (ao := some ⟨b, off, none⟩) (n := zs.length) (cap := cap) (h := headN zs + 4) (by omega) (.inr ⟨_, _, _, _, rfl⟩) wx
        clear hr hp
        go_wp2_with fail
        go_ret2
        exact ⟨below_drewN _ _, .inr ⟨he, rfl⟩⟩
#print axioms first_any
end Go.Proofs.Ytfgjlfcadpmkhaa
