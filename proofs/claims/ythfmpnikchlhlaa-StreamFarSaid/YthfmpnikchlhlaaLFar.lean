/- law 13: StreamFar. -/
import Derived.Test.YthfmpnikchlhlaaSAwake
namespace Go.Proofs.Ythfmpnikchlhlaa
open Go Go.RowKit

/-- A first piece that is too far. -/
theorem put_long {w : World} {B t N : Nat} {mo : Option Nat} {E : Int → Option (List Int)} {v : Value} {zs : List Int} (at' : Int) (hN : N ≤ 1000000) (h : St w B mo t N E) (hr : Rd w v zs) (hp : Plain v) (hl : zs.length ≤ 1000000)
    (hz : zs ≠ []) (h1 : 0 ≤ at') (h2 : at' ≤ 1073741824) (h3 : t + 4096 < at' + zs.length) :
    Calls Try.prog 12 #[.pointer (some ⟨B, 0, none⟩), .int .i64 at', v] w fun e w' => e = .returned (.int .i64 4) ∧ Below w.heap.size w w' := by
  refine (put_any at' hN h hr hp hl).mono fun e w' hpost => ?_
  rcases hpost with ⟨c, rfl, hc, hb⟩ | ⟨rfl, _, h4, _⟩
  · cases hc with
    | arg h => omega
    | long _ _ h => exact ⟨rfl, hb⟩
    | none _ h _ => rcases h with h | h; exact absurd h hz; omega
    | proto _ h _ _ => rcases h with h | h; exact absurd h hz; omega
  · rcases h4 with h | h
    · exact absurd h hz
    · omega

/-- A row whose first byte is written anew. -/
theorem rd_set0 {w : World} {b off cap : Nat} {z1 : Int} {zs : List Int} (h : Rd w (.slice (some ⟨b, off, none⟩) zs.length cap) zs) (hpos : 0 < zs.length) (hz : 0 ≤ z1 ∧ z1 ≤ 255) :
    Rd (w.setCell ⟨b, off, none⟩ (.int .u8 z1)) (.slice (some ⟨b, off, none⟩) zs.length cap) (z1 :: zs.tail) := by
  have hlen : (z1 :: zs.tail).length = zs.length := by simp; omega
  obtain ⟨ao, cap', e, c1, c2, c3, c4, c5⟩ := h
  simp only [Value.slice.injEq] at e
  obtain ⟨rfl, _, rfl⟩ := e
  refine ⟨some ⟨b, off, none⟩, cap, by rw [hlen], by omega, c2, c3, ?_, fun a ha j hj => ?_⟩
  · intro z hm
    rcases List.mem_cons.1 hm with rfl | hm
    · exact hz
    · exact c4 z (List.mem_of_mem_tail hm)
  · cases ha
    rw [hlen] at hj
    have h0 := c5 _ rfl j hj
    rw [Addr.add_lit] at h0 ⊢
    by_cases hj0 : j = 0
    · subst hj0
      exact World.cell?_setCell_same w _ _ h0
    · have hne : (⟨b, off, none⟩ : Addr) ≠ ⟨b, off + j, none⟩ := fun e => by simp only [Addr.mk.injEq] at e; omega
      rw [World.cell?_setCell_other (h := hne), h0]
      obtain ⟨i, rfl⟩ : ∃ i, j = i + 1 := ⟨j - 1, by omega⟩
      simp [List.getD_eq_getElem?_getD]
/-- A fresh row of the same bytes, ahead of its first byte's being written anew. -/
theorem far_row {w1 w2 : World} {v2 : Value} {zs : List Int} (hown2 : w2.ownsRow w1.heap.size 5 1 v2 (0 + zs.length) (by8 ([] ++ zs))) (hb2 : Below w1.heap.size (w1.alloc (.cells #[] 5)) w2) (hz : Byt zs) (hzl : 0 < zs.length) :
    ∃ g c2 z0 z1, v2 = .slice (some ⟨g, 0, none⟩) zs.length c2 ∧ IntKind.u8.wrap (z0 + 1) = z1 ∧ w2.cell? ⟨g, 0, none⟩ = some (.int .u8 z0) ∧ w2.frozen? ⟨g, 0, none⟩ = false ∧
      Hid (z0 = zs.getD 0 0 ∧ z1 ≠ z0 ∧ Rd (w2.setCell ⟨g, 0, none⟩ (.int .u8 z1)) (.slice (some ⟨g, 0, none⟩) zs.length c2) (z1 :: zs.tail) ∧ Below w1.heap.size w1 (w2.setCell ⟨g, 0, none⟩ (.int .u8 z1))) := by
  simp only [List.nil_append, Nat.zero_add] at hown2
  have hra := ra_own hown2 hz
  have hbl : ∃ g n2 c2 cur, v2 = .slice (some ⟨g, 0, none⟩) n2 c2 ∧ w1.heap.size ≤ g ∧ w2.heap[g]? = some (.cells cur 5 (0, 0)) := by
    rcases hown2.2 with ⟨_, h2⟩ | ⟨g, c2, cur, hv, hg, hh, _⟩
    · omega
    · exact ⟨g, _, c2, cur, hv, hg, hh⟩
  obtain ⟨g, n2, c2, cur, rfl, hg, hh⟩ := hbl
  obtain ⟨x2, c2', e⟩ := hra.1.rd.shape
  simp only [Value.slice.injEq] at e
  obtain ⟨rfl, rfl, rfl⟩ := e
  obtain ⟨z1, hz1⟩ : ∃ z1, IntKind.u8.wrap (zs.getD 0 0 + 1) = z1 := ⟨_, rfl⟩
  have hb0 := hz.get 0
  have hz1b : (0 ≤ z1 ∧ z1 ≤ 255) ∧ z1 ≠ zs.getD 0 0 := by
    rw [← hz1]
    simp [IntKind.wrap, IntKind.bits, IntKind.signed]
    omega
  have d0 : w2.cell? ⟨g, 0, none⟩ = some (.int .u8 (zs.getD 0 0)) := by
    obtain ⟨ao', cap', e, _, _, _, _, h5⟩ := hra.1.rd
    simp only [Value.slice.injEq] at e
    obtain ⟨rfl, _, rfl⟩ := e
    have := h5 _ rfl 0 hzl
    rw [Addr.add_lit] at this
    exact this
  have df := unfrozen hh 0
  have hi0 : (0 : Int) < (zs.length : Int) := by omega
  have hlc : zs.length ≤ c2 ∧ c2 ≤ maxLen := by
    obtain ⟨ao', cap', e, k1, k2, _⟩ := hra.1.rd
    simp only [Value.slice.injEq] at e
    obtain ⟨_, _, rfl⟩ := e
    exact ⟨k1, k2⟩
  obtain ⟨hlc1, hlc2⟩ := hlc
  have hr3 := rd_set0 hra.1.rd hzl hz1b.1
  have hb3 := ((below_alloc w1 (.cells #[] 5)).trans hb2).setCell (p := ⟨g, 0, none⟩) hg (.int .u8 z1)
  exact ⟨g, c2, zs.getD 0 0, z1, rfl, hz1, d0, df, Lib.hid ⟨rfl, hz1b.2, hr3, hb3⟩⟩

theorem alike_self (k : Int) (zs : List Int) : Alike k zs k zs := rfl
theorem not_alike {k z1 : Int} {zs : List Int} (hz : zs ≠ []) (h : z1 ≠ zs.getD 0 0) : ¬ Alike k (z1 :: zs.tail) k zs := by
  cases zs with
  | nil => exact absurd rfl hz
  | cons z zs =>
    intro e
    unfold Alike over at e
    have e1 : (min (k + ((z1 :: (z :: zs).tail).length : Int)) (k + ((z :: zs).length : Int)) - k).toNat = zs.length + 1 := by simp only [List.tail_cons, List.length_cons]; omega
    have e2 : (min (k + ((z :: zs).length : Int)) (k + ((z1 :: (z :: zs).tail).length : Int)) - k).toNat = zs.length + 1 := by simp only [List.tail_cons, List.length_cons]; omega
    have e3 : (max k k - k).toNat = 0 := by omega
    rw [e1, e2, e3] at e
    simp at e
    exact h (by simpa using e)

set_option maxRecDepth 20000 in
set_option maxHeartbeats 4000000 in
theorem sfar_walk {w : World} {v : Value} {zs : List Int} (at' : Int) (ha : 0 ≤ at' ∧ at' ≤ 65535) (hr : Rd w v zs) (hp : Plain v) (hl : zs.length ≤ 100) (hz : zs ≠ []) :
    Calls Try.prog 8 #[.int .u16 at', v] w fun e w' => e = .returned (.bool true) ∧ Below w.heap.size w w' := by
  obtain ⟨ao, cap, rfl⟩ := hr.shape
  have hzl := List.length_pos_iff.2 hz
  have HR := Lib.hid hr
  have HP := Lib.hid hp
  have HZ := Lib.hid hz
  have hlt : ¬ (100 : Int) < (zs.length : Int) := by omega
  have hz0 : ((zs.length : Int) == 0) = false := beq_eq_false_iff_ne.2 (by omega)
  have hwa : IntKind.i64.wrap at' = at' := IntWalk.i64_in _ ⟨by omega, by omega⟩
  clear hr hp hz
  go_enter Try.func8, Try.ntmps8
  go_wp2_with fail
  have hk : 0 ≤ at' % 5000 ∧ at' % 5000 < 5000 := by omega
  generalize at' % 5000 = k at hk ⊢
  have hs0 := St.fresh (heap_alloc_new w (.cells #[.int .i64 0, .map none] 26))
  have wk : IntKind.i64.wrap (k + (zs.length : Int)) = k + (zs.length : Int) := IntWalk.i64_in _ ⟨by omega, by omega⟩
  by_cases hfar : (4096 : Int) < k + (zs.length : Int)
  · refine (put_long k (by omega) hs0 (HR.out.alloc _) HP.out (by omega) HZ.out (by omega) (by omega) (by omega)).mono ?_
    rintro e w1 ⟨rfl, hb1⟩
    have HB1 := Lib.hid ((below_alloc w (.cells #[.int .i64 0, .map none] 26)).trans (hb1.mono (by simp)))
    have haw := Lib.hid (awake_any (w := w1))
    clear hb1 hs0
    go_wp2_with fail
    refine haw.out.mono ?_
    rintro e w2 ⟨rfl, hb2⟩
    have HB2 := Lib.hid (HB1.out.trans (hb2.mono HB1.out.size))
    clear hb2 haw
    go_wp2_with fail
    go_ret
    exact ⟨rfl, HB2.out⟩
  · refine (put_first k (by omega) hs0 (fun _ => rfl) (HR.out.alloc _) HP.out (by omega) HZ.out (by omega) (by omega) (by omega)).mono ?_
    rintro e w1 ⟨rfl, hj⟩
    obtain ⟨mb, hs1, hm1, hb1⟩ := hj.below (lo := w.heap.size) (by simp) (Nat.le_refl _) (fun _ h => by cases h)
    have HB1 := Lib.hid ((below_alloc w (.cells #[.int .i64 0, .map none] 26)).trans hb1)
    have HS1 := Lib.hid hs1
    clear hj hs1 hb1 hs0
    go_wp2_with (at_builtin; refine wpList_append_bytes (.tmp 36) (.tmp 37) 29 rfl rfl info5 Try.underlying29 w1.heap.size _ 0 [] rfl (own_fresh w1 5) _ zs rfl ((HR.out.below HB1.out).alloc _) (by omega) (by simp) ?_; intro v2 w2 hown2 hb2; obtain ⟨g, c2, z0, z1, rfl, hz1, d0, df, HF⟩ := far_row hown2 hb2 HR.out.byt hzl; clear hown2 hb2)
    have HS3 := Lib.hid (HS1.out.below HF.out.2.2.2)
    have HB3 := Lib.hid (HB1.out.trans (HF.out.2.2.2.mono HB1.out.size))
    have htl : (z1 :: zs.tail).length = zs.length := by simp; omega
    refine (put_clash k k (by omega) HS3.out HF.out.2.2.1 (.inr ⟨_, _, _, _, rfl⟩) (by omega) (by simp) (by omega) (by omega) (by omega) ⟨by omega, by omega⟩ (not_alike HZ.out (by rw [← HF.out.1]; exact HF.out.2.1))).mono ?_
    rintro e w4 ⟨rfl, hb4⟩
    have HB4 := Lib.hid (HB3.out.trans (hb4.mono HB3.out.size))
    have hc := Lib.hid (put_touch k k (by omega) (HS3.out.below hb4) (HR.out.below HB4.out) HP.out (by omega) HZ.out (by omega) (by omega) (by omega) ⟨by omega, by omega⟩ (alike_self k zs))
    clear hb4 htl
    go_wp2_with fail
    refine hc.out.mono ?_
    rintro e w5 ⟨rfl, hj⟩
    obtain ⟨mb5, _, _, hb5⟩ := hj.below (lo := w.heap.size) HB4.out.size (Nat.le_refl _) (fun b h => by cases h; exact hm1)
    have HB5 := Lib.hid (HB4.out.trans hb5)
    have haw := Lib.hid (awake_any (w := w5))
    clear hj hb5 hc
    go_wp2_with fail
    refine haw.out.mono ?_
    rintro e w6 ⟨rfl, hb6⟩
    have HB6 := Lib.hid (HB5.out.trans (hb6.mono HB5.out.size))
    clear hb6 haw
    go_wp2_with fail
    go_ret
    exact ⟨rfl, HB6.out⟩
theorem sfar_any {w : World} {v : Value} {zs : List Int} (at' : Int) (ha : 0 ≤ at' ∧ at' ≤ 65535) (hr : Rd w v zs) (hp : Plain v) :
    Calls Try.prog 8 #[.int .u16 at', v] w fun e w' => e = .returned (.bool true) ∧ Below w.heap.size w w' := by
  by_cases hl : zs.length ≤ 100
  · by_cases hz : zs = []
    · obtain ⟨ao, cap, rfl⟩ := hr.shape
      subst hz
      clear hr hp
      go_enter Try.func8, Try.ntmps8
      go_wp2_with fail
      go_ret
      exact ⟨rfl, Below.refl _ _⟩
    · exact sfar_walk at' ha hr hp hl hz
  · obtain ⟨ao, cap, rfl⟩ := hr.shape
    have hlt : (100 : Int) < (zs.length : Int) := by omega
    clear hr hp
    go_enter Try.func8, Try.ntmps8
    go_wp2_with fail
    go_ret
    exact ⟨rfl, Below.refl _ _⟩
#print axioms sfar_any
end Go.Proofs.Ythfmpnikchlhlaa
