/- law 13: awake. -/
import Derived.Test.YtfgjlfcadpmkhaaSOne
import Derived.Test.YtfgjlfcadpmkhaaHSame
namespace Go.Proofs.Ytfgjlfcadpmkhaa
open Go Go.RowKit
variable {gs : List Nat}

theorem taken_any {w : World} {B t N : Nat} {mo : Option Nat} {E : Int → Option (List Int)} (h : St gs w B mo t N E) :
    Calls Try.prog 9 #[.pointer (some ⟨B, 0, none⟩)] w fun e w' => e = .returned (.int .i64 t) ∧ w' = w := by
  obtain ⟨c0, c1, cf⟩ := h.cells
  clear h
  go_enter Try.func9, Try.ntmps9
  go_wp2_with fail
  go_ret
  exact ⟨rfl, rfl⟩
theorem join2 : joinE (oneE 1 [0, 0, 1]) 0 [5] [1] = oneE 0 [5, 0, 0, 1] := by
  have e1 : ends (oneE 1 [0, 0, 1]) 0 ([5] : List Int).length [1] = (0, 4) := by decide
  have e2 : wholeB (oneE 1 [0, 0, 1]) 0 [5] 0 ((4 : Int) - 0).toNat [1] = [5, 0, 0, 1] := by decide
  funext k
  unfold joinE
  rw [e1]
  dsimp only
  rw [e2]
  unfold oneE
  by_cases h : k = 0
  · simp [h]
  · by_cases h1 : k = 1 <;> simp [h, h1]
theorem join3 : joinE (oneE 0 [5, 0, 0, 1]) 4 [9] [0] = oneE 0 [5, 0, 0, 1, 9] := by
  have e1 : ends (oneE 0 [5, 0, 0, 1]) 4 ([9] : List Int).length [0] = (0, 5) := by decide
  have e2 : wholeB (oneE 0 [5, 0, 0, 1]) 4 [9] 0 ((5 : Int) - 0).toNat [0] = [5, 0, 0, 1, 9] := by decide
  funext k
  unfold joinE
  rw [e1]
  dsimp only
  rw [e2]
  unfold oneE
  by_cases h : k = 0 <;> simp [h]
theorem lit_at (w : World) (zs : List Int) (h : zs.length ≤ 1000) (hz : Byt zs) : Rd (w.alloc (.cells (by8 zs).toArray 5)) (.slice (some ⟨w.heap.size, 0, none⟩) zs.length zs.length) zs ∧ Plain (.slice (some ⟨w.heap.size, 0, none⟩) zs.length zs.length) := ⟨Rd.lit w zs h hz, .inr ⟨_, _, _, _, rfl⟩⟩
set_option maxRecDepth 20000 in
set_option maxHeartbeats 4000000 in
theorem awake_any {w : World} : Calls Try.prog 10 #[] w fun e w' => e = .returned (.bool true) ∧ Below w.heap.size w w' := by
  have hs1 : St [] ((w.alloc (.cells #[.int .i64 0, .map none] 26)).alloc (.cells #[.int .u8 0, .int .u8 0, .int .u8 1] 5)) w.heap.size none 0 0 (fun _ => none) := (St.fresh (fun g hg => by cases hg) (heap_alloc_new w _)).below (below_alloc _ _)
  have hl1 := lit_at (w.alloc (.cells #[.int .i64 0, .map none] 26)) [0, 0, 1] (by decide) (byt_of rfl)
  rw [World.size_alloc] at hl1
  have H1 := Lib.hid (put_first 1 (by omega) hs1 (fun _ => rfl) hl1.1 hl1.2 (by decide) (by decide) (by decide) (by decide) (by decide))
  clear hs1 hl1
  go_enter Try.func10, Try.ntmps10
  go_wp2_with fail
  refine H1.out.mono ?_
  rintro e w2 ⟨rfl, hj⟩
  obtain ⟨mb, hs2, hm2, hb2⟩ := hj.below (lo := w.heap.size) (by simp; omega) (Nat.le_refl _) (fun _ h => by cases h)
  have HB2 := Lib.hid ((((Below.refl w.heap.size w).alloc (Nat.le_refl _) _).alloc (by simp) _).trans hb2)
  have hl2 := lit_at w2 [5] (by decide) (byt_of rfl)
  have H2 := Lib.hid (put_touch 0 1 (by omega) (hs2.below (below_alloc w2 _)) hl2.1 hl2.2 (by decide) (by decide) (by decide) (by decide) (by decide) ⟨by decide, by decide⟩ (by unfold Alike; decide))
  clear hj hs2 hb2 hl2 H1
  go_wp2_with fail
  refine H2.out.mono ?_
  rintro e w3 ⟨rfl, hj⟩
  rw [join2] at hj
  obtain ⟨mb3, hs3, hm3, hb3⟩ := hj.below (lo := w.heap.size) (by have := HB2.out.size; simp; omega) (Nat.le_refl _) (fun b h => by cases h; exact hm2)
  have HB3 := Lib.hid ((HB2.out.alloc HB2.out.size _).trans hb3)
  have hl3 := lit_at w3 [9] (by decide) (byt_of rfl)
  have H3 := Lib.hid (put_touch 4 0 (by omega) (hs3.below (below_alloc w3 _)) hl3.1 hl3.2 (by decide) (by decide) (by decide) (by decide) (by decide) ⟨by decide, by decide⟩ (by unfold Alike; decide))
  clear hj hs3 hb3 hl3 H2 hm2
  go_wp2_with fail
  refine H3.out.mono ?_
  rintro e w4 ⟨rfl, hj⟩
  rw [join3] at hj
  obtain ⟨mb4, hs4, hm4, hb4⟩ := hj.below (lo := w.heap.size) (by have := HB3.out.size; simp; omega) (Nat.le_refl _) (fun b h => by cases h; exact hm3)
  have HB4 := Lib.hid ((HB3.out.alloc HB3.out.size _).trans hb4)
  have HS4 := Lib.hid hs4
  have H4 := Lib.hid (next_any (by omega) hs4 (by omega))
  clear hj hs4 hb4 H3 hm3
  go_wp2_with fail
  refine H4.out.mono ?_
  rintro e w5 hpost
  have hf : frontB 0 (oneE 0 [5, 0, 0, 1, 9]) = [5, 0, 0, 1, 9] := rfl
  unfold NextPost at hpost
  rw [hf] at hpost
  rcases hpost with ⟨h, _⟩ | ⟨_, v, mb5, hmo, rfl, hrd, hpl, hs5, hc5⟩
  · exact absurd (by decide : firstE [5, 0, 0, 1, 9] = 0) h
  have hh : headN [5, 0, 0, 1, 9] = 1 := by decide
  rw [hh] at hrd hs5
  cases hmo
  have HB5 := Lib.hid (hc5.below HB4.out (fun k hk => by simp at hk; omega))
  have hl5 := lit_at w5 [5, 0, 0, 1, 9] (by decide) (byt_of rfl)
  have H5 := Lib.hid (same_true (hrd.below (below_alloc w5 _)) hl5.1)
  have HS5 := Lib.hid hs5
  obtain ⟨ao, n, cap, rfl⟩ := hrd.shape3
  clear hrd hpl hs5 hc5 hl5 H4
  go_wp2_with fail
  refine H5.out.mono ?_
  rintro e w6 ⟨rfl, hb6⟩
  have HB6 := Lib.hid ((HB5.out.alloc HB5.out.size _).trans (hb6.mono (by have := HB5.out.size; simp; omega)))
  have H6 := Lib.hid (taken_any ((HS5.out.below (below_alloc w5 _)).below hb6))
  clear hb6 H5
  go_wp2_with fail
  refine H6.out.mono ?_
  rintro e w7 ⟨rfl, rfl⟩
  go_wp2_with fail
  go_ret
  exact ⟨rfl, HB6.out⟩
#print axioms awake_any
end Go.Proofs.Ytfgjlfcadpmkhaa
