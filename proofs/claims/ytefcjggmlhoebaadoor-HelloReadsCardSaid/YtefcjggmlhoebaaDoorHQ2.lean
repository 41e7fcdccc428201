/- The document's Right of messages, kind by kind (8, 11). -/
import Derived.Test.YtefcjggmlhoebaaDoorHQ0
namespace Go.Proofs.YtefcjggmlhoebaaDoor
open Go Go.RowKit

set_option maxRecDepth 20000 in
set_option maxHeartbeats 8000000 in
theorem rref_8 (w : World) (r s t m : Int) (f : Bool) (a : Option Addr) (pl c : Nat) (n : ByteArray) (v l : Int) (ok : Bool) (hp : ∀ W, Below w.heap.size w W → Calls Tryd.prog 23 #[.slice a pl c] W fun e w' => e = .returned (.bool ok) ∧ Below W.heap.size W w') : Calls Tryd.prog 11 #[.agg (mcl 8 r s t m f (.slice a pl c) n v l)] w fun e w' => e = .returned (.bool (ok && bareB r s t m false 0 n v l)) ∧ Below w.heap.size w w' := by
  have hm0 := rbox_new w 8 r s t m f (.slice a pl c) n v l
  have B0 := below_alloc w (.cells (mcl 8 r s t m f (.slice a pl c) n v l) 24)
  have HB := Lib.hid B0
  obtain ⟨⟨c0, c1, c2, c3, c4, c5, c6, c7, c8, c9⟩, cf⟩ := hm0.cells
  have HM := Lib.hid hm0
  clear hm0 B0
  unfold mcl at *
  obtain ⟨X, hX⟩ : ∃ X, X = (ok && bareB r s t m false 0 n v l) := ⟨_, rfl⟩
  rw [← hX]
  have HX := Lib.hid hX
  clear hX
  have fin : ∀ b, b = X → ∀ w', Below w.heap.size w w' → (Ending.returned (.bool b) = .returned (.bool X) ∧ Below w.heap.size w w') := fun b e w' hb => by rw [e]; exact ⟨rfl, hb⟩
  have hpp := hp _ HB.out
  clear hp
  by_cases h_r : r = 0
  case neg =>
    have z_r : (r != 0) = true := bne_iff_ne.2 h_r
    have fin' := fin (false) (by rw [HX.out]; simp [bareB, h_r])
    clear fin HX
    clear h_r
    go_enter Tryd.func11, Tryd.ntmps11
    try dsimp only [List.append]
    go_wp2_with fail
    go_ret
    exact fin' _ (HB.out)
  subst h_r
  by_cases h_s : s = 0
  case neg =>
    have z_s : (s != 0) = true := bne_iff_ne.2 h_s
    have fin' := fin (false) (by rw [HX.out]; simp [bareB, h_s])
    clear fin HX
    clear h_s
    go_enter Tryd.func11, Tryd.ntmps11
    try dsimp only [List.append]
    go_wp2_with fail
    go_ret
    exact fin' _ (HB.out)
  subst h_s
  by_cases h_t : t = 0
  case neg =>
    have z_t : (t != 0) = true := bne_iff_ne.2 h_t
    have fin' := fin (false) (by rw [HX.out]; simp [bareB, h_t])
    clear fin HX
    clear h_t
    go_enter Tryd.func11, Tryd.ntmps11
    try dsimp only [List.append]
    go_wp2_with fail
    go_ret
    exact fin' _ (HB.out)
  subst h_t
  by_cases h_m : m = 0
  case neg =>
    have z_m : (m != 0) = true := bne_iff_ne.2 h_m
    have fin' := fin (false) (by rw [HX.out]; simp [bareB, h_m])
    clear fin HX
    clear h_m
    go_enter Tryd.func11, Tryd.ntmps11
    try dsimp only [List.append]
    go_wp2_with fail
    go_ret
    exact fin' _ (HB.out)
  subst h_m
  by_cases h_n : n.toList = []
  case neg =>
    have z_n : n.toList.isEmpty = false := by simp [h_n]
    have fin' := fin (false) (by rw [HX.out]; simp [bareB, h_n])
    clear fin HX
    clear h_n
    go_enter Tryd.func11, Tryd.ntmps11
    try dsimp only [List.append]
    go_wp2_with fail
    go_ret
    exact fin' _ (HB.out)
  have e_n : n.toList.isEmpty = true := by simp [h_n]
  by_cases h_v : v = 0
  case neg =>
    have z_v : (v != 0) = true := bne_iff_ne.2 h_v
    have fin' := fin (false) (by rw [HX.out]; simp [bareB, h_v])
    clear fin HX
    clear h_v
    go_enter Tryd.func11, Tryd.ntmps11
    try dsimp only [List.append]
    go_wp2_with fail
    go_ret
    exact fin' _ (HB.out)
  subst h_v
  by_cases h_l : l = 0
  case neg =>
    have z_l : (l != 0) = true := bne_iff_ne.2 h_l
    have fin' := fin (false) (by rw [HX.out]; simp [bareB, h_l])
    clear fin HX
    clear h_l
    go_enter Tryd.func11, Tryd.ntmps11
    try dsimp only [List.append]
    go_wp2_with fail
    go_ret
    exact fin' _ (HB.out)
  subst h_l
  have fe := fin ok (by rw [HX.out]; simp [bareB, h_n])
  clear fin HX h_n
  go_enter Tryd.func11, Tryd.ntmps11
  try dsimp only [List.append]
  go_wp2_with (go_at_call 23; refine hpp.mono ?_; rintro e w1 ⟨rfl, hb1⟩)
  go_ret
  exact fe _ (HB.out.trans (hb1.mono HB.out.size))
set_option maxRecDepth 20000 in
set_option maxHeartbeats 8000000 in
theorem rref_11 (w : World) (r s t m : Int) (f : Bool) (a : Option Addr) (pl c : Nat) (n : ByteArray) (v l : Int) : Calls Tryd.prog 11 #[.agg (mcl 11 r s t m f (.slice a pl c) n v l)] w fun e w' => e = .returned (.bool ((decide (1 ≤ n.size) && decide (n.size ≤ 50)) && bareB r s t m f pl ⟨#[]⟩ v l)) ∧ Below w.heap.size w w' := by
  have hm0 := rbox_new w 11 r s t m f (.slice a pl c) n v l
  have B0 := below_alloc w (.cells (mcl 11 r s t m f (.slice a pl c) n v l) 24)
  have HB := Lib.hid B0
  obtain ⟨⟨c0, c1, c2, c3, c4, c5, c6, c7, c8, c9⟩, cf⟩ := hm0.cells
  have HM := Lib.hid hm0
  clear hm0 B0
  unfold mcl at *
  obtain ⟨X, hX⟩ : ∃ X, X = ((decide (1 ≤ n.size) && decide (n.size ≤ 50)) && bareB r s t m f pl ⟨#[]⟩ v l) := ⟨_, rfl⟩
  rw [← hX]
  have HX := Lib.hid hX
  clear hX
  have fin : ∀ b, b = X → ∀ w', Below w.heap.size w w' → (Ending.returned (.bool b) = .returned (.bool X) ∧ Below w.heap.size w w') := fun b e w' hb => by rw [e]; exact ⟨rfl, hb⟩
  by_cases h_r : r = 0
  case neg =>
    have z_r : (r != 0) = true := bne_iff_ne.2 h_r
    have fin' := fin (false) (by rw [HX.out]; simp [bareB, h_r])
    clear fin HX
    clear h_r
    go_enter Tryd.func11, Tryd.ntmps11
    try dsimp only [List.append]
    go_wp2_with fail
    go_ret
    exact fin' _ (HB.out)
  subst h_r
  by_cases h_s : s = 0
  case neg =>
    have z_s : (s != 0) = true := bne_iff_ne.2 h_s
    have fin' := fin (false) (by rw [HX.out]; simp [bareB, h_s])
    clear fin HX
    clear h_s
    go_enter Tryd.func11, Tryd.ntmps11
    try dsimp only [List.append]
    go_wp2_with fail
    go_ret
    exact fin' _ (HB.out)
  subst h_s
  by_cases h_t : t = 0
  case neg =>
    have z_t : (t != 0) = true := bne_iff_ne.2 h_t
    have fin' := fin (false) (by rw [HX.out]; simp [bareB, h_t])
    clear fin HX
    clear h_t
    go_enter Tryd.func11, Tryd.ntmps11
    try dsimp only [List.append]
    go_wp2_with fail
    go_ret
    exact fin' _ (HB.out)
  subst h_t
  by_cases h_m : m = 0
  case neg =>
    have z_m : (m != 0) = true := bne_iff_ne.2 h_m
    have fin' := fin (false) (by rw [HX.out]; simp [bareB, h_m])
    clear fin HX
    clear h_m
    go_enter Tryd.func11, Tryd.ntmps11
    try dsimp only [List.append]
    go_wp2_with fail
    go_ret
    exact fin' _ (HB.out)
  subst h_m
  cases f with
  | true =>
    have fin' := fin (false) (by rw [HX.out]; simp [bareB])
    clear fin HX
    go_enter Tryd.func11, Tryd.ntmps11
    try dsimp only [List.append]
    go_wp2_with fail
    go_ret
    exact fin' _ (HB.out)
  | false =>
  by_cases h_p : pl = 0
  case neg =>
    have z_p : decide ((0 : Int) < (pl : Int)) = true := decide_eq_true (by omega)
    have z_p2 : decide (0 < pl) = true := decide_eq_true (by omega)
    have fin' := fin (false) (by rw [HX.out]; simp [bareB, h_p])
    clear fin HX
    clear h_p
    go_enter Tryd.func11, Tryd.ntmps11
    try dsimp only [List.append]
    go_wp2_with fail
    go_ret
    exact fin' _ (HB.out)
  subst h_p
  by_cases h_v : v = 0
  case neg =>
    have z_v : (v != 0) = true := bne_iff_ne.2 h_v
    have fin' := fin (false) (by rw [HX.out]; simp [bareB, h_v])
    clear fin HX
    clear h_v
    go_enter Tryd.func11, Tryd.ntmps11
    try dsimp only [List.append]
    go_wp2_with fail
    go_ret
    exact fin' _ (HB.out)
  subst h_v
  by_cases h_l : l = 0
  case neg =>
    have z_l : (l != 0) = true := bne_iff_ne.2 h_l
    have fin' := fin (false) (by rw [HX.out]; simp [bareB, h_l])
    clear fin HX
    clear h_l
    go_enter Tryd.func11, Tryd.ntmps11
    try dsimp only [List.append]
    go_wp2_with fail
    go_ret
    exact fin' _ (HB.out)
  subst h_l
  by_cases g1 : 0 < n.size
  case neg =>
    have e1 : decide ((0 : Int) < (n.size : Int)) = false := decide_eq_false (by omega)
    have e1' : decide (0 < n.size) = false := decide_eq_false g1
    have fin' := fin (false) (by rw [HX.out]; rw [decide_eq_false (show ¬ 1 ≤ n.size by omega)]; rfl)
    clear fin HX
    clear g1
    go_enter Tryd.func11, Tryd.ntmps11
    try dsimp only [List.append]
    go_wp2_with fail
    go_ret
    exact fin' _ (HB.out)
  have e1 : decide ((0 : Int) < (n.size : Int)) = true := decide_eq_true (by omega)
  have e1' : decide (0 < n.size) = true := decide_eq_true g1
  by_cases g2 : n.size ≤ 50
  case neg =>
    have e2 : decide ((n.size : Int) ≤ 50) = false := decide_eq_false (by omega)
    have fin' := fin (false) (by rw [HX.out]; rw [decide_eq_false g2, Bool.and_false]; rfl)
    clear fin HX
    clear g1 g2
    go_enter Tryd.func11, Tryd.ntmps11
    try dsimp only [List.append]
    go_wp2_with fail
    go_ret
    exact fin' _ (HB.out)
  have e2 : decide ((n.size : Int) ≤ 50) = true := decide_eq_true (by omega)
  have fin' := fin (true) (by rw [HX.out]; rw [decide_eq_true (show 1 ≤ n.size by omega), decide_eq_true g2]; simp [bareB])
  clear fin HX
  clear g1 g2
  go_enter Tryd.func11, Tryd.ntmps11
  try dsimp only [List.append]
  go_wp2_with fail
  go_ret
  exact fin' _ (HB.out)
end Go.Proofs.YtefcjggmlhoebaaDoor
