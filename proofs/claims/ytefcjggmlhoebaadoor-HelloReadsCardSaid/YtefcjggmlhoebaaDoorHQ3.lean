/- The document's Right of messages, kind by kind (15, 20, others). -/
import Derived.Test.YtefcjggmlhoebaaDoorHQ0
namespace Go.Proofs.YtefcjggmlhoebaaDoor
open Go Go.RowKit

set_option maxRecDepth 20000 in
set_option maxHeartbeats 8000000 in
theorem rref_15 (w : World) (r s t m : Int) (f : Bool) (a : Option Addr) (pl c : Nat) (n : ByteArray) (v l : Int) : Calls Tryd.prog 11 #[.agg (mcl 15 r s t m f (.slice a pl c) n v l)] w fun e w' => e = .returned (.bool (tmD m && bareB r s t 0 f pl n v l)) ∧ Below w.heap.size w w' := by
  have hm0 := rbox_new w 15 r s t m f (.slice a pl c) n v l
  have B0 := below_alloc w (.cells (mcl 15 r s t m f (.slice a pl c) n v l) 24)
  have HB := Lib.hid B0
  obtain ⟨⟨c0, c1, c2, c3, c4, c5, c6, c7, c8, c9⟩, cf⟩ := hm0.cells
  have HM := Lib.hid hm0
  clear hm0 B0
  unfold mcl at *
  obtain ⟨X, hX⟩ : ∃ X, X = (tmD m && bareB r s t 0 f pl n v l) := ⟨_, rfl⟩
  rw [← hX]
  have HX := Lib.hid hX
  clear hX
  have fin : ∀ b, b = X → ∀ w', Below w.heap.size w w' → (Ending.returned (.bool b) = .returned (.bool X) ∧ Below w.heap.size w w') := fun b e w' hb => by rw [e]; exact ⟨rfl, hb⟩
  by_cases h_r : r = 0
  case neg =>
    have z_r : (r != 0) = true := bne_iff_ne.2 h_r
    have fin' := fin (false) (by rw [HX.out]; simp [bareB, h_r])
    clear fin HX
    clear h_r
    go_enter Tryd.func11, Tryd.ntmps11
    try dsimp only [List.append]
    go_wp2_with fail
    go_ret
    exact fin' _ (HB.out)
  subst h_r
  by_cases h_s : s = 0
  case neg =>
    have z_s : (s != 0) = true := bne_iff_ne.2 h_s
    have fin' := fin (false) (by rw [HX.out]; simp [bareB, h_s])
    clear fin HX
    clear h_s
    go_enter Tryd.func11, Tryd.ntmps11
    try dsimp only [List.append]
    go_wp2_with fail
    go_ret
    exact fin' _ (HB.out)
  subst h_s
  by_cases h_t : t = 0
  case neg =>
    have z_t : (t != 0) = true := bne_iff_ne.2 h_t
    have fin' := fin (false) (by rw [HX.out]; simp [bareB, h_t])
    clear fin HX
    clear h_t
    go_enter Tryd.func11, Tryd.ntmps11
    try dsimp only [List.append]
    go_wp2_with fail
    go_ret
    exact fin' _ (HB.out)
  subst h_t
  cases f with
  | true =>
    have fin' := fin (false) (by rw [HX.out]; simp [bareB])
    clear fin HX
    go_enter Tryd.func11, Tryd.ntmps11
    try dsimp only [List.append]
    go_wp2_with fail
    go_ret
    exact fin' _ (HB.out)
  | false =>
  by_cases h_p : pl = 0
  case neg =>
    have z_p : decide ((0 : Int) < (pl : Int)) = true := decide_eq_true (by omega)
    have z_p2 : decide (0 < pl) = true := decide_eq_true (by omega)
    have fin' := fin (false) (by rw [HX.out]; simp [bareB, h_p])
    clear fin HX
    clear h_p
    go_enter Tryd.func11, Tryd.ntmps11
    try dsimp only [List.append]
    go_wp2_with fail
    go_ret
    exact fin' _ (HB.out)
  subst h_p
  by_cases h_n : n.toList = []
  case neg =>
    have z_n : n.toList.isEmpty = false := by simp [h_n]
    have fin' := fin (false) (by rw [HX.out]; simp [bareB, h_n])
    clear fin HX
    clear h_n
    go_enter Tryd.func11, Tryd.ntmps11
    try dsimp only [List.append]
    go_wp2_with fail
    go_ret
    exact fin' _ (HB.out)
  have e_n : n.toList.isEmpty = true := by simp [h_n]
  by_cases h_v : v = 0
  case neg =>
    have z_v : (v != 0) = true := bne_iff_ne.2 h_v
    have fin' := fin (false) (by rw [HX.out]; simp [bareB, h_v])
    clear fin HX
    clear h_v
    go_enter Tryd.func11, Tryd.ntmps11
    try dsimp only [List.append]
    go_wp2_with fail
    go_ret
    exact fin' _ (HB.out)
  subst h_v
  by_cases h_l : l = 0
  case neg =>
    have z_l : (l != 0) = true := bne_iff_ne.2 h_l
    have fin' := fin (false) (by rw [HX.out]; simp [bareB, h_l])
    clear fin HX
    clear h_l
    go_enter Tryd.func11, Tryd.ntmps11
    try dsimp only [List.append]
    go_wp2_with fail
    go_ret
    exact fin' _ (HB.out)
  subst h_l
  have fe := fin (tmD m) (by rw [HX.out]; simp [bareB, h_n])
  clear fin HX
  have fin := fe
  clear h_n
  go_enter Tryd.func11, Tryd.ntmps11
  try dsimp only [List.append]
  go_wp2_with (go_at_call 22; refine (rterm_any _ _).mono ?_; rintro e w1 ⟨rfl, rfl⟩)
  go_ret
  exact fin _ HB.out
set_option maxRecDepth 20000 in
set_option maxHeartbeats 8000000 in
theorem rref_20 (w : World) (r s t m : Int) (f : Bool) (a : Option Addr) (pl c : Nat) (n : ByteArray) (v l : Int) : Calls Tryd.prog 11 #[.agg (mcl 20 r s t m f (.slice a pl c) n v l)] w fun e w' => e = .returned (.bool (tmD m && bareB r s t 0 f pl n v l)) ∧ Below w.heap.size w w' := by
  have hm0 := rbox_new w 20 r s t m f (.slice a pl c) n v l
  have B0 := below_alloc w (.cells (mcl 20 r s t m f (.slice a pl c) n v l) 24)
  have HB := Lib.hid B0
  obtain ⟨⟨c0, c1, c2, c3, c4, c5, c6, c7, c8, c9⟩, cf⟩ := hm0.cells
  have HM := Lib.hid hm0
  clear hm0 B0
  unfold mcl at *
  obtain ⟨X, hX⟩ : ∃ X, X = (tmD m && bareB r s t 0 f pl n v l) := ⟨_, rfl⟩
  rw [← hX]
  have HX := Lib.hid hX
  clear hX
  have fin : ∀ b, b = X → ∀ w', Below w.heap.size w w' → (Ending.returned (.bool b) = .returned (.bool X) ∧ Below w.heap.size w w') := fun b e w' hb => by rw [e]; exact ⟨rfl, hb⟩
  by_cases h_r : r = 0
  case neg =>
    have z_r : (r != 0) = true := bne_iff_ne.2 h_r
    have fin' := fin (false) (by rw [HX.out]; simp [bareB, h_r])
    clear fin HX
    clear h_r
    go_enter Tryd.func11, Tryd.ntmps11
    try dsimp only [List.append]
    go_wp2_with fail
    go_ret
    exact fin' _ (HB.out)
  subst h_r
  by_cases h_s : s = 0
  case neg =>
    have z_s : (s != 0) = true := bne_iff_ne.2 h_s
    have fin' := fin (false) (by rw [HX.out]; simp [bareB, h_s])
    clear fin HX
    clear h_s
    go_enter Tryd.func11, Tryd.ntmps11
    try dsimp only [List.append]
    go_wp2_with fail
    go_ret
    exact fin' _ (HB.out)
  subst h_s
  by_cases h_t : t = 0
  case neg =>
    have z_t : (t != 0) = true := bne_iff_ne.2 h_t
    have fin' := fin (false) (by rw [HX.out]; simp [bareB, h_t])
    clear fin HX
    clear h_t
    go_enter Tryd.func11, Tryd.ntmps11
    try dsimp only [List.append]
    go_wp2_with fail
    go_ret
    exact fin' _ (HB.out)
  subst h_t
  cases f with
  | true =>
    have fin' := fin (false) (by rw [HX.out]; simp [bareB])
    clear fin HX
    go_enter Tryd.func11, Tryd.ntmps11
    try dsimp only [List.append]
    go_wp2_with fail
    go_ret
    exact fin' _ (HB.out)
  | false =>
  by_cases h_p : pl = 0
  case neg =>
    have z_p : decide ((0 : Int) < (pl : Int)) = true := decide_eq_true (by omega)
    have z_p2 : decide (0 < pl) = true := decide_eq_true (by omega)
    have fin' := fin (false) (by rw [HX.out]; simp [bareB, h_p])
    clear fin HX
    clear h_p
    go_enter Tryd.func11, Tryd.ntmps11
    try dsimp only [List.append]
    go_wp2_with fail
    go_ret
    exact fin' _ (HB.out)
  subst h_p
  by_cases h_n : n.toList = []
  case neg =>
    have z_n : n.toList.isEmpty = false := by simp [h_n]
    have fin' := fin (false) (by rw [HX.out]; simp [bareB, h_n])
    clear fin HX
    clear h_n
    go_enter Tryd.func11, Tryd.ntmps11
    try dsimp only [List.append]
    go_wp2_with fail
    go_ret
    exact fin' _ (HB.out)
  have e_n : n.toList.isEmpty = true := by simp [h_n]
  by_cases h_v : v = 0
  case neg =>
    have z_v : (v != 0) = true := bne_iff_ne.2 h_v
    have fin' := fin (false) (by rw [HX.out]; simp [bareB, h_v])
    clear fin HX
    clear h_v
    go_enter Tryd.func11, Tryd.ntmps11
    try dsimp only [List.append]
    go_wp2_with fail
    go_ret
    exact fin' _ (HB.out)
  subst h_v
  by_cases h_l : l = 0
  case neg =>
    have z_l : (l != 0) = true := bne_iff_ne.2 h_l
    have fin' := fin (false) (by rw [HX.out]; simp [bareB, h_l])
    clear fin HX
    clear h_l
    go_enter Tryd.func11, Tryd.ntmps11
    try dsimp only [List.append]
    go_wp2_with fail
    go_ret
    exact fin' _ (HB.out)
  subst h_l
  have fe := fin (tmD m) (by rw [HX.out]; simp [bareB, h_n])
  clear fin HX
  have fin := fe
  clear h_n
  go_enter Tryd.func11, Tryd.ntmps11
  try dsimp only [List.append]
  go_wp2_with (go_at_call 22; refine (rterm_any _ _).mono ?_; rintro e w1 ⟨rfl, rfl⟩)
  go_ret
  exact fin _ HB.out
set_option maxRecDepth 20000 in
set_option maxHeartbeats 8000000 in
theorem rref_0 (w : World) (r s t m : Int) (f : Bool) (a : Option Addr) (pl c : Nat) (n : ByteArray) (v l : Int) (k : Int) (h1 : ¬ k = 1) (h2 : ¬ k = 2) (h4 : ¬ k = 4) (h8 : ¬ k = 8) (h11 : ¬ k = 11) (h15 : ¬ k = 15) (h20 : ¬ k = 20) : Calls Tryd.prog 11 #[.agg (mcl k r s t m f (.slice a pl c) n v l)] w fun e w' => e = .returned (.bool (false)) ∧ Below w.heap.size w w' := by
  have hm0 := rbox_new w k r s t m f (.slice a pl c) n v l
  have B0 := below_alloc w (.cells (mcl k r s t m f (.slice a pl c) n v l) 24)
  have HB := Lib.hid B0
  obtain ⟨⟨c0, c1, c2, c3, c4, c5, c6, c7, c8, c9⟩, cf⟩ := hm0.cells
  have HM := Lib.hid hm0
  clear hm0 B0
  unfold mcl at *
  have k1 : (k == 1) = false := by simp [h1]
  have j1 : (k != 1) = true := bne_iff_ne.2 h1
  have k2 : (k == 2) = false := by simp [h2]
  have j2 : (k != 2) = true := bne_iff_ne.2 h2
  have k4 : (k == 4) = false := by simp [h4]
  have j4 : (k != 4) = true := bne_iff_ne.2 h4
  have k8 : (k == 8) = false := by simp [h8]
  have j8 : (k != 8) = true := bne_iff_ne.2 h8
  have k11 : (k == 11) = false := by simp [h11]
  have j11 : (k != 11) = true := bne_iff_ne.2 h11
  have k15 : (k == 15) = false := by simp [h15]
  have j15 : (k != 15) = true := bne_iff_ne.2 h15
  have k20 : (k == 20) = false := by simp [h20]
  have j20 : (k != 20) = true := bne_iff_ne.2 h20
  clear h1 h2 h4 h8 h11 h15 h20
  obtain ⟨X, hX⟩ : ∃ X, X = (false) := ⟨_, rfl⟩
  rw [← hX]
  have HX := Lib.hid hX
  clear hX
  have fin : ∀ b, b = X → ∀ w', Below w.heap.size w w' → (Ending.returned (.bool b) = .returned (.bool X) ∧ Below w.heap.size w w') := fun b e w' hb => by rw [e]; exact ⟨rfl, hb⟩
  by_cases h_r : r = 0
  case neg =>
    have z_r : (r != 0) = true := bne_iff_ne.2 h_r
    have fin' := fin (false) (by rw [HX.out])
    clear fin HX
    clear h_r
    go_enter Tryd.func11, Tryd.ntmps11
    try dsimp only [List.append]
    go_wp2_with fail
    go_ret
    exact fin' _ (HB.out)
  subst h_r
  by_cases h_s : s = 0
  case neg =>
    have z_s : (s != 0) = true := bne_iff_ne.2 h_s
    have fin' := fin (false) (by rw [HX.out])
    clear fin HX
    clear h_s
    go_enter Tryd.func11, Tryd.ntmps11
    try dsimp only [List.append]
    go_wp2_with fail
    go_ret
    exact fin' _ (HB.out)
  subst h_s
  by_cases h_t : t = 0
  case neg =>
    have z_t : (t != 0) = true := bne_iff_ne.2 h_t
    have fin' := fin (false) (by rw [HX.out])
    clear fin HX
    clear h_t
    go_enter Tryd.func11, Tryd.ntmps11
    try dsimp only [List.append]
    go_wp2_with fail
    go_ret
    exact fin' _ (HB.out)
  subst h_t
  by_cases h_m : m = 0
  case neg =>
    have z_m : (m != 0) = true := bne_iff_ne.2 h_m
    have fin' := fin (false) (by rw [HX.out])
    clear fin HX
    clear h_m
    go_enter Tryd.func11, Tryd.ntmps11
    try dsimp only [List.append]
    go_wp2_with fail
    go_ret
    exact fin' _ (HB.out)
  subst h_m
  cases f with
  | true =>
    have fin' := fin (false) (by rw [HX.out])
    clear fin HX
    go_enter Tryd.func11, Tryd.ntmps11
    try dsimp only [List.append]
    go_wp2_with fail
    go_ret
    exact fin' _ (HB.out)
  | false =>
  by_cases h_p : pl = 0
  case neg =>
    have z_p : decide ((0 : Int) < (pl : Int)) = true := decide_eq_true (by omega)
    have z_p2 : decide (0 < pl) = true := decide_eq_true (by omega)
    have fin' := fin (false) (by rw [HX.out])
    clear fin HX
    clear h_p
    go_enter Tryd.func11, Tryd.ntmps11
    try dsimp only [List.append]
    go_wp2_with fail
    go_ret
    exact fin' _ (HB.out)
  subst h_p
  by_cases h_n : n.toList = []
  case neg =>
    have z_n : n.toList.isEmpty = false := by simp [h_n]
    have fin' := fin (false) (by rw [HX.out])
    clear fin HX
    clear h_n
    go_enter Tryd.func11, Tryd.ntmps11
    try dsimp only [List.append]
    go_wp2_with fail
    go_ret
    exact fin' _ (HB.out)
  have e_n : n.toList.isEmpty = true := by simp [h_n]
  by_cases h_v : v = 0
  case neg =>
    have z_v : (v != 0) = true := bne_iff_ne.2 h_v
    have fin' := fin (false) (by rw [HX.out])
    clear fin HX
    clear h_v
    go_enter Tryd.func11, Tryd.ntmps11
    try dsimp only [List.append]
    go_wp2_with fail
    go_ret
    exact fin' _ (HB.out)
  subst h_v
  by_cases h_l : l = 0
  case neg =>
    have z_l : (l != 0) = true := bne_iff_ne.2 h_l
    have fin' := fin (false) (by rw [HX.out])
    clear fin HX
    clear h_l
    go_enter Tryd.func11, Tryd.ntmps11
    try dsimp only [List.append]
    go_wp2_with fail
    go_ret
    exact fin' _ (HB.out)
  subst h_l
  have fin' := fin (false) (by rw [HX.out])
  clear fin HX
  go_enter Tryd.func11, Tryd.ntmps11
  try dsimp only [List.append]
  go_wp2_with fail
  go_ret
  exact fin' _ (HB.out)
end Go.Proofs.YtefcjggmlhoebaaDoor
