/- The document's Right of messages, kind by kind (1, 2, 4). -/
import Derived.Test.YtefcjggmlhoebaaDoorHQ0
namespace Go.Proofs.YtefcjggmlhoebaaDoor
open Go Go.RowKit

set_option maxRecDepth 20000 in
set_option maxHeartbeats 8000000 in
theorem rref_1 (w : World) (r s t m : Int) (f : Bool) (a : Option Addr) (pl c : Nat) (n : ByteArray) (v l : Int) (ok : Bool) (hp : ∀ W, Below w.heap.size w W → Calls Tryd.prog 23 #[.slice a pl c] W fun e w' => e = .returned (.bool ok) ∧ Below W.heap.size W w') : Calls Tryd.prog 11 #[.agg (mcl 1 r s t m f (.slice a pl c) n v l)] w fun e w' => e = .returned (.bool ((tmD r && tmD s && tickB t m && ok) && bareB 0 0 0 0 false 0 n v l)) ∧ Below w.heap.size w w' := by
  have hm0 := rbox_new w 1 r s t m f (.slice a pl c) n v l
  have B0 := below_alloc w (.cells (mcl 1 r s t m f (.slice a pl c) n v l) 24)
  have HB := Lib.hid B0
  obtain ⟨⟨c0, c1, c2, c3, c4, c5, c6, c7, c8, c9⟩, cf⟩ := hm0.cells
  have HM := Lib.hid hm0
  clear hm0 B0
  unfold mcl at *
  obtain ⟨X, hX⟩ : ∃ X, X = ((tmD r && tmD s && tickB t m && ok) && bareB 0 0 0 0 false 0 n v l) := ⟨_, rfl⟩
  rw [← hX]
  have HX := Lib.hid hX
  clear hX
  have fin : ∀ b, b = X → ∀ w', Below w.heap.size w w' → (Ending.returned (.bool b) = .returned (.bool X) ∧ Below w.heap.size w w') := fun b e w' hb => by rw [e]; exact ⟨rfl, hb⟩
  have hpp := hp _ HB.out
  clear hp
  by_cases h_n : n.toList = []
  case neg =>
    have z_n : n.toList.isEmpty = false := by simp [h_n]
    have fin' := fin (false) (by rw [HX.out]; simp [bareB, h_n])
    clear fin HX
    clear h_n
    go_enter Tryd.func11, Tryd.ntmps11
    try dsimp only [List.append]
    go_wp2_with fail
    go_ret
    exact fin' _ (HB.out)
  have e_n : n.toList.isEmpty = true := by simp [h_n]
  by_cases h_v : v = 0
  case neg =>
    have z_v : (v != 0) = true := bne_iff_ne.2 h_v
    have fin' := fin (false) (by rw [HX.out]; simp [bareB, h_v])
    clear fin HX
    clear h_v
    go_enter Tryd.func11, Tryd.ntmps11
    try dsimp only [List.append]
    go_wp2_with fail
    go_ret
    exact fin' _ (HB.out)
  subst h_v
  by_cases h_l : l = 0
  case neg =>
    have z_l : (l != 0) = true := bne_iff_ne.2 h_l
    have fin' := fin (false) (by rw [HX.out]; simp [bareB, h_l])
    clear fin HX
    clear h_l
    go_enter Tryd.func11, Tryd.ntmps11
    try dsimp only [List.append]
    go_wp2_with fail
    go_ret
    exact fin' _ (HB.out)
  subst h_l
  have h1 := fun W => rterm_any W r
  have h2 := fun W => rterm_any W s
  cases g1 : tmD r with
  | false =>
    rw [g1] at h1
    have fin' := fin (false) (by rw [HX.out]; rw [g1]; rfl)
    clear fin HX
    clear g1 h2 h_n
    go_enter Tryd.func11, Tryd.ntmps11
    try dsimp only [List.append]
    go_wp2_with (go_at_call 22; with_reducible refine (h1 _).mono ?_; rintro e w1 ⟨rfl, rfl⟩)
    go_ret
    exact fin' _ (HB.out)
  | true =>
  rw [g1] at h1
  cases g2 : tmD s with
  | false =>
    rw [g2] at h2
    have fin' := fin (false) (by rw [HX.out]; rw [g1, g2]; rfl)
    clear fin HX
    clear g1 g2 h_n
    go_enter Tryd.func11, Tryd.ntmps11
    try dsimp only [List.append]
    go_wp2_with (first
      | (go_at_call 22; with_reducible refine (h1 _).mono ?_; rintro e w1 ⟨rfl, rfl⟩)
      | (go_at_call 22; with_reducible refine (h2 _).mono ?_; rintro e w2 ⟨rfl, rfl⟩))
    go_ret
    exact fin' _ (HB.out)
  | true =>
  rw [g2] at h2
  cases ok with
  | false =>
    have fin' := fin (false) (by rw [HX.out]; rw [g1, g2]; simp)
    clear fin HX
    clear g1 g2 h_n
    go_enter Tryd.func11, Tryd.ntmps11
    try dsimp only [List.append]
    go_wp2_with (first
      | (go_at_call 22; with_reducible refine (h1 _).mono ?_; rintro e w1 ⟨rfl, rfl⟩)
      | (go_at_call 22; with_reducible refine (h2 _).mono ?_; rintro e w2 ⟨rfl, rfl⟩)
      | (go_at_call 23; refine hpp.mono ?_; rintro e w3 ⟨rfl, hb3⟩; have HB3 := Lib.hid (HB.out.trans (hb3.mono HB.out.size)); have hm3 := HM.out.below hb3; clear hb3 c0 c1 c2 c3 c4 c5 c6 c7 c8 c9 cf; obtain ⟨⟨c0, c1, c2, c3, c4, c5, c6, c7, c8, c9⟩, cf⟩ := hm3.cells))
    go_ret
    exact fin' _ (HB3.out)
  | true =>
  have h3 := fun W => rterm_any W t
  have h4 := fun W => rterm_any W m
  by_cases y1 : t = 0
  · subst y1
    by_cases y2 : m = 0
    · subst y2
      have fin' := fin (true) (by rw [HX.out]; rw [g1, g2]; simp [tickB, bareB, h_n])
      clear fin HX
      clear g1 g2 h_n h3 h4
      go_enter Tryd.func11, Tryd.ntmps11
      try dsimp only [List.append]
      go_wp2_with (first
        | (go_at_call 22; with_reducible refine (h1 _).mono ?_; rintro e w1 ⟨rfl, rfl⟩)
        | (go_at_call 22; with_reducible refine (h2 _).mono ?_; rintro e w2 ⟨rfl, rfl⟩)
        | (go_at_call 23; refine hpp.mono ?_; rintro e w3 ⟨rfl, hb3⟩; have HB3 := Lib.hid (HB.out.trans (hb3.mono HB.out.size)); have hm3 := HM.out.below hb3; clear hb3 c0 c1 c2 c3 c4 c5 c6 c7 c8 c9 cf; obtain ⟨⟨c0, c1, c2, c3, c4, c5, c6, c7, c8, c9⟩, cf⟩ := hm3.cells))
      go_ret
      exact fin' _ (HB3.out)
    · have z2 : (m == 0) = false := by simp [y2]
      have g5 : tmD 0 = false := by decide
      rw [g5] at h3
      have fin' := fin (false) (by rw [HX.out]; rw [g1, g2]; simp [tickB, y2, g5])
      clear fin HX
      clear g1 g2 g5 h_n y2 h4
      go_enter Tryd.func11, Tryd.ntmps11
      try dsimp only [List.append]
      go_wp2_with (first
        | (go_at_call 22; with_reducible refine (h1 _).mono ?_; rintro e w1 ⟨rfl, rfl⟩)
        | (go_at_call 22; with_reducible refine (h2 _).mono ?_; rintro e w2 ⟨rfl, rfl⟩)
        | (go_at_call 23; refine hpp.mono ?_; rintro e w3 ⟨rfl, hb3⟩; have HB3 := Lib.hid (HB.out.trans (hb3.mono HB.out.size)); have hm3 := HM.out.below hb3; clear hb3 c0 c1 c2 c3 c4 c5 c6 c7 c8 c9 cf; obtain ⟨⟨c0, c1, c2, c3, c4, c5, c6, c7, c8, c9⟩, cf⟩ := hm3.cells)
        | (go_at_call 22; with_reducible refine (h3 _).mono ?_; rintro e w4 ⟨rfl, rfl⟩))
      go_ret
      exact fin' _ (HB3.out)
  have z1 : (t == 0) = false := by simp [y1]
  cases g5 : tmD t with
  | false =>
    rw [g5] at h3
    have fin' := fin (false) (by rw [HX.out]; rw [g1, g2]; simp [tickB, y1, g5])
    clear fin HX
    clear g1 g2 g5 h_n y1 h4
    go_enter Tryd.func11, Tryd.ntmps11
    try dsimp only [List.append]
    go_wp2_with (first
      | (go_at_call 22; with_reducible refine (h1 _).mono ?_; rintro e w1 ⟨rfl, rfl⟩)
      | (go_at_call 22; with_reducible refine (h2 _).mono ?_; rintro e w2 ⟨rfl, rfl⟩)
      | (go_at_call 23; refine hpp.mono ?_; rintro e w3 ⟨rfl, hb3⟩; have HB3 := Lib.hid (HB.out.trans (hb3.mono HB.out.size)); have hm3 := HM.out.below hb3; clear hb3 c0 c1 c2 c3 c4 c5 c6 c7 c8 c9 cf; obtain ⟨⟨c0, c1, c2, c3, c4, c5, c6, c7, c8, c9⟩, cf⟩ := hm3.cells)
      | (go_at_call 22; with_reducible refine (h3 _).mono ?_; rintro e w4 ⟨rfl, rfl⟩))
    go_ret
    exact fin' _ (HB3.out)
  | true =>
    rw [g5] at h3
    have fin' := fin (tmD m) (by rw [HX.out]; rw [g1, g2]; simp [tickB, y1, g5, bareB, h_n])
    clear fin HX
    clear g1 g2 g5 h_n y1
    go_enter Tryd.func11, Tryd.ntmps11
    try dsimp only [List.append]
    go_wp2_with (first
      | (go_at_call 22; with_reducible refine (h1 _).mono ?_; rintro e w1 ⟨rfl, rfl⟩)
      | (go_at_call 22; with_reducible refine (h2 _).mono ?_; rintro e w2 ⟨rfl, rfl⟩)
      | (go_at_call 23; refine hpp.mono ?_; rintro e w3 ⟨rfl, hb3⟩; have HB3 := Lib.hid (HB.out.trans (hb3.mono HB.out.size)); have hm3 := HM.out.below hb3; clear hb3 c0 c1 c2 c3 c4 c5 c6 c7 c8 c9 cf; obtain ⟨⟨c0, c1, c2, c3, c4, c5, c6, c7, c8, c9⟩, cf⟩ := hm3.cells)
      | (go_at_call 22; with_reducible refine (h3 _).mono ?_; rintro e w4 ⟨rfl, rfl⟩)
      | (go_at_call 22; with_reducible refine (h4 _).mono ?_; rintro e w5 ⟨rfl, rfl⟩))
    go_ret
    exact fin' _ (HB3.out)
set_option maxRecDepth 20000 in
set_option maxHeartbeats 8000000 in
theorem rref_2 (w : World) (r s t m : Int) (f : Bool) (a : Option Addr) (pl c : Nat) (n : ByteArray) (v l : Int) : Calls Tryd.prog 11 #[.agg (mcl 2 r s t m f (.slice a pl c) n v l)] w fun e w' => e = .returned (.bool ((tmD r && tmD s && (decide (0 < v) && decide (v < 4294967296))) && bareB 0 0 t m false pl n 0 l)) ∧ Below w.heap.size w w' := by
  have hm0 := rbox_new w 2 r s t m f (.slice a pl c) n v l
  have B0 := below_alloc w (.cells (mcl 2 r s t m f (.slice a pl c) n v l) 24)
  have HB := Lib.hid B0
  obtain ⟨⟨c0, c1, c2, c3, c4, c5, c6, c7, c8, c9⟩, cf⟩ := hm0.cells
  have HM := Lib.hid hm0
  clear hm0 B0
  unfold mcl at *
  obtain ⟨X, hX⟩ : ∃ X, X = ((tmD r && tmD s && (decide (0 < v) && decide (v < 4294967296))) && bareB 0 0 t m false pl n 0 l) := ⟨_, rfl⟩
  rw [← hX]
  have HX := Lib.hid hX
  clear hX
  have fin : ∀ b, b = X → ∀ w', Below w.heap.size w w' → (Ending.returned (.bool b) = .returned (.bool X) ∧ Below w.heap.size w w') := fun b e w' hb => by rw [e]; exact ⟨rfl, hb⟩
  by_cases h_t : t = 0
  case neg =>
    have z_t : (t != 0) = true := bne_iff_ne.2 h_t
    have fin' := fin (false) (by rw [HX.out]; simp [bareB, h_t])
    clear fin HX
    clear h_t
    go_enter Tryd.func11, Tryd.ntmps11
    try dsimp only [List.append]
    go_wp2_with fail
    go_ret
    exact fin' _ (HB.out)
  subst h_t
  by_cases h_m : m = 0
  case neg =>
    have z_m : (m != 0) = true := bne_iff_ne.2 h_m
    have fin' := fin (false) (by rw [HX.out]; simp [bareB, h_m])
    clear fin HX
    clear h_m
    go_enter Tryd.func11, Tryd.ntmps11
    try dsimp only [List.append]
    go_wp2_with fail
    go_ret
    exact fin' _ (HB.out)
  subst h_m
  by_cases h_p : pl = 0
  case neg =>
    have z_p : decide ((0 : Int) < (pl : Int)) = true := decide_eq_true (by omega)
    have z_p2 : decide (0 < pl) = true := decide_eq_true (by omega)
    have fin' := fin (false) (by rw [HX.out]; simp [bareB, h_p])
    clear fin HX
    clear h_p
    go_enter Tryd.func11, Tryd.ntmps11
    try dsimp only [List.append]
    go_wp2_with fail
    go_ret
    exact fin' _ (HB.out)
  subst h_p
  by_cases h_n : n.toList = []
  case neg =>
    have z_n : n.toList.isEmpty = false := by simp [h_n]
    have fin' := fin (false) (by rw [HX.out]; simp [bareB, h_n])
    clear fin HX
    clear h_n
    go_enter Tryd.func11, Tryd.ntmps11
    try dsimp only [List.append]
    go_wp2_with fail
    go_ret
    exact fin' _ (HB.out)
  have e_n : n.toList.isEmpty = true := by simp [h_n]
  by_cases h_l : l = 0
  case neg =>
    have z_l : (l != 0) = true := bne_iff_ne.2 h_l
    have fin' := fin (false) (by rw [HX.out]; simp [bareB, h_l])
    clear fin HX
    clear h_l
    go_enter Tryd.func11, Tryd.ntmps11
    try dsimp only [List.append]
    go_wp2_with fail
    go_ret
    exact fin' _ (HB.out)
  subst h_l
  have h1 := fun W => rterm_any W r
  have h2 := fun W => rterm_any W s
  cases g1 : tmD r with
  | false =>
    rw [g1] at h1
    have fin' := fin (false) (by rw [HX.out]; rw [g1]; rfl)
    clear fin HX
    clear g1 h2 h_n
    go_enter Tryd.func11, Tryd.ntmps11
    try dsimp only [List.append]
    go_wp2_with (go_at_call 22; with_reducible refine (h1 _).mono ?_; rintro e w1 ⟨rfl, rfl⟩)
    go_ret
    exact fin' _ (HB.out)
  | true =>
  rw [g1] at h1
  cases g2 : tmD s with
  | false =>
    rw [g2] at h2
    have fin' := fin (false) (by rw [HX.out]; rw [g1, g2]; rfl)
    clear fin HX
    clear g1 g2 h_n
    go_enter Tryd.func11, Tryd.ntmps11
    try dsimp only [List.append]
    go_wp2_with (first
      | (go_at_call 22; with_reducible refine (h1 _).mono ?_; rintro e w1 ⟨rfl, rfl⟩)
      | (go_at_call 22; with_reducible refine (h2 _).mono ?_; rintro e w2 ⟨rfl, rfl⟩))
    go_ret
    exact fin' _ (HB.out)
  | true =>
  rw [g2] at h2
  by_cases g3 : 1 ≤ v
  case neg =>
    have e3 : decide (1 ≤ v) = false := decide_eq_false g3
    have fin' := fin (false) (by rw [HX.out]; rw [g1, g2, decide_eq_false (show ¬ 0 < v by omega)]; rfl)
    clear fin HX
    clear g1 g2 g3 h_n
    go_enter Tryd.func11, Tryd.ntmps11
    try dsimp only [List.append]
    go_wp2_with (first
      | (go_at_call 22; with_reducible refine (h1 _).mono ?_; rintro e w1 ⟨rfl, rfl⟩)
      | (go_at_call 22; with_reducible refine (h2 _).mono ?_; rintro e w2 ⟨rfl, rfl⟩))
    go_ret
    exact fin' _ (HB.out)
  have e3 : decide (1 ≤ v) = true := decide_eq_true g3
  by_cases g4 : v ≤ 4294967295
  case neg =>
    have e4 : decide (v ≤ 4294967295) = false := decide_eq_false g4
    have fin' := fin (false) (by rw [HX.out]; rw [g1, g2, decide_eq_false (show ¬ v < 4294967296 by omega)]; simp)
    clear fin HX
    clear g1 g2 g3 g4 h_n
    go_enter Tryd.func11, Tryd.ntmps11
    try dsimp only [List.append]
    go_wp2_with (first
      | (go_at_call 22; with_reducible refine (h1 _).mono ?_; rintro e w1 ⟨rfl, rfl⟩)
      | (go_at_call 22; with_reducible refine (h2 _).mono ?_; rintro e w2 ⟨rfl, rfl⟩))
    go_ret
    exact fin' _ (HB.out)
  have e4 : decide (v ≤ 4294967295) = true := decide_eq_true g4
  have fin' := fin (true) (by rw [HX.out]; rw [g1, g2, decide_eq_true (show 0 < v by omega), decide_eq_true (show v < 4294967296 by omega)]; simp [bareB, h_n])
  clear fin HX
  clear g1 g2 g3 g4 h_n
  go_enter Tryd.func11, Tryd.ntmps11
  try dsimp only [List.append]
  go_wp2_with (first
    | (go_at_call 22; with_reducible refine (h1 _).mono ?_; rintro e w1 ⟨rfl, rfl⟩)
    | (go_at_call 22; with_reducible refine (h2 _).mono ?_; rintro e w2 ⟨rfl, rfl⟩))
  go_ret
  exact fin' _ (HB.out)
set_option maxRecDepth 20000 in
set_option maxHeartbeats 8000000 in
theorem rref_4 (w : World) (r s t m : Int) (f : Bool) (a : Option Addr) (pl c : Nat) (n : ByteArray) (v l : Int) : Calls Tryd.prog 11 #[.agg (mcl 4 r s t m f (.slice a pl c) n v l)] w fun e w' => e = .returned (.bool ((tmD t && decide (0 < sz l)) && bareB r s 0 m f pl n v 0)) ∧ Below w.heap.size w w' := by
  have hm0 := rbox_new w 4 r s t m f (.slice a pl c) n v l
  have B0 := below_alloc w (.cells (mcl 4 r s t m f (.slice a pl c) n v l) 24)
  have HB := Lib.hid B0
  obtain ⟨⟨c0, c1, c2, c3, c4, c5, c6, c7, c8, c9⟩, cf⟩ := hm0.cells
  have HM := Lib.hid hm0
  clear hm0 B0
  unfold mcl at *
  obtain ⟨X, hX⟩ : ∃ X, X = ((tmD t && decide (0 < sz l)) && bareB r s 0 m f pl n v 0) := ⟨_, rfl⟩
  rw [← hX]
  have HX := Lib.hid hX
  clear hX
  have fin : ∀ b, b = X → ∀ w', Below w.heap.size w w' → (Ending.returned (.bool b) = .returned (.bool X) ∧ Below w.heap.size w w') := fun b e w' hb => by rw [e]; exact ⟨rfl, hb⟩
  by_cases h_r : r = 0
  case neg =>
    have z_r : (r != 0) = true := bne_iff_ne.2 h_r
    have fin' := fin (false) (by rw [HX.out]; simp [bareB, h_r])
    clear fin HX
    clear h_r
    go_enter Tryd.func11, Tryd.ntmps11
    try dsimp only [List.append]
    go_wp2_with fail
    go_ret
    exact fin' _ (HB.out)
  subst h_r
  by_cases h_s : s = 0
  case neg =>
    have z_s : (s != 0) = true := bne_iff_ne.2 h_s
    have fin' := fin (false) (by rw [HX.out]; simp [bareB, h_s])
    clear fin HX
    clear h_s
    go_enter Tryd.func11, Tryd.ntmps11
    try dsimp only [List.append]
    go_wp2_with fail
    go_ret
    exact fin' _ (HB.out)
  subst h_s
  by_cases h_m : m = 0
  case neg =>
    have z_m : (m != 0) = true := bne_iff_ne.2 h_m
    have fin' := fin (false) (by rw [HX.out]; simp [bareB, h_m])
    clear fin HX
    clear h_m
    go_enter Tryd.func11, Tryd.ntmps11
    try dsimp only [List.append]
    go_wp2_with fail
    go_ret
    exact fin' _ (HB.out)
  subst h_m
  cases f with
  | true =>
    have fin' := fin (false) (by rw [HX.out]; simp [bareB])
    clear fin HX
    go_enter Tryd.func11, Tryd.ntmps11
    try dsimp only [List.append]
    go_wp2_with fail
    go_ret
    exact fin' _ (HB.out)
  | false =>
  by_cases h_p : pl = 0
  case neg =>
    have z_p : decide ((0 : Int) < (pl : Int)) = true := decide_eq_true (by omega)
    have z_p2 : decide (0 < pl) = true := decide_eq_true (by omega)
    have fin' := fin (false) (by rw [HX.out]; simp [bareB, h_p])
    clear fin HX
    clear h_p
    go_enter Tryd.func11, Tryd.ntmps11
    try dsimp only [List.append]
    go_wp2_with fail
    go_ret
    exact fin' _ (HB.out)
  subst h_p
  by_cases h_n : n.toList = []
  case neg =>
    have z_n : n.toList.isEmpty = false := by simp [h_n]
    have fin' := fin (false) (by rw [HX.out]; simp [bareB, h_n])
    clear fin HX
    clear h_n
    go_enter Tryd.func11, Tryd.ntmps11
    try dsimp only [List.append]
    go_wp2_with fail
    go_ret
    exact fin' _ (HB.out)
  have e_n : n.toList.isEmpty = true := by simp [h_n]
  by_cases h_v : v = 0
  case neg =>
    have z_v : (v != 0) = true := bne_iff_ne.2 h_v
    have fin' := fin (false) (by rw [HX.out]; simp [bareB, h_v])
    clear fin HX
    clear h_v
    go_enter Tryd.func11, Tryd.ntmps11
    try dsimp only [List.append]
    go_wp2_with fail
    go_ret
    exact fin' _ (HB.out)
  subst h_v
  have hz := fun W => refsize_any l W
  cases ht : tmD t with
  | false =>
    have h1 := fun W => rterm_any W t
    rw [ht] at h1
    have fin' := fin (false) (by rw [HX.out]; rw [ht]; rfl)
    clear fin HX
    clear ht h_n
    go_enter Tryd.func11, Tryd.ntmps11
    try dsimp only [List.append]
    go_wp2_with (go_at_call 22; refine (h1 _).mono ?_; rintro e w1 ⟨rfl, rfl⟩)
    go_ret
    exact fin' _ (HB.out)
  | true =>
    have h1 := fun W => rterm_any W t
    rw [ht] at h1
    have fe := fin (decide (0 < sz l)) (by rw [HX.out]; simp [ht, bareB, h_n])
    clear fin HX ht h_n
    generalize sz l = SZ at *
    go_enter Tryd.func11, Tryd.ntmps11
    try dsimp only [List.append]
    go_wp2_with (first
      | (go_at_call 22; refine (h1 _).mono ?_; rintro e w1 ⟨rfl, rfl⟩)
      | (go_at_call 24; refine (hz _).mono ?_; rintro e w2 ⟨rfl, rfl⟩))
    go_ret
    exact fe _ HB.out
end Go.Proofs.YtefcjggmlhoebaaDoor
