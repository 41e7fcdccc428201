/- law 14: light; told of two messages that are the same. -/
import Derived.Test.YtefcjggmlhoebaaDoorHOf
import Derived.Test.YtefcjggmlhoebaaDoorHOk
namespace Go.Proofs.YtefcjggmlhoebaaDoor
open Go Go.RowKit

theorem ret_bl14 {a b : Bool} (h : a = b) : Ending.returned (.bool a) = .returned (.bool b) := by rw [h]
def mlightB (pl : Nat) (n : ByteArray) : Bool := decide (pl ≤ 600) && decide (n.size ≤ 100)
set_option maxRecDepth 20000 in
set_option maxHeartbeats 2000000 in
theorem mlight_any (w : World) (k r s t m : Int) (f : Bool) (a : Option Addr) (pl c : Nat) (n : ByteArray) (v l : Int) : Calls Tryd.prog 8 #[.agg (mcl k r s t m f (.slice a pl c) n v l)] w fun e w' => e = .returned (.bool (mlightB pl n)) ∧ Below w.heap.size w w' := by
  have hm0 := rbox_new w k r s t m f (.slice a pl c) n v l
  have B0 := below_alloc w (.cells (mcl k r s t m f (.slice a pl c) n v l) 24)
  obtain ⟨⟨c0, c1, c2, c3, c4, c5, c6, c7, c8, c9⟩, cf⟩ := hm0.cells
  unfold mcl at *
  clear hm0
  by_cases h1 : pl ≤ 600
  case neg =>
    have e1 : decide ((pl : Int) ≤ 600) = false := decide_eq_false (by omega)
    have HD : Hid (mlightB pl n = false) := Lib.hid (by unfold mlightB; rw [decide_eq_false h1]; rfl)
    clear h1
    go_enter Tryd.func8, Tryd.ntmps8
    go_wp2_with fail
    go_ret
    exact ⟨ret_bl14 HD.out.symm, B0⟩
  have e1 : decide ((pl : Int) ≤ 600) = true := decide_eq_true (by omega)
  by_cases h2 : n.size ≤ 100
  case neg =>
    have e2 : decide ((n.size : Int) ≤ 100) = false := decide_eq_false (by omega)
    have HD : Hid (mlightB pl n = false) := Lib.hid (by unfold mlightB; rw [decide_eq_false h2, Bool.and_false])
    clear h1 h2
    go_enter Tryd.func8, Tryd.ntmps8
    go_wp2_with fail
    go_ret
    exact ⟨ret_bl14 HD.out.symm, B0⟩
  have e2 : decide ((n.size : Int) ≤ 100) = true := decide_eq_true (by omega)
  have HD : Hid (mlightB pl n = true) := Lib.hid (by unfold mlightB; rw [decide_eq_true h1, decide_eq_true h2]; rfl)
  clear h1 h2
  go_enter Tryd.func8, Tryd.ntmps8
  go_wp2_with fail
  go_ret
  exact ⟨ret_bl14 HD.out.symm, B0⟩
set_option maxRecDepth 20000 in
set_option maxHeartbeats 4000000 in
theorem mtold_true (w : World) (k r s t m : Int) (f : Bool) (a : Option Addr) (p : List Int) (c : Nat) (a2 : Option Addr) (d : Nat) (n : ByteArray) (v l : Int) (h1 : Rd w (.slice a p.length c) p) (h2 : Rd w (.slice a2 p.length d) p) :
    Calls Tryd.prog 18 #[.agg (mcl k r s t m f (.slice a p.length c) n v l), .agg (mcl k r s t m f (.slice a2 p.length d) n v l)] w fun e w' => e = .returned (.bool true) ∧ Below w.heap.size w w' := by
  have hm0 := mbox_new w k r s t m f (.slice a p.length c) n v l
  have B0 := below_alloc w (.cells (mcl k r s t m f (.slice a p.length c) n v l) 28)
  have hn1 := rbox_new (w.alloc (.cells (mcl k r s t m f (.slice a p.length c) n v l) 28)) k r s t m f (.slice a2 p.length d) n v l
  have B1 := below_alloc (w.alloc (.cells (mcl k r s t m f (.slice a p.length c) n v l) 28)) (.cells (mcl k r s t m f (.slice a2 p.length d) n v l) 24)
  have hm1 := hm0.below B1
  rw [World.size_alloc] at hn1
  have hsm := same_any ((h1.below B0).below B1) ((h2.below B0).below B1)
  rw [decide_eq_true rfl] at hsm
  have BB := Lib.hid (B0.trans (B1.mono B0.size))
  have HM := Lib.hid hm1
  have HN := Lib.hid hn1
  obtain ⟨⟨c0, c1, c2, c3, c4, c5, c6, c7, c8, c9⟩, cf⟩ := hm1.cells
  obtain ⟨⟨d0, d1, d2, d3, d4, d5, d6, d7, d8, d9⟩, df⟩ := hn1.cells
  clear hm0 hm1 hn1 B0 B1 h1 h2
  unfold mcl at *
  go_enter Tryd.func18, Tryd.ntmps18
  try dsimp only [List.append]
  go_wp2_with (go_at_call 14; refine hsm.mono ?_; rintro e w2 ⟨rfl, hb2⟩; have B2 := Lib.hid (BB.out.trans (hb2.mono BB.out.size)); have hm2 := HM.out.below hb2; have hn2 := HN.out.below hb2; clear hb2 c0 c1 c2 c3 c4 c5 c6 c7 c8 c9 cf d0 d1 d2 d3 d4 d5 d6 d7 d8 d9 df; obtain ⟨⟨c0, c1, c2, c3, c4, c5, c6, c7, c8, c9⟩, cf⟩ := hm2.cells; obtain ⟨⟨d0, d1, d2, d3, d4, d5, d6, d7, d8, d9⟩, df⟩ := hn2.cells)
  go_ret
  exact ⟨by simp, B2.out⟩
#print axioms mtold_true
end Go.Proofs.YtefcjggmlhoebaaDoor
