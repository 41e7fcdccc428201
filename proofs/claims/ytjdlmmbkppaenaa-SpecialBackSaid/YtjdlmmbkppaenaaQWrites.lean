/- The bytes of any list, and of any retry: the program's are the document's. -/
import Derived.Test.YtjdlmmbkppaenaaQOf
import Derived.Test.YtjdlmmbkppaenaaQRW
import Derived.Test.YtjdlmmbkppaenaaHSame
namespace Go.Proofs.Ytjdlmmbkppaenaa
open Go Go.RowKit

theorem Ri.lit (w : World) (zs : List Int) (h : zs.length ≤ 1000) : Ri (w.alloc (.cells (zs.map (Value.int .i64)).toArray 3)) (.slice (some ⟨w.heap.size, 0, none⟩) zs.length zs.length) zs := by
  refine ⟨some ⟨w.heap.size, 0, none⟩, zs.length, rfl, Nat.le_refl _, by unfold maxLen; omega, (fun h => by cases h), fun a ha j hj => ?_⟩
  cases ha
  rw [Addr.add_lit]
  have := cell_of_row (w.alloc (.cells (zs.map (Value.int .i64)).toArray 3)) w.heap.size (0 + j) (zs.map (Value.int .i64)).toArray 3 (0, 0) (heap_alloc_new w _)
  rw [this]
  simp [hj]
set_option maxRecDepth 20000 in
theorem qawake_any (w : World) : Calls Try.prog 15 #[] w fun e w' => e = .returned (.bool true) ∧ Below w.heap.size w w' := by
  have hi := Ri.lit w [2] (by decide)
  have hB := below_alloc w (.cells ([2].map (Value.int .i64)).toArray 3)
  have hw := writelist_any (w := w.alloc (.cells ([2].map (Value.int .i64)).toArray 3)) (a2 := none) (a3 := none) (c2 := 0) (c3 := 0) (to := []) (fr := []) (Rd.nil _) (Rd.nil _) hi (by decide)
  rw [show listW [] [] [2] = [128, 0, 0, 0, 0, 0, 0, 0, 0, 0, 2] by decide] at hw
  clear hi
  go_enter Try.func15, Try.ntmps15
  go_wp2_with fail
  refine hw.mono ?_
  rintro e w1 ⟨v1, rfl, r1, b1⟩
  have B1 := Lib.hid (hB.trans (b1.mono hB.size))
  have B2 := Lib.hid (B1.out.trans ((below_alloc w1 (.cells (by8 [128, 0, 0, 0, 0, 0, 0, 0, 0, 0, 2]).toArray 5)).mono B1.out.size))
  have hs := same_true (r1.alloc (.cells (by8 [128, 0, 0, 0, 0, 0, 0, 0, 0, 0, 2]).toArray 5)) (Rd.lit w1 [128, 0, 0, 0, 0, 0, 0, 0, 0, 0, 2] (by decide) (byt_of (by decide)))
  clear r1 b1 hw
  go_wp2_with fail
  refine hs.mono ?_
  rintro e w2 ⟨rfl, b2⟩
  go_wp2_with fail
  go_ret
  exact ⟨rfl, B2.out.trans (b2.mono B2.out.size)⟩

/-- What holds as both are written: the two boxes. -/
theorem kept8 {w w' : World} {b c : Nat} {v0 v1 v2 u0 u1 u2 u3 u4 : Value} (hb : Below w.heap.size w w') (h : w.cell? ⟨b, 0, none⟩ = some v0 ∧ w.cell? ⟨b, 1, none⟩ = some v1 ∧ w.cell? ⟨b, 2, none⟩ = some v2 ∧ w.cell? ⟨c, 0, none⟩ = some u0 ∧ w.cell? ⟨c, 1, none⟩ = some u1 ∧ w.cell? ⟨c, 2, none⟩ = some u2 ∧ w.cell? ⟨c, 3, none⟩ = some u3 ∧ w.cell? ⟨c, 4, none⟩ = some u4) :
    w'.cell? ⟨b, 0, none⟩ = some v0 ∧ w'.cell? ⟨b, 1, none⟩ = some v1 ∧ w'.cell? ⟨b, 2, none⟩ = some v2 ∧ w'.cell? ⟨c, 0, none⟩ = some u0 ∧ w'.cell? ⟨c, 1, none⟩ = some u1 ∧ w'.cell? ⟨c, 2, none⟩ = some u2 ∧ w'.cell? ⟨c, 3, none⟩ = some u3 ∧ w'.cell? ⟨c, 4, none⟩ = some u4 :=
  ⟨kept hb h.1, kept hb h.2.1, kept hb h.2.2.1, kept hb h.2.2.2.1, kept hb h.2.2.2.2.1, kept hb h.2.2.2.2.2.1, kept hb h.2.2.2.2.2.2.1, kept hb h.2.2.2.2.2.2.2⟩

set_option maxRecDepth 20000 in
set_option maxHeartbeats 8000000 in
theorem writes_ok {w : World} {a2 a3 ai d2 d3 : Option Addr} {c2 c3 ci e2 e3 : Nat} {to fr vs tp fp : List Int} {ver tok tag : Int}
    (h2 : Rd w (.slice a2 to.length c2) to) (h3 : Rd w (.slice a3 fr.length c3) fr) (hi : Ri w (.slice ai vs.length ci) vs) (k2 : Rd w (.slice d2 tp.length e2) tp) (k3 : Rd w (.slice d3 fp.length e3) fp)
    (l2 : to.length ≤ 50) (l3 : fr.length ≤ 50) (li : vs.length ≤ 30) (m2 : tp.length ≤ 50) (m3 : fp.length ≤ 50) :
    Calls Try.prog 3 #[.agg #[.slice a2 to.length c2, .slice a3 fr.length c3, .slice ai vs.length ci], .agg #[.int .i64 ver, .slice d2 tp.length e2, .slice d3 fp.length e3, .int .i64 tok, .int .i64 tag]] w fun e w' => e = .returned (.bool true) ∧ Below w.heap.size w w' := by
  obtain ⟨W, hW⟩ : ∃ W, (w.alloc (.cells #[.slice a2 to.length c2, .slice a3 fr.length c3, .slice ai vs.length ci] 25)).alloc (.cells #[.int .i64 ver, .slice d2 tp.length e2, .slice d3 fp.length e3, .int .i64 tok, .int .i64 tag] 27) = W := ⟨_, rfl⟩
  have hB : Below w.heap.size w W.drew := by rw [← hW]; exact (((Below.refl _ _).alloc (Nat.le_refl _) _).alloc (by simp) _).drew
  have x0 : W.heap[w.heap.size]? = some (.cells #[.slice a2 to.length c2, .slice a3 fr.length c3, .slice ai vs.length ci] 25 (0, 0)) := by
    rw [← hW]
    exact ((below_alloc (w.alloc (.cells #[.slice a2 to.length c2, .slice a3 fr.length c3, .slice ai vs.length ci] 25)) _).block _ (by simp)).trans (heap_alloc_new w _)
  have x1 : W.heap[w.heap.size + 1]? = some (.cells #[.int .i64 ver, .slice d2 tp.length e2, .slice d3 fp.length e3, .int .i64 tok, .int .i64 tag] 27 (0, 0)) := by
    rw [← hW]
    have := heap_alloc_new (w.alloc (.cells #[.slice a2 to.length c2, .slice a3 fr.length c3, .slice ai vs.length ci] 25)) (.cells #[.int .i64 ver, .slice d2 tp.length e2, .slice d3 fp.length e3, .int .i64 tok, .int .i64 tag] 27)
    rw [World.size_alloc] at this
    exact this
  have hx : W.drew.cell? ⟨w.heap.size, 0, none⟩ = some (.slice a2 to.length c2) ∧ W.drew.cell? ⟨w.heap.size, 1, none⟩ = some (.slice a3 fr.length c3) ∧ W.drew.cell? ⟨w.heap.size, 2, none⟩ = some (.slice ai vs.length ci) ∧ W.drew.cell? ⟨w.heap.size + 1, 0, none⟩ = some (.int .i64 ver) ∧ W.drew.cell? ⟨w.heap.size + 1, 1, none⟩ = some (.slice d2 tp.length e2) ∧ W.drew.cell? ⟨w.heap.size + 1, 2, none⟩ = some (.slice d3 fp.length e3) ∧ W.drew.cell? ⟨w.heap.size + 1, 3, none⟩ = some (.int .i64 tok) ∧ W.drew.cell? ⟨w.heap.size + 1, 4, none⟩ = some (.int .i64 tag) :=
    ⟨(cell_of_row _ w.heap.size 0 _ _ (0, 0) x0).trans rfl, (cell_of_row _ w.heap.size 1 _ _ (0, 0) x0).trans rfl, (cell_of_row _ w.heap.size 2 _ _ (0, 0) x0).trans rfl, (cell_of_row _ (w.heap.size + 1) 0 _ _ (0, 0) x1).trans rfl, (cell_of_row _ (w.heap.size + 1) 1 _ _ (0, 0) x1).trans rfl, (cell_of_row _ (w.heap.size + 1) 2 _ _ (0, 0) x1).trans rfl, (cell_of_row _ (w.heap.size + 1) 3 _ _ (0, 0) x1).trans rfl, (cell_of_row _ (w.heap.size + 1) 4 _ _ (0, 0) x1).trans rfl⟩
  obtain ⟨y0, y1, y2, y3, y4, y5, y6, y7⟩ := (show W.cell? ⟨w.heap.size, 0, none⟩ = some (.slice a2 to.length c2) ∧ W.cell? ⟨w.heap.size, 1, none⟩ = some (.slice a3 fr.length c3) ∧ W.cell? ⟨w.heap.size, 2, none⟩ = some (.slice ai vs.length ci) ∧ W.cell? ⟨w.heap.size + 1, 0, none⟩ = some (.int .i64 ver) ∧ W.cell? ⟨w.heap.size + 1, 1, none⟩ = some (.slice d2 tp.length e2) ∧ W.cell? ⟨w.heap.size + 1, 2, none⟩ = some (.slice d3 fp.length e3) ∧ W.cell? ⟨w.heap.size + 1, 3, none⟩ = some (.int .i64 tok) ∧ W.cell? ⟨w.heap.size + 1, 4, none⟩ = some (.int .i64 tag) from hx)
  have l2' : (to.length : Int) ≤ 50 := by omega
  have l3' : (fr.length : Int) ≤ 50 := by omega
  have li' : (vs.length : Int) ≤ 30 := by omega
  have m2' : (tp.length : Int) ≤ 50 := by omega
  have m3' : (fp.length : Int) ≤ 50 := by omega
  have HR := Lib.hid (And.intro h2 (And.intro h3 hi))
  have HQ := Lib.hid (And.intro k2 k3)
  have HB := Lib.hid hB
  have HM : Hid (to.length ≤ 1000 ∧ fr.length ≤ 1000 ∧ vs.length ≤ 1000 ∧ tp.length ≤ 1000 ∧ fp.length ≤ 1000) := Lib.hid (by omega)
  have HM5 : Hid (vs.length ≤ 100000) := Lib.hid (by omega)
  clear x0 x1 h2 h3 hi k2 k3 l2 l3 li m2 m3
  go_enter Try.func3, Try.ntmps3
  go_wp2_with fail
  clear hW y0 y1 y2 y3 y4 y5 y6 y7
  go_region_held3 (fun w' => w'.cell? ⟨w.heap.size, 0, none⟩ = some (.slice a2 to.length c2) ∧ w'.cell? ⟨w.heap.size, 1, none⟩ = some (.slice a3 fr.length c3) ∧ w'.cell? ⟨w.heap.size, 2, none⟩ = some (.slice ai vs.length ci) ∧ w'.cell? ⟨w.heap.size + 1, 0, none⟩ = some (.int .i64 ver) ∧ w'.cell? ⟨w.heap.size + 1, 1, none⟩ = some (.slice d2 tp.length e2) ∧ w'.cell? ⟨w.heap.size + 1, 2, none⟩ = some (.slice d3 fp.length e3) ∧ w'.cell? ⟨w.heap.size + 1, 3, none⟩ = some (.int .i64 tok) ∧ w'.cell? ⟨w.heap.size + 1, 4, none⟩ = some (.int .i64 tag))
    (first | with_reducible exact hx | with_reducible exact kept8 b9 (by assumption) | with_reducible exact kept8 b8 (by assumption) | with_reducible exact kept8 b7 (by assumption) | with_reducible exact kept8 b6 (by assumption) | with_reducible exact kept8 b5 (by assumption) | with_reducible exact kept8 b4 (by assumption) | with_reducible exact kept8 b3 (by assumption) | with_reducible exact kept8 b2 (by assumption) | with_reducible exact kept8 b1 (by assumption))
    (first
      | (go_at_call 10; refine (list_any (HR.out.1.below HB.out) (HR.out.2.1.below HB.out) (HR.out.2.2.below HB.out) HM.out.1 HM.out.2.1 HM.out.2.2.1).mono ?_; rintro e w1 ⟨u2, u3, ui, rfl, hr1, b1⟩; obtain ⟨f2, g2, rfl⟩ := Rd.shape hr1.1; obtain ⟨f3, g3, rfl⟩ := Rd.shape hr1.2.1; obtain ⟨fi, gi, rfl⟩ := Ri.shape hr1.2.2; have R1 := Lib.hid hr1; have B1 := Lib.hid (HB.out.trans (b1.mono HB.out.size)); clear hr1)
      | (go_at_call 9; refine (writelist_any R1.out.1 R1.out.2.1 R1.out.2.2 HM5.out).mono ?_; rintro e w2 ⟨v2, rfl, r2, b2⟩; have R2 := Lib.hid r2; have B2 := Lib.hid (B1.out.trans (b2.mono B1.out.size)); clear r2)
      | (go_at_call 11; refine (rwritelist_any (HR.out.1.below B2.out) (HR.out.2.1.below B2.out) (HR.out.2.2.below B2.out)).mono ?_; rintro e w3 ⟨v3, rfl, r3, b3⟩; have hsm := same_true (R2.out.below b3) r3; have B3 := Lib.hid (B2.out.trans (b3.mono B2.out.size)); clear r3)
      | (go_at_call 8; refine hsm.mono ?_; rintro e w4 ⟨rfl, b4⟩; clear hsm; have B4 := Lib.hid (B3.out.trans (b4.mono B3.out.size)))
      | (go_at_call 13; refine (retry_any (HQ.out.1.below B4.out) (HQ.out.2.below B4.out) HM.out.2.2.2.1 HM.out.2.2.2.2).mono ?_; rintro e w5 ⟨u5, u6, rfl, hr5, b5⟩; obtain ⟨f5, g5, rfl⟩ := Rd.shape hr5.1; obtain ⟨f6, g6, rfl⟩ := Rd.shape hr5.2; have R5 := Lib.hid hr5; have B5 := Lib.hid (B4.out.trans (b5.mono B4.out.size)); clear hr5)
      | (go_at_call 12; refine (writeretry_any R5.out.1 R5.out.2).mono ?_; rintro e w6 ⟨v6, rfl, r6, b6⟩; have R6 := Lib.hid r6; have B6 := Lib.hid (B5.out.trans (b6.mono B5.out.size)); clear r6)
      | (go_at_call 14; refine (rwriteretry_any (HQ.out.1.below B6.out) (HQ.out.2.below B6.out)).mono ?_; rintro e w7 ⟨v7, rfl, r7, b7⟩; have hsn := same_true (R6.out.below b7) r7; have B7 := Lib.hid (B6.out.trans (b7.mono B6.out.size)); clear r7)
      | (go_at_call 8; refine hsn.mono ?_; rintro e w8 ⟨rfl, b8⟩; clear hsn; have B8 := Lib.hid (B7.out.trans (b8.mono B7.out.size)))
      | (go_at_call 15; refine (qawake_any _).mono ?_; rintro e w9 ⟨rfl, b9⟩; have B9 := Lib.hid (B8.out.trans (b9.mono B8.out.size))))
  all_goals go_wp2_with fail
  all_goals go_ret
  all_goals exact ⟨rfl, B9.out⟩
set_option maxRecDepth 20000 in
set_option maxHeartbeats 2000000 in
theorem writes_long {w : World} {a2 a3 ai d2 d3 : Option Addr} {n2 n3 ni m2 m3 c2 c3 ci e2 e3 : Nat} {ver tok tag : Int} (h : 50 < n2 ∨ 50 < n3 ∨ 30 < ni ∨ 50 < m2 ∨ 50 < m3) :
    Calls Try.prog 3 #[.agg #[.slice a2 n2 c2, .slice a3 n3 c3, .slice ai ni ci], .agg #[.int .i64 ver, .slice d2 m2 e2, .slice d3 m3 e3, .int .i64 tok, .int .i64 tag]] w fun e w' => e = .returned (.bool true) ∧ Below w.heap.size w w' := by
  have hB : Below w.heap.size w ((w.alloc (.cells #[.slice a2 n2 c2, .slice a3 n3 c3, .slice ai ni ci] 25)).alloc (.cells #[.int .i64 ver, .slice d2 m2 e2, .slice d3 m3 e3, .int .i64 tok, .int .i64 tag] 27)) := ((Below.refl _ _).alloc (Nat.le_refl _) _).alloc (by simp) _
  by_cases h1 : (50 : Int) < (n2 : Int)
  · clear h
    go_enter Try.func3, Try.ntmps3
    go_wp2_with fail
    go_ret
    exact ⟨rfl, hB⟩
  by_cases h2 : (50 : Int) < (n3 : Int)
  · clear h
    go_enter Try.func3, Try.ntmps3
    go_wp2_with fail
    go_ret
    exact ⟨rfl, hB⟩
  by_cases h3 : (30 : Int) < (ni : Int)
  · clear h
    go_enter Try.func3, Try.ntmps3
    go_wp2_with fail
    go_ret
    exact ⟨rfl, hB⟩
  by_cases h4 : (50 : Int) < (m2 : Int)
  · clear h
    go_enter Try.func3, Try.ntmps3
    go_wp2_with fail
    go_ret
    exact ⟨rfl, hB⟩
  have h5 : (50 : Int) < (m3 : Int) := by omega
  clear h
  go_enter Try.func3, Try.ntmps3
  go_wp2_with fail
  go_ret
  exact ⟨rfl, hB⟩
/-- The law. -/
theorem writes_walk {w : World} {a2 a3 ai d2 d3 : Option Addr} {c2 c3 ci e2 e3 : Nat} {to fr vs tp fp : List Int} {ver tok tag : Int}
    (h2 : Rd w (.slice a2 to.length c2) to) (h3 : Rd w (.slice a3 fr.length c3) fr) (hi : Ri w (.slice ai vs.length ci) vs) (k2 : Rd w (.slice d2 tp.length e2) tp) (k3 : Rd w (.slice d3 fp.length e3) fp) :
    Calls Try.prog 3 #[.agg #[.slice a2 to.length c2, .slice a3 fr.length c3, .slice ai vs.length ci], .agg #[.int .i64 ver, .slice d2 tp.length e2, .slice d3 fp.length e3, .int .i64 tok, .int .i64 tag]] w fun e w' => e = .returned (.bool true) ∧ Below w.heap.size w w' := by
  by_cases h : to.length ≤ 50 ∧ fr.length ≤ 50 ∧ vs.length ≤ 30 ∧ tp.length ≤ 50 ∧ fp.length ≤ 50
  · exact writes_ok h2 h3 hi k2 k3 h.1 h.2.1 h.2.2.1 h.2.2.2.1 h.2.2.2.2
  · exact writes_long (by omega)
end Go.Proofs.Ytjdlmmbkppaenaa
