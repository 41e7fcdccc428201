/- HelloCut: a message that is cut short, or has a byte more, is none: the walk. -/
import Derived.Test.YtefcjggmlhoebaaDoorHLAgain
namespace Go.Proofs.YtefcjggmlhoebaaDoor
open Go Go.RowKit

theorem hread_none_post {ok : List Int → Bool} {zs : List Int} {w : World} {e : Ending} {w' : World} (hno : hRead ok zs = none) (h : HRP ok zs w e w') : ∃ a c, e = .returned (.tuple #[.agg (mcl 0 0 0 0 0 false (.slice a 0 c) ⟨#[]⟩ 0 0), .int .i64 3]) ∧ Below w.heap.size w w' := by
  obtain ⟨x, vp, n, rfl, hrx, _, hb, ⟨rfl, _, rfl⟩ | ⟨_, h2⟩⟩ := h
  · obtain ⟨a, c, rfl⟩ := hrx.shape
    exact ⟨a, c, rfl, hb⟩
  · rw [hno] at h2; cases h2
set_option maxRecDepth 20000 in
set_option maxHeartbeats 8000000 in
theorem hhcut_walk {w : World} {v : Value} {zs : List Int} (q : Nat) (hq : q ≤ 65535) (hr : Rd w v zs) (hp : Plain v) (ht : Tab w) (hw : 1 < w.heap.size) :
    Calls Tryd.prog 7 #[v, .int .u16 (q : Int)] w fun e w' => e = .returned (.bool true) ∧ Below w.heap.size w w' := by
  have hl := hr.len
  by_cases h8 : 800 < zs.length
  · obtain ⟨ao, cap, rfl⟩ := hr.shape
    have h8' : decide ((800 : Int) < (zs.length : Int)) = true := decide_eq_true (by omega)
    clear hr hp ht hw
    go_enter Tryd.func7, Tryd.ntmps7
    go_wp2_with fail
    go_ret
    exact ⟨rfl, Below.refl _ _⟩
  have h8' : decide ((800 : Int) < (zs.length : Int)) = false := decide_eq_false (by omega)
  rcases hr.cases with ⟨rfl, ao, cap, rfl, _⟩ | ⟨b, off, cap, rfl, hpos, hlc, hcap, _, _⟩
  · clear hr hp ht hw
    go_enter Tryd.func7, Tryd.ntmps7
    go_wp2_with fail
    go_ret
    exact ⟨rfl, Below.refl _ _⟩
  have hz0 : ((zs.length : Int) == 0) = false := by rw [beq_eq_false_iff_ne]; omega
  have hwq : wrap64 (q : Int) = (q : Int) := by unfold wrap64; omega
  have hrd := hread_any prok vrok hr hp (by omega)
  have HR := Lib.hid hr
  have HT := Lib.hid ht
  have HW := Lib.hid hw
  have hbt := hr.byt
  clear hr hp ht hw
  go_enter Tryd.func7, Tryd.ntmps7
  go_wp2_with fail
  refine hrd.mono ?_
  unfold HRP
  rintro e w1 ⟨x, vp, n, rfl, hrx, hpx, hb1, hcase⟩
  obtain ⟨ax, cx, rfl⟩ := hrx.shape
  have hY := below_alloc w1 (.cells (mcl x.k x.r x.s x.t x.m x.f (.slice ax x.p.length cx) (bstr x.n) x.v x.l) 28)
  have HB2 := Lib.hid (hb1.trans (hY.mono hb1.size))
  unfold mAgg mcl at *
  rcases hcase with ⟨rfl, -, -⟩ | ⟨rfl, hyes⟩
  · clear hrd hrx
    go_wp2_with (go_at_call 13; refine (hhawake_any _ (HT.out.below HB2.out) (by have := HW.out; have := HB2.out.size; omega)).mono ?_; rintro e w4 ⟨rfl, hb4⟩)
    go_ret
    exact ⟨rfl, HB2.out.trans (hb4.mono HB2.out.size)⟩
  · obtain ⟨k, hkm⟩ : ∃ k : Nat, k = q % zs.length := ⟨_, rfl⟩
    have hkl : k < zs.length := by rw [hkm]; exact Nat.mod_lt _ hpos
    have hmi : (q : Int) % (zs.length : Int) = (k : Int) := by rw [hkm]; omega
    have hmt : (q : Int).tmod (zs.length : Int) = (k : Int) := by rw [Int.tmod_eq_emod_of_nonneg (by omega)]; exact hmi
    have hno1 := hread_cut hyes hkl
    have hno2 := hread_more hyes 0
    have hr2 := HR.out.below HB2.out
    have hrd2 := hread_any prok vrok (hr2.take k (by omega)) (.inr ⟨_, _, _, _, rfl⟩) (by rw [List.length_take]; omega)
    have HNO1 := Lib.hid hno1
    have HNO2 := Lib.hid hno2
    clear hrd hyes hno1 hno2 hrx hpx hb1 hkm hr2 hY
    go_wp2_with fail
    generalize w1.alloc (.cells #[.int .i64 x.k, .int .i64 x.r, .int .i64 x.s, .int .i64 x.t, .int .i64 x.m, .bool x.f, .slice ax x.p.length cx, .string (bstr x.n), .int .i64 x.v, .int .i64 x.l] 28) = W2 at *
    refine hrd2.mono ?_
    rintro e w3 hpost
    obtain ⟨a3, c3, rfl, hb3⟩ := hread_none_post HNO1.out hpost
    have hY3 := below_alloc w3 (.cells (mcl 0 0 0 0 0 false (.slice a3 0 c3) ⟨#[]⟩ 0 0) 28)
    have HB4 := Lib.hid ((HB2.out.trans (hb3.mono HB2.out.size)).trans (hY3.mono (Nat.le_trans HB2.out.size hb3.size)))
    have HR4 := Lib.hid (HR.out.below HB4.out)
    unfold mcl at *
    clear hrd2 hpost hb3 hY3
    have hO := own_fresh (w3.alloc (.cells #[.int .i64 0, .int .i64 0, .int .i64 0, .int .i64 0, .int .i64 0, .bool false, .slice a3 0 c3, .string ⟨#[]⟩, .int .i64 0, .int .i64 0] 28)) 5
    rw [World.size_alloc] at hO
    have hs3 : w.heap.size ≤ w3.heap.size + 1 := by have := HB4.out.size; simpa using this
    have hbe := HB4.out.trans ((below_alloc (w3.alloc (.cells #[.int .i64 0, .int .i64 0, .int .i64 0, .int .i64 0, .int .i64 0, .bool false, .slice a3 0 c3, .string ⟨#[]⟩, .int .i64 0, .int .i64 0] 28)) (.cells #[] 5)).mono HB4.out.size)
    have hse : w3.heap.size + 1 ≤ ((w3.alloc (.cells #[.int .i64 0, .int .i64 0, .int .i64 0, .int .i64 0, .int .i64 0, .bool false, .slice a3 0 c3, .string ⟨#[]⟩, .int .i64 0, .int .i64 0] 28)).alloc (.cells #[] 5)).heap.size := by simp
    have HBE := Lib.hid hbe
    have hby : Byt (zs ++ [0]) := hbt.app (byt_of (by decide))
    go_wp2_with (first
      | (at_builtin; refine wpList_append_bytes (.tmp 41) (.tmp 42) 22 rfl rfl info5 Tryd.underlying22 (w3.heap.size + 1) _ _ zs rfl hO2 _ [0] rfl hR0 (by simp only [List.length_cons, List.length_nil]; omega) hsz5 ?_; intro v6 w6 hown6 hb6; have hra6 := ra_own hown6 hby; obtain ⟨a6, c6, rfl⟩ := own_shapeH hown6; have hrd6 := hread_any prok vrok hra6.1.rd hra6.2 (by simp only [List.length_append, List.length_cons, List.length_nil]; omega); have HB6 := Lib.hid (HB5.out.trans (hb6.mono hs3)))
      | (at_builtin; refine wpList_append_bytes (.tmp 39) (.tmp 40) 22 rfl rfl info5 Tryd.underlying22 (w3.heap.size + 1) _ 0 [] rfl hO _ zs rfl (HR4.out.alloc _) (by omega) (by simp) ?_; intro v5 w5 hown5 hb5; simp only [List.nil_append, Nat.zero_add] at hown5; have hy5 := below_alloc w5 (.cells #[.int .u8 0] 5); have hO2 := own_below hown5 hy5; have hR0 := Rd.lit w5 [0] (by simp) (byt_of (by decide)); have hsz5 : w3.heap.size + 1 ≤ (w5.alloc (.cells #[.int .u8 0] 5)).heap.size := Nat.le_trans (Nat.le_trans hse hb5.size) hy5.size; obtain ⟨a5, c5, rfl⟩ := own_shapeH hown5; have hbz := HBE.out.trans (hb5.mono hs3); have HB5 := Lib.hid (hbz.trans (hy5.mono hbz.size)))
      | (go_at_call 16; refine hrd6.mono ?_; rintro e w7 hpost; obtain ⟨a7, c7, rfl, hb7⟩ := hread_none_post HNO2.out hpost; have HB7 := Lib.hid ((HB6.out.trans (hb7.mono HB6.out.size)).trans ((below_alloc w7 (.cells (mcl 0 0 0 0 0 false (.slice a7 0 c7) ⟨#[]⟩ 0 0) 28)).mono (Nat.le_trans HB6.out.size hb7.size))); unfold mcl at HB7; unfold mcl)
      | (go_at_call 13; refine (hhawake_any _ (HT.out.below HB7.out) (by have := HW.out; have := HB7.out.size; omega)).mono ?_; rintro e w8 ⟨rfl, hb8⟩))
    go_ret
    exact ⟨rfl, HB7.out.trans (hb8.mono HB7.out.size)⟩
theorem hhcut_int {w : World} {v : Value} {zs : List Int} {x : Int} (hx : 0 ≤ x ∧ x ≤ 65535) (hr : Rd w v zs) (hp : Plain v) (ht : Tab w) (hw : 1 < w.heap.size) :
    Calls Tryd.prog 7 #[v, .int .u16 x] w fun e w' => e = .returned (.bool true) ∧ Below w.heap.size w w' := by
  obtain ⟨q, rfl⟩ : ∃ q : Nat, x = (q : Int) := ⟨x.toNat, by omega⟩
  exact hhcut_walk q (by omega) hr hp ht hw
#print axioms hhcut_int
end Go.Proofs.YtefcjggmlhoebaaDoor
