/- law 6: told: a frame of the program is told as a frame of the document. -/
import Derived.Test.YtocfkkppalpamaaDoorGAll
import Derived.Test.YtocfkkppalpamaaDoorGSame
namespace Go.Proofs.YtocfkkppalpamaaDoor
open Go Go.RowKit

/-- The two boxes. -/
structure TBox (w : World) (f : Fv) (sv dv sv2 dv2 : Value) (W : World) : Prop where
  bel : Below w.heap.size w W
  b1 : W.heap[w.heap.size]? = some (.cells (fCells f sv dv) 29 (0, 0))
  b2 : W.heap[w.heap.size + 1]? = some (.cells (fCells f sv2 dv2) 33 (0, 0))
theorem TBox.size {w W : World} {f : Fv} {sv dv sv2 dv2 : Value} (h : TBox w f sv dv sv2 dv2 W) : w.heap.size + 2 ≤ W.heap.size := (Array.getElem?_eq_some_iff.1 h.b2).1
theorem TBox.below {w W W' : World} {f : Fv} {sv dv sv2 dv2 : Value} (h : TBox w f sv dv sv2 dv2 W) (hb : Below W.heap.size W W') : TBox w f sv dv sv2 dv2 W' := by
  have := h.size
  exact ⟨h.bel.trans (hb.mono (by omega)), by rw [hb.block _ (by omega)]; exact h.b1, by rw [hb.block _ (by omega)]; exact h.b2⟩
theorem TBox.new (w : World) (f : Fv) (sv dv sv2 dv2 : Value) : TBox w f sv dv sv2 dv2 ((w.alloc (.cells (fCells f sv dv) 29)).alloc (.cells (fCells f sv2 dv2) 33)) := by
  refine ⟨(below_alloc w _).alloc (by simp) _, ?_, ?_⟩
  · rw [(below_alloc (w.alloc (.cells (fCells f sv dv) 29)) _).block _ (by simp)]
    exact heap_alloc_new w _
  · have h := heap_alloc_new (w.alloc (.cells (fCells f sv dv) 29)) (.cells (fCells f sv2 dv2) 33)
    rw [World.size_alloc] at h
    exact h
theorem TBox.drewN {w W : World} {f : Fv} {sv dv sv2 dv2 : Value} (h : TBox w f sv dv sv2 dv2 W) (n : Nat) : TBox w f sv dv sv2 dv2 (W.drewN n) := h.below (drewN_below W n)
set_option maxRecDepth 20000 in
set_option maxHeartbeats 3000000 in
theorem gtold_any {w : World} {k c a t : Int} {sp : List Sp} {d : List Int} {sv dv sv2 dv2 : Value} (hs : Rs w sv sp) (hd : Rd w dv d) (hs2 : Rs w sv2 sp) (hd2 : Rd w dv2 d) :
    Calls Tryd.prog 20 #[fAgg ⟨k, c, sp, a, d, t⟩ sv dv, fAgg ⟨k, c, sp, a, d, t⟩ sv2 dv2] w fun e w' => e = .returned (.bool true) ∧ Below w.heap.size w w' := by
  have HS := Lib.hid hs
  have HS2 := Lib.hid hs2
  have HSM := Lib.hid (fun W (hb : Below w.heap.size w W) => same_true (hd.below hb) (hd2.below hb))
  have hl63 := hs.le63
  have hld := hd.le63
  obtain ⟨sa, sn, rfl⟩ := rs_shape hs
  obtain ⟨sb, sm, rfl⟩ := rs_shape hs2
  obtain ⟨da, dn, rfl⟩ := hd.shape
  obtain ⟨db, dm, rfl⟩ := hd2.shape
  have HTB := Lib.hid (TBox.new w ⟨k, c, sp, a, d, t⟩ (.slice sa sp.length sn) (.slice da d.length dn) (.slice sb sp.length sm) (.slice db d.length dm))
  unfold fCells at HTB
  obtain ⟨W0, hw0⟩ : ∃ W0, (w.alloc (.cells #[.int .i64 k, .int .i64 c, .slice sa sp.length sn, .int .i64 a, .slice da d.length dn, .int .i64 t] 29)).alloc (.cells #[.int .i64 k, .int .i64 c, .slice sb sp.length sm, .int .i64 a, .slice db d.length dm, .int .i64 t] 33) = W0 := ⟨_, rfl⟩
  dsimp only at HTB
  rw [hw0] at HTB
  clear hs hs2 hd hd2
  obtain ⟨x0, x1, x2, x3, x4, x5, xf⟩ := fcells_of HTB.out.b1
  obtain ⟨y0, y1, y2, y3, y4, y5, yf⟩ := fcells_of HTB.out.b2
  have n1 : (k != k) = false := by simp
  have n2 : (c != c) = false := by simp
  have n3 : (a != a) = false := by simp
  have n4 : (t != t) = false := by simp
  have n5 : ((sp.length : Int) != (sp.length : Int)) = false := by simp
  unfold fAgg
  go_enter Tryd.func20, Tryd.ntmps20
  go_wp2_with (go_at_call 16; refine (HSM.out _ HTB.out.bel).mono ?_; rintro e w2 ⟨rfl, hb2⟩; have HT2 := Lib.hid (HTB.out.below hb2); clear hb2; obtain ⟨u0, u1, u2, u3, u4, u5, uf⟩ := fcells_of HT2.out.b1; obtain ⟨v0, v1, v2, v3, v4, v5, vf⟩ := fcells_of HT2.out.b2)
  clear x0 x1 x2 x3 x4 x5 xf y0 y1 y2 y3 y4 y5 yf u0 u1 u2 u3 u4 u5 uf v0 v1 v2 v3 v4 v5 vf n1 n2 n3 n4 n5
  go_loopw [5] (fun i wr => ∃ j : Nat, i = .int .i64 j ∧ j ≤ sp.length ∧ Hid (TBox w ⟨k, c, sp, a, d, t⟩ (.slice sa sp.length sn) (.slice da d.length dn) (.slice sb sp.length sm) (.slice db d.length dm) wr)) (fun i _ => sp.length - (intOf i).toNat)
  case atStart => exact ⟨0, rfl, by omega, HT2⟩
  case round =>
    rename_i wr
    obtain ⟨j, rfl, hj, HR⟩ := hrel
    have hj' : (j : Int) ≤ (sp.length : Int) := by omega
    obtain ⟨x0, x1, x2, x3, x4, x5, xf⟩ := fcells_of HR.out.b1
    obtain ⟨y0, y1, y2, y3, y4, y5, yf⟩ := fcells_of HR.out.b2
    clear x0 x1 x3 x4 x5 xf y0 y1 y3 y4 y5 yf
    by_cases hlt : j < sp.length
    · have hlt' : (j : Int) < (sp.length : Int) := by omega
      obtain ⟨b, off, cap, e0, hb, hat⟩ := HS.out.at (by omega)
      simp only [Value.slice.injEq] at e0
      obtain ⟨rfl, _, rfl⟩ := e0
      obtain ⟨b', off', cap', e0, hb', hat'⟩ := HS2.out.at (by omega)
      simp only [Value.slice.injEq] at e0
      obtain ⟨rfl, _, rfl⟩ := e0
      obtain ⟨z1, z2⟩ := hat.below HR.out.bel j hlt
      obtain ⟨z3, z4⟩ := hat'.below HR.out.bel j hlt
      clear hat hat' hb hb'
      generalize (sp.getD j (0, 0)).1 = p1 at *
      generalize (sp.getD j (0, 0)).2 = p2 at *
      have m1 : (p1 != p1) = false := by simp
      have m2 : (p2 != p2) = false := by simp
      have hj0 : j = 0 ∨ 0 < j := by omega
      rcases hj0 with rfl | hj0
      · simp only [Nat.zero_mul, Nat.add_zero] at z1 z2 z3 z4
        go_wp2_with fail
        go_quiet (fail)
        go_wp2_with fail
        go_roundw
        case rel => exact ⟨1, by go_num, by omega, Lib.hid (HR.out.drewN _)⟩
        case measure => simp [intOf]; omega
      · go_wp2_with fail
        go_quiet (fail)
        go_wp2_with fail
        go_roundw
        case rel => exact ⟨j + 1, by go_num, by omega, Lib.hid (HR.out.drewN _)⟩
        case measure => simp [intOf]; omega
    · obtain rfl : j = sp.length := by omega
      go_wp2_with fail
      go_ret
      exact ⟨rfl, HR.out.bel⟩
#print axioms gtold_any
end Go.Proofs.YtocfkkppalpamaaDoor
