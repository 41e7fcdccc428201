/- frame: written. -/
import Derived.Test.YtgcgmgcgbnepeaaDoorGW3
import Derived.Deep.RegionHeld3
namespace Go.Proofs.YtgcgmgcgbnepeaaDoor
open Go Go.RowKit

theorem numB_big {t : Int} (h : 1 ≤ t ∧ t ≤ 65536) : numB t = gbig t 4 := by
  rw [numB_yes h]
  simp [gbig]
  omega
theorem keepT {base : Nat} {w w' : World} {B j : Nat} {x : Value} (hb : Below base w w') (h : B < base) (hx : w.cell? ⟨B, j, none⟩ = some x) : w'.cell? ⟨B, j, none⟩ = some x := by
  rw [hb.cell (p := ⟨B, j, none⟩) h]; exact hx
/-- What written tells. -/
def WrPost (w : World) (zs : List Int) (e : Ending) (w' : World) : Prop := ∃ v', e = .returned v' ∧ Rd w' v' zs ∧ Below w.heap.size w w'
theorem wrpost {w w' : World} {v : Value} {xs zs : List Int} (h : Rd w' v xs) (e : xs = zs) (hb : Below w.heap.size w w') : WrPost w zs (.returned v) w' := ⟨v, rfl, e ▸ h, hb⟩
theorem byt_one {z : Int} (h : 0 ≤ z ∧ z ≤ 255) : Byt [z] := fun y hy => by
  obtain rfl := List.mem_singleton.1 hy
  exact h
/-- The box and the first byte. -/
def W1 (w : World) (k c : Int) (sv : Value) (a : Int) (dv : Value) (t : Int) : World := (w.alloc (.cells #[.int .i64 k, .int .i64 c, sv, .int .i64 a, dv, .int .i64 t] 29)).alloc (.cells #[.int .u8 k] 5)
theorem W1_below (w : World) (k c : Int) (sv : Value) (a : Int) (dv : Value) (t : Int) : Below w.heap.size w (W1 w k c sv a dv t) := (below_alloc w _).alloc (by simp) _
theorem W1_size (w : World) (k c : Int) (sv : Value) (a : Int) (dv : Value) (t : Int) : (W1 w k c sv a dv t).heap.size = w.heap.size + 2 := by simp [W1]
theorem W1_row (w : World) (k c : Int) (sv : Value) (a : Int) (dv : Value) (t : Int) (h : 0 ≤ k ∧ k ≤ 255) : Rd (W1 w k c sv a dv t) (.slice (some ⟨w.heap.size + 1, 0, none⟩) 1 1) [k] := by
  have := Rd.lit (w.alloc (.cells #[.int .i64 k, .int .i64 c, sv, .int .i64 a, dv, .int .i64 t] 29)) [k] (by simp) (byt_one h)
  rw [World.size_alloc] at this
  exact this
theorem W1_own (w : World) (k c : Int) (sv : Value) (a : Int) (dv : Value) (t : Int) : (W1 w k c sv a dv t).ownsRow w.heap.size 5 1 (.slice (some ⟨w.heap.size + 1, 0, none⟩) 1 1) 1 (by8 [k]) := by
  have := own_lit (w.alloc (.cells #[.int .i64 k, .int .i64 c, sv, .int .i64 a, dv, .int .i64 t] 29)) [k] (by simp)
  rw [World.size_alloc] at this
  exact own_mono this (by omega)
theorem W1_box (w : World) (k c : Int) (sv : Value) (a : Int) (dv : Value) (t : Int) : (W1 w k c sv a dv t).heap[w.heap.size]? = some (.cells #[.int .i64 k, .int .i64 c, sv, .int .i64 a, dv, .int .i64 t] 29 (0, 0)) :=
  (Below.heap_alloc _ _ w.heap.size (by simp)).trans (heap_alloc_new w _)
theorem made_zeros (n : Nat) : (madeCells (Value.int .u8 0).cells (n * 1)).toList = by8 (List.replicate n 0) := by
  have e : (Value.int IntKind.u8 0).cells = #[.int .u8 0] := rfl
  simp only [madeCells, e, by8, List.map_replicate, Nat.mul_one]
  apply List.ext_getElem
  · simp
  · intro i h1 h2
    simp [Nat.mod_one]
set_option maxRecDepth 20000 in
set_option maxHeartbeats 2000000 in
theorem written_k1 {w : World} {c : Int} {sp : List Sp} {a : Int} {d : List Int} {t : Int} {sa da : Option Addr} {sc dc : Nat} : Calls Tryd.prog 27 #[fAgg ⟨1, c, sp, a, d, t⟩ (.slice sa sp.length sc) (.slice da d.length dc)] w (WrPost w (wrF ⟨1, c, sp, a, d, t⟩)) := by
  unfold fAgg
  have hr := W1_row w 1 c (.slice sa sp.length sc) a (.slice da d.length dc) t (by decide)
  have hb := W1_below w 1 c (.slice sa sp.length sc) a (.slice da d.length dc) t
  unfold W1 at *
  go_enter Tryd.func27, Tryd.ntmps27
  go_wp2_with fail
  go_ret
  exact wrpost hr (by simp [wrF]) hb
set_option maxRecDepth 20000 in
set_option maxHeartbeats 2000000 in
theorem written_k30 {w : World} {c : Int} {sp : List Sp} {a : Int} {d : List Int} {t : Int} {sa da : Option Addr} {sc dc : Nat} : Calls Tryd.prog 27 #[fAgg ⟨30, c, sp, a, d, t⟩ (.slice sa sp.length sc) (.slice da d.length dc)] w (WrPost w (wrF ⟨30, c, sp, a, d, t⟩)) := by
  unfold fAgg
  have hr := W1_row w 30 c (.slice sa sp.length sc) a (.slice da d.length dc) t (by decide)
  have hb := W1_below w 30 c (.slice sa sp.length sc) a (.slice da d.length dc) t
  unfold W1 at *
  go_enter Tryd.func27, Tryd.ntmps27
  go_wp2_with fail
  go_ret
  exact wrpost hr (by simp [wrF]) hb
set_option maxRecDepth 20000 in
set_option maxHeartbeats 2000000 in
theorem written_k0 {w : World} {c : Int} {sp : List Sp} {a : Int} {d : List Int} {t : Int} {sa da : Option Addr} {sc dc : Nat} (h : 1 ≤ c ∧ c ≤ 1200) : Calls Tryd.prog 27 #[fAgg ⟨0, c, sp, a, d, t⟩ (.slice sa sp.length sc) (.slice da d.length dc)] w (WrPost w (wrF ⟨0, c, sp, a, d, t⟩)) := by
  unfold fAgg
  obtain ⟨n, rfl⟩ : ∃ n : Nat, c = n := ⟨c.toNat, by omega⟩
  have hb := W1_below w 0 n (.slice sa sp.length sc) a (.slice da d.length dc) t
  have HW := Lib.hid hb
  have hsz := W1_size w 0 n (.slice sa sp.length sc) a (.slice da d.length dc) t
  obtain ⟨i, hi, hz0, hz1, hz2⟩ := info_row5
  unfold W1 at *
  clear hb
  go_enter Tryd.func27, Tryd.ntmps27
  go_wp2_with (at_make; refine wpList_make_full _ rfl _ _ 26 rfl (w.heap.size + 2) 5 i (.int .u8 0) 1 Tryd.underlying26 hi hz0 hz1 .i64 .i64 _ _ n rfl rfl (by omega) (by omega) (by rw [hz2]; omega) (by unfold maxLen; omega) (by simp) ?_; intro w1 hown1 hg1)
  go_ret
  rw [made_zeros] at hown1
  have hr := (Rd.of_own hown1 (fun z hz => by rw [List.eq_of_mem_replicate hz]; omega)).1
  simp only [World.size_alloc] at hr
  exact wrpost (v := .slice (some ⟨w.heap.size + 2, 0, none⟩) n n) hr (by simp [wrF]) (HW.out.trans ((below_made hg1).mono (by simp; omega)))
set_option maxRecDepth 20000 in
set_option maxHeartbeats 2000000 in
theorem written_k2 {w : World} {c : Int} {sp : List Sp} {a : Int} {d : List Int} {t : Int} {sa da : Option Addr} {sc dc : Nat} (hs : Rs w (.slice sa sp.length sc) sp) (hk : ackP sp) (ht : Tab w) (hw : 1 < w.heap.size) : Calls Tryd.prog 27 #[fAgg ⟨2, c, sp, a, d, t⟩ (.slice sa sp.length sc) (.slice da d.length dc)] w (WrPost w (wrF ⟨2, c, sp, a, d, t⟩)) := by
  unfold fAgg
  have hb := W1_below w 2 c (.slice sa sp.length sc) a (.slice da d.length dc) t
  have hA := aspans_any (W1_row w 2 c (.slice sa sp.length sc) a (.slice da d.length dc) t (by decide)) (by simp) (hs.below hb) hk (ht.below hb) (by have := hb.size; omega)
  have HB := Lib.hid hb
  unfold W1 at *
  clear hb hs hk ht
  go_enter Tryd.func27, Tryd.ntmps27
  go_wp2_with (go_at_call 38; refine hA.mono ?_; rintro e w2 ⟨v2, rfl, hr2, hb2⟩)
  go_ret
  exact wrpost hr2 (by simp [wrF]) (HB.out.trans (hb2.mono HB.out.size))
set_option maxRecDepth 20000 in
set_option maxHeartbeats 2000000 in
theorem written_k28 {w : World} {c : Int} {sp : List Sp} {a : Int} {d : List Int} {t : Int} {sa da : Option Addr} {sc dc : Nat} (ht : Tab w) (hw : 1 < w.heap.size) : Calls Tryd.prog 27 #[fAgg ⟨28, c, sp, a, d, t⟩ (.slice sa sp.length sc) (.slice da d.length dc)] w (WrPost w (wrF ⟨28, c, sp, a, d, t⟩)) := by
  unfold fAgg
  have hb := W1_below w 28 c (.slice sa sp.length sc) a (.slice da d.length dc) t
  have hr := W1_row w 28 c (.slice sa sp.length sc) a (.slice da d.length dc) t (by decide)
  have hA := append_any hr (by simp) c (ht.below hb) (by have := hb.size; omega)
  have HB := Lib.hid hb
  have HR := Lib.hid hr
  unfold W1 at *
  clear hb ht hr
  go_enter Tryd.func27, Tryd.ntmps27
  go_wp2_with (go_at_call 40; refine hA.mono ?_; rintro e w2 ⟨v2, rfl, ho2, hb2⟩)
  go_ret
  exact wrpost (Rd.of_own ho2 (HR.out.byt.app (enc_byt c))).1 (by simp [wrF]) (HB.out.trans (hb2.mono HB.out.size))
set_option maxRecDepth 20000 in
set_option maxHeartbeats 2000000 in
theorem written_k7 {w : World} {c : Int} {sp : List Sp} {a : Int} {d : List Int} {t : Int} {sa da : Option Addr} {sc dc : Nat} (hT : 1 ≤ t ∧ t ≤ 65536) : Calls Tryd.prog 27 #[fAgg ⟨7, c, sp, a, d, t⟩ (.slice sa sp.length sc) (.slice da d.length dc)] w (WrPost w (wrF ⟨7, c, sp, a, d, t⟩)) := by
  unfold fAgg
  have hb := W1_below w 7 c (.slice sa sp.length sc) a (.slice da d.length dc) t
  have hr := W1_row w 7 c (.slice sa sp.length sc) a (.slice da d.length dc) t (by decide)
  have ho := W1_own w 7 c (.slice sa sp.length sc) a (.slice da d.length dc) t
  have hA := inumber_any t (W1 w 7 c (.slice sa sp.length sc) a (.slice da d.length dc) t)
  have HB := Lib.hid hb
  have HR := Lib.hid hr
  have HO := Lib.hid ho
  have HT := Lib.hid (numB_big hT)
  have HL : Hid ((numB t).length = 4) := Lib.hid (by rw [numB_yes hT]; rfl)
  generalize numB t = L at *
  unfold W1 at *
  clear hb hr ho
  go_enter Tryd.func27, Tryd.ntmps27
  go_wp2_with (first
    | (go_at_call 36; refine hA.mono ?_; rintro e w2 ⟨v2, rfl, hr2, hb2⟩)
    | (at_builtin; refine wpList_append_bytes (.tmp 32) (.tmp 35) 26 rfl rfl info5 Tryd.underlying26 w.heap.size _ 1 [7] rfl (own_below HO.out hb2) _ L rfl hr2 (by rw [HL.out]; omega) (by have := hb2.size; have := HB.out.size; omega) ?_; intro v3 w3 hown3 hb3))
  go_ret
  exact wrpost (Rd.of_own hown3 ((byt_one (by decide)).app hr2.byt)).1 (by simp [wrF, HT.out]) ((HB.out.trans (hb2.mono HB.out.size)).trans hb3)
set_option maxRecDepth 20000 in
set_option maxHeartbeats 2000000 in
theorem written_k6 {w : World} {c : Int} {sp : List Sp} {a : Int} {d : List Int} {t : Int} {sa da : Option Addr} {sc dc : Nat} (hd : Rd w (.slice da d.length dc) d) (hdl : d.length ≤ 1000) (ht : Tab w) (hw : 1 < w.heap.size) : Calls Tryd.prog 27 #[fAgg ⟨6, c, sp, a, d, t⟩ (.slice sa sp.length sc) (.slice da d.length dc)] w (WrPost w (wrF ⟨6, c, sp, a, d, t⟩)) := by
  unfold fAgg
  have hb := W1_below w 6 c (.slice sa sp.length sc) a (.slice da d.length dc) t
  have hr := W1_row w 6 c (.slice sa sp.length sc) a (.slice da d.length dc) t (by decide)
  have hA := append_any hr.drew (by simp) a ((ht.below hb).drew) (by have := hb.size; simp; omega)
  have HB := Lib.hid hb
  have HR := Lib.hid hr
  have HD := Lib.hid hd
  have HT := Lib.hid ht
  obtain ⟨c0, c1, c2, c3, c4, c5, cf⟩ := fcells (f := ⟨6, c, sp, a, d, t⟩) (W1_box w 6 c (.slice sa sp.length sc) a (.slice da d.length dc) t)
  have hsz := W1_size w 6 c (.slice sa sp.length sc) a (.slice da d.length dc) t
  have hen := enc_len a
  clear hb hr ht hd
  unfold W1 at *
  go_enter Tryd.func27, Tryd.ntmps27
  go_wp2_with fail
  go_region_with (first
    | (go_at_call 40; refine hA.mono ?_; rintro e w2 ⟨v2, rfl, ho2, hb2⟩; have hbw := HB.out.trans ((Below.refl _ _).drew.trans (hb2.mono (by simp; omega))); have hr2 := (Rd.of_own ho2 (HR.out.byt.app (enc_byt a))).1; have hG := give_any hr2 (HD.out.below hbw) (by simp; omega) hdl (HT.out.below hbw) (by have := hbw.size; omega); have q4 : w2.cell? ⟨w.heap.size, 4, none⟩ = some (.slice da d.length dc) := keepT hb2 (by simp; omega) c4; obtain ⟨a2, k2, rfl⟩ := own_shape ho2)
    | (go_at_call 39; refine hG.mono ?_; rintro e w3 ⟨v3, rfl, ho3, hb3⟩))
  all_goals go_wp2_with fail
  all_goals go_ret
  all_goals exact wrpost (Rd.of_own ho3 ((hr2.byt.app (enc_byt _)).app HD.out.byt)).1 (by simp [wrF]) (hbw.trans (hb3.mono hbw.size))
set_option maxRecDepth 20000 in
set_option maxHeartbeats 2000000 in
theorem written_k8 {w : World} {c : Int} {sp : List Sp} {a : Int} {d : List Int} {t : Int} {sa da : Option Addr} {sc dc : Nat} (hT : 1 ≤ t ∧ t ≤ 65536) (ht : Tab w) (hw : 1 < w.heap.size) : Calls Tryd.prog 27 #[fAgg ⟨8, c, sp, a, d, t⟩ (.slice sa sp.length sc) (.slice da d.length dc)] w (WrPost w (wrF ⟨8, c, sp, a, d, t⟩)) := by
  unfold fAgg
  have hb := W1_below w 8 c (.slice sa sp.length sc) a (.slice da d.length dc) t
  have hr := W1_row w 8 c (.slice sa sp.length sc) a (.slice da d.length dc) t (by decide)
  have hA := append_any hr.drew (by simp) c ((ht.below hb).drew) (by have := hb.size; simp; omega)
  have HB := Lib.hid hb
  have HR := Lib.hid hr
  obtain ⟨c0, c1, c2, c3, c4, c5, cf⟩ := fcells (f := ⟨8, c, sp, a, d, t⟩) (W1_box w 8 c (.slice sa sp.length sc) a (.slice da d.length dc) t)
  have hsz := W1_size w 8 c (.slice sa sp.length sc) a (.slice da d.length dc) t
  have hen := enc_len c
  have hN := fun w2 => inumber_any t w2
  have HT := Lib.hid (numB_big hT)
  have HL : Hid ((numB t).length = 4) := Lib.hid (by rw [numB_yes hT]; rfl)
  generalize numB t = L at *
  clear hb hr ht
  unfold W1 at *
  go_enter Tryd.func27, Tryd.ntmps27
  go_wp2_with fail
  have hlt : w.heap.size < w.heap.size + 2 := by omega
  have d1 : (((w.alloc (.cells #[.int .i64 8, .int .i64 c, .slice sa sp.length sc, .int .i64 a, .slice da d.length dc, .int .i64 t] 29)).alloc (.cells #[.int .u8 8] 5)).drew).cell? ⟨w.heap.size, 1, none⟩ = some (.int .i64 c) := c1
  have d5 : (((w.alloc (.cells #[.int .i64 8, .int .i64 c, .slice sa sp.length sc, .int .i64 a, .slice da d.length dc, .int .i64 t] 29)).alloc (.cells #[.int .u8 8] 5)).drew).cell? ⟨w.heap.size, 5, none⟩ = some (.int .i64 t) := c5
  go_region_held3 (fun w' => w'.cell? ⟨w.heap.size, 1, none⟩ = some (.int .i64 c) ∧ w'.cell? ⟨w.heap.size, 5, none⟩ = some (.int .i64 t))
    (first | with_reducible exact ⟨d1, d5⟩ | with_reducible exact ⟨g1, g5⟩ | with_reducible exact ⟨h1, h5⟩ | with_reducible exact ⟨k1, k5⟩)
    (first
      | (go_at_call 40; refine hA.mono ?_; rintro e w2 ⟨v2, rfl, ho2, hb2⟩; have hbw := HB.out.trans ((Below.refl _ _).drew.trans (hb2.mono (by simp; omega))); have g1 : w2.cell? ⟨w.heap.size, 1, none⟩ = some (.int .i64 c) := keepT hb2 (by simp; omega) c1; have g5 : w2.cell? ⟨w.heap.size, 5, none⟩ = some (.int .i64 t) := keepT hb2 (by simp; omega) c5)
      | (go_at_call 36; refine (hN _).mono ?_; rintro e w3 ⟨v3, rfl, hr3, hb3⟩; have h1 := keepT hb3 (cell_lt g1) g1; have h5 := keepT hb3 (cell_lt g5) g5; have ho3 := own_mono (own_below ho2 hb3) (show w.heap.size + 1 ≤ _ by simp); have hs3 : w.heap.size + 1 ≤ w3.heap.size := cell_lt h1)
      | (refine step_append_bytes (by rfl) _ _ (by rfl) (w.heap.size + 1) v2 _ ([8] ++ enc c) (by rfl) ho3 v3 L (by rfl) hr3 ?_ hs3 ?_; (rw [HL.out]; simp; omega); intro v4 w4 hown4 hb4; have k1 := keepT hb4 (Nat.lt_succ_self _) h1; have k5 := keepT hb4 (Nat.lt_succ_self _) h5))
  all_goals go_wp2_with fail
  all_goals go_ret
  all_goals exact wrpost (Rd.of_own hown4 (((byt_one (by decide)).app (enc_byt _)).app hr3.byt)).1 (by simp [wrF, HT.out]) ((hbw.trans (hb3.mono hbw.size)).trans (hb4.mono (Nat.le_succ _)))
theorem written_any {w : World} {f : Fv} {sv dv : Value} (hs : Rs w sv f.sp) (hd : Rd w dv f.d) (hr : rightF f) (ht : Tab w) (hw : 1 < w.heap.size) : Calls Tryd.prog 27 #[fAgg f sv dv] w (WrPost w (wrF f)) := by
  obtain ⟨k, c, sp, a, d, t⟩ := f
  obtain ⟨sa, sc, rfl⟩ := rs_shape hs
  obtain ⟨da, dc, rfl⟩ := hd.shape
  simp only [rightF] at hr hd hs
  rcases hr with ⟨rfl, h1, h2, _⟩ | ⟨rfl | rfl, _⟩ | ⟨rfl, _, hA, _⟩ | ⟨rfl, _, _, hA, hD, _⟩ | ⟨rfl, _, _, _, _, hT⟩ | ⟨rfl, hC, _, _, _, hT⟩ | ⟨rfl, hC, _⟩
  · exact written_k0 ⟨h1, h2⟩
  · exact written_k1
  · exact written_k30
  · exact written_k2 hs ((ack_iff sp).2 hA) ht hw
  · exact written_k6 hd hD.2 ht hw
  · exact written_k7 hT
  · exact written_k8 hT ht hw
  · exact written_k28 ht hw
#print axioms written_any
end Go.Proofs.YtgcgmgcgbnepeaaDoor
