/- The bytes of a header: the document's. -/
import Derived.Test.YtnnllnbegmdfaaaDoorHWrite
import Derived.Test.YtnnllnbegmdfaaaDoorBytes
namespace Go.Proofs.YtnnllnbegmdfaaaDoor
open Go Go.RowKit

theorem Bx.mkR {h : Hv} {a2 : Option Addr} {c2 : Nat} {a3 : Option Addr} {c3 : Nat} {a4 : Option Addr} {c4 : Nat} {B : Nat} {w : World} (hbx : w.heap[B]? = some (.cells #[.int .i64 h.k, .int .i64 h.v, .slice a2 h.to.length c2, .slice a3 h.fr.length c3, .slice a4 h.tk.length c4, .int .i64 h.p, .int .i64 h.n, .int .i64 h.w] 24 (0, 0))) : Bx h a2 c2 a3 c3 a4 c4 B w ∧ w.cell? ⟨B, 5, none⟩ = some (.int .i64 h.p) :=
  ⟨⟨(cell_of_row _ B 0 _ 24 (0, 0) hbx).trans rfl, (cell_of_row _ B 1 _ 24 (0, 0) hbx).trans rfl, (cell_of_row _ B 2 _ 24 (0, 0) hbx).trans rfl, (cell_of_row _ B 3 _ 24 (0, 0) hbx).trans rfl, (cell_of_row _ B 4 _ 24 (0, 0) hbx).trans rfl, (cell_of_row _ B 6 _ 24 (0, 0) hbx).trans rfl, (cell_of_row _ B 7 _ 24 (0, 0) hbx).trans rfl⟩, (cell_of_row _ B 5 _ 24 (0, 0) hbx).trans rfl⟩

set_option maxRecDepth 20000 in
set_option maxHeartbeats 4000000 in
theorem refwrite_short (w : World) (h : Hv) (n : Int) (a2 : Option Addr) (c2 : Nat) (a3 : Option Addr) (c3 : Nat) (a4 : Option Addr) (c4 : Nat) (hr : Hr w h (.slice a2 h.to.length c2) (.slice a3 h.fr.length c3) (.slice a4 h.tk.length c4)) (hX : rightB h = true) (hk : h.k = 3) :
    Calls Tryd.prog 16 #[.agg #[.int .i64 h.k, .int .i64 h.v, .slice a2 h.to.length c2, .slice a3 h.fr.length c3, .slice a4 h.tk.length c4, .int .i64 h.p, .int .i64 h.n, .int .i64 h.w], .int .i64 n] w fun e w' => ∃ v', e = .returned v' ∧ w'.ownsRow w.heap.size 5 1 v' (wrB h n).length (by8 (wrB h n)) ∧ Below w.heap.size w w' := by
  have hf : shortB h = true := by unfold rightB at hX; rw [if_neg (by omega), if_neg (by omega), if_pos hk] at hX; exact hX
  unfold shortB numB fitsB at hf
  simp only [Bool.and_eq_true, Bool.or_eq_true, decide_eq_true_eq] at hf
  obtain ⟨⟨⟨⟨⟨f1, f2⟩, f3⟩, f4⟩, f5⟩, ⟨f6, f7⟩, f8, f9⟩ := hf
  have hB := below_alloc w (.cells #[.int .i64 h.k, .int .i64 h.v, .slice a2 h.to.length c2, .slice a3 h.fr.length c3, .slice a4 h.tk.length c4, .int .i64 h.p, .int .i64 h.n, .int .i64 h.w] 24)
  have hbx := Bx.mkR (h := h) (a2 := a2) (c2 := c2) (a3 := a3) (c3 := c3) (a4 := a4) (c4 := c4) (heap_alloc_new w (.cells #[.int .i64 h.k, .int .i64 h.v, .slice a2 h.to.length c2, .slice a3 h.fr.length c3, .slice a4 h.tk.length c4, .int .i64 h.p, .int .i64 h.n, .int .i64 h.w] 24))
  have k3 : (h.k == 3) = true := by simp [hk]
  obtain ⟨k, hkw⟩ : ∃ k : Nat, h.w = (k : Int) := ⟨h.w.toNat, by omega⟩
  have HKW := Lib.hid hkw
  have HW : Hid (wrB h n = [64 + 4 * h.p + h.w - 1] ++ h.to ++ big h.n k) := Lib.hid (by unfold wrB; rw [if_pos hk, hkw, show 64 + 4 * h.p + (k : Int) - 1 = 64 + 4 * h.p + ((k : Int) - 1) by omega]; rfl)
  have HN9 : Hid (h.n < 4294967296) := Lib.hid (by
    have := pow_le h.w f6 f7
    omega)
  have HK4 := Lib.hid (show k ≤ 4 by omega)
  have HT8 := Lib.hid f2
  have Hr0 := Lib.hid hr
  have hp0 : 0 ≤ h.p := by omega
  have hp1 : h.p ≤ 1 := by omega
  have x0 := hbx.1.x0
  have x2 := hbx.1.x2
  have x5 := hbx.2
  have x6 := hbx.1.x6
  have x7 := hbx.1.x7
  have f8' := f8
  have hZ0 : 0 ≤ 64 + 4 * h.p + h.w - 1 ∧ 64 + 4 * h.p + h.w - 1 ≤ 255 := by omega
  have hO : ((w.alloc (.cells #[.int .i64 h.k, .int .i64 h.v, .slice a2 h.to.length c2, .slice a3 h.fr.length c3, .slice a4 h.tk.length c4, .int .i64 h.p, .int .i64 h.n, .int .i64 h.w] 24)).alloc (.cells (by8 [64 + 4 * h.p + h.w - 1]).toArray 5)).ownsRow (w.heap.size + 1) 5 1 (.slice (some ⟨w.heap.size + 1, 0, none⟩) 1 1) 1 (by8 [64 + 4 * h.p + h.w - 1]) := by
    have := own_lit (w.alloc (.cells #[.int .i64 h.k, .int .i64 h.v, .slice a2 h.to.length c2, .slice a3 h.fr.length c3, .slice a4 h.tk.length c4, .int .i64 h.p, .int .i64 h.n, .int .i64 h.w] 24)) [64 + 4 * h.p + h.w - 1] (by simp)
    rw [show (w.alloc (.cells #[.int .i64 h.k, .int .i64 h.v, .slice a2 h.to.length c2, .slice a3 h.fr.length c3, .slice a4 h.tk.length c4, .int .i64 h.p, .int .i64 h.n, .int .i64 h.w] 24)).heap.size = w.heap.size + 1 from by simp] at this
    exact this
  have hM : Below w.heap.size w ((w.alloc (.cells #[.int .i64 h.k, .int .i64 h.v, .slice a2 h.to.length c2, .slice a3 h.fr.length c3, .slice a4 h.tk.length c4, .int .i64 h.p, .int .i64 h.n, .int .i64 h.w] 24)).alloc (.cells (by8 [64 + 4 * h.p + h.w - 1]).toArray 5)) := hB.trans ((below_alloc _ _).mono (by simp))
  have hRT := hr.to.below hM
  have hs9 : w.heap.size + 1 ≤ ((w.alloc (.cells #[.int .i64 h.k, .int .i64 h.v, .slice a2 h.to.length c2, .slice a3 h.fr.length c3, .slice a4 h.tk.length c4, .int .i64 h.p, .int .i64 h.n, .int .i64 h.w] 24)).alloc (.cells (by8 [64 + 4 * h.p + h.w - 1]).toArray 5)).heap.size := by simp
  have hl9 : 1 + h.to.length ≤ 140737488355328 := by omega
  have z6 := keepS (below_alloc _ (.cells (by8 [64 + 4 * h.p + h.w - 1]).toArray 5)) x6
  have z7 := keepS (below_alloc _ (.cells (by8 [64 + 4 * h.p + h.w - 1]).toArray 5)) x7
  have HM := Lib.hid hM
  have HZ := Lib.hid hZ0
  clear f1 f2 f3 f4 f5 f9 hX hk hkw hr hbx hM hB hZ0
  go_enter Tryd.func16, Tryd.ntmps16
  go_wp2_with (at_builtin; refine wpList_append_bytes (.tmp 19) (.tmp 21) 22 rfl rfl info5 Tryd.underlying22 (w.heap.size + 1) _ 1 [64 + 4 * h.p + h.w - 1] rfl hO _ h.to rfl hRT hl9 hs9 ?_; intro v2 w2 hown2 hb2; have q6 := keepT hb2 (Nat.lt_succ_self _) z6; have q7 := keepT hb2 (Nat.lt_succ_self _) z7; clear z6 z7)
  have hbig := refbig_any (w := w2) h.n f8' HN9.out k HK4.out
  rw [← HKW.out] at hbig
  refine hbig.mono ?_
  rintro e w3 ⟨v3, rfl, hown3, hb3⟩
  have hsz2 := hb2.size
  have HO3 := Lib.hid (own_below hown2 hb3)
  have HR3 := Lib.hid (Rd.of_own hown3 (big_byt _ _)).1
  have hl3 : 1 + h.to.length + (big h.n k).length ≤ 140737488355328 := by rw [big_len]; have := HT8.out; have := HK4.out; omega
  have hs3 : w.heap.size + 1 ≤ w3.heap.size := Nat.le_trans hs9 (Nat.le_trans hb2.size hb3.size)
  have HB3 := Lib.hid ((HM.out.trans (hb2.mono (Nat.le_succ _))).trans (hb3.mono (Nat.le_trans (Nat.le_trans (Nat.le_succ _) hs9) hb2.size)))
  clear hown2 hown3 hb2 hb3 hbig hO hRT hs9 q6 q7 x0 x2 x5 x6 x7 hsz2
  go_wp2_with (at_builtin; refine wpList_append_bytes (.tmp 23) (.tmp 28) 22 rfl rfl info5 Tryd.underlying22 (w.heap.size + 1) v2 _ _ rfl HO3.out v3 _ rfl HR3.out hl3 hs3 ?_; intro v4 w4 hown4 hb4)
  go_ret
  refine ⟨_, rfl, ?_, HB3.out.trans (hb4.mono (Nat.le_succ _))⟩
  rw [HW.out]
  exact own_len (own_mono hown4 (Nat.le_succ _)) (by simp [big_len]; omega)

set_option maxRecDepth 20000 in
set_option maxHeartbeats 2000000 in
theorem refgive_any {w : World} {v : Value} {zs : List Int} (hr : Rd w v zs) (hl : zs.length ≤ 1000) :
    Calls Tryd.prog 28 #[v] w fun e w' => ∃ v', e = .returned v' ∧ w'.ownsRow w.heap.size 5 1 v' ((enc zs.length).length + zs.length) (by8 (enc zs.length ++ zs)) ∧ Below w.heap.size w w' := by
  have hr' := hr
  obtain ⟨ao, cap, rfl, _⟩ := hr'
  have hl8 := enc_len zs.length
  go_enter Tryd.func28, Tryd.ntmps28
  go_wp2_with fail
  refine (bytes_any (zs.length : Int)).mono ?_
  rintro e w1 ⟨v1, rfl, hown1, hb1⟩
  have hR := hr.below hb1
  have hs := hb1.size
  have hl9 : (enc (zs.length : Int)).length + zs.length ≤ 140737488355328 := by omega
  go_wp2_with (at_builtin; refine wpList_append_bytes (.tmp 5) (.tmp 6) 22 rfl rfl info5 Tryd.underlying22 w.heap.size _ _ _ rfl hown1 _ zs rfl hR hl9 hs ?_; intro v2 w2 hown2 hb2)
  go_ret
  exact ⟨_, rfl, hown2, hb1.trans hb2⟩
theorem keep3 {w w' : World} {a b c : Addr} {x y z : Value} (hb : Below w.heap.size w w') (h : w.cell? a = some x ∧ w.cell? b = some y ∧ w.cell? c = some z) : w'.cell? a = some x ∧ w'.cell? b = some y ∧ w'.cell? c = some z :=
  ⟨keepS hb h.1, keepS hb h.2.1, keepS hb h.2.2⟩
theorem keepT3 {base : Nat} {w w' : World} {B i j k : Nat} {x y z : Value} (hb : Below base w w') (hlt : B < base) (h : w.cell? ⟨B, i, none⟩ = some x ∧ w.cell? ⟨B, j, none⟩ = some y ∧ w.cell? ⟨B, k, none⟩ = some z) : w'.cell? ⟨B, i, none⟩ = some x ∧ w'.cell? ⟨B, j, none⟩ = some y ∧ w'.cell? ⟨B, k, none⟩ = some z :=
  ⟨keepT hb hlt h.1, keepT hb hlt h.2.1, keepT hb hlt h.2.2⟩

set_option maxRecDepth 20000 in
set_option maxHeartbeats 8000000 in
theorem refwrite_long (w : World) (h : Hv) (n : Int) (a2 : Option Addr) (c2 : Nat) (a3 : Option Addr) (c3 : Nat) (a4 : Option Addr) (c4 : Nat) (hr : Hr w h (.slice a2 h.to.length c2) (.slice a3 h.fr.length c3) (.slice a4 h.tk.length c4)) (hX : rightB h = true) (hk : h.k = 0 ∨ h.k = 1 ∨ h.k = 2) (hn : 0 ≤ n ∧ n ≤ 16384) :
    Calls Tryd.prog 16 #[.agg #[.int .i64 h.k, .int .i64 h.v, .slice a2 h.to.length c2, .slice a3 h.fr.length c3, .slice a4 h.tk.length c4, .int .i64 h.p, .int .i64 h.n, .int .i64 h.w], .int .i64 n] w fun e w' => ∃ v', e = .returned v' ∧ w'.ownsRow w.heap.size 5 1 v' (wrB h n).length (by8 (wrB h n)) ∧ Below w.heap.size w w' := by
  have hf : longB h = true ∧ h.tk.length ≤ 64 := by
    unfold rightB at hX
    rcases hk with hk | hk | hk
    · rw [if_pos hk] at hX; simpa using hX
    · rw [if_neg (by omega), if_pos (.inl hk)] at hX
      simp only [Bool.and_eq_true, decide_eq_true_eq] at hX
      exact ⟨hX.1, by omega⟩
    · rw [if_neg (by omega), if_pos (.inr hk)] at hX
      simp only [Bool.and_eq_true, decide_eq_true_eq] at hX
      exact ⟨hX.1, by omega⟩
  obtain ⟨hf, f10⟩ := hf
  unfold longB numB fitsB at hf
  simp only [Bool.and_eq_true, decide_eq_true_eq] at hf
  obtain ⟨⟨⟨⟨⟨f1, f2⟩, f3⟩, f4⟩, f5⟩, ⟨f6, f7⟩, f8, f9⟩ := hf
  have hB := below_alloc w (.cells #[.int .i64 h.k, .int .i64 h.v, .slice a2 h.to.length c2, .slice a3 h.fr.length c3, .slice a4 h.tk.length c4, .int .i64 h.p, .int .i64 h.n, .int .i64 h.w] 24)
  have hbx := (Bx.mkR (h := h) (a2 := a2) (c2 := c2) (a3 := a3) (c3 := c3) (a4 := a4) (c4 := c4) (heap_alloc_new w (.cells #[.int .i64 h.k, .int .i64 h.v, .slice a2 h.to.length c2, .slice a3 h.fr.length c3, .slice a4 h.tk.length c4, .int .i64 h.p, .int .i64 h.n, .int .i64 h.w] 24))).1
  have k3 : (h.k == 3) = false := beq_eq_false_iff_ne.2 (by omega)
  have hn1 := hn.1
  have hn2 := hn.2
  have hk0 : 0 ≤ h.k := by omega
  have hk2 : h.k ≤ 2 := by omega
  obtain ⟨k, hkw⟩ : ∃ k : Nat, h.w = (k : Int) := ⟨h.w.toNat, by omega⟩
  have HKW := Lib.hid hkw
  have HN9 : Hid (h.n < 4294967296) := Lib.hid (by
    have := pow_le h.w f6 f7
    omega)
  have HK4 := Lib.hid (show k ≤ 4 by omega)
  have hZ0 : 0 ≤ 192 + 16 * h.k + h.w - 1 ∧ 192 + 16 * h.k + h.w - 1 ≤ 255 := by omega
  have HW : Hid (wrB h n = [192 + 16 * h.k + h.w - 1] ++ big h.v 4 ++ [(h.to.length : Int)] ++ h.to ++ [(h.fr.length : Int)] ++ h.fr ++ (if h.k = 0 then enc h.tk.length ++ h.tk else []) ++ enc (h.w + n) ++ big h.n k) := Lib.hid (by unfold wrB; rw [if_neg (by omega), hkw, show 192 + 16 * h.k + (k : Int) - 1 = 192 + 16 * h.k + ((k : Int) - 1) by omega]; rfl)
  have Hr0 := Lib.hid hr
  have f8' := f8
  have hv0 : 0 ≤ h.v := Int.le_of_lt f1
  have hv1 : h.v < 4294967296 := f2
  have HL3 := Lib.hid f3
  have HL4 := Lib.hid f4
  have HL10 := Lib.hid f10
  have u2 := u8_len h.to.length f3
  have u3 := u8_len h.fr.length f4
  have g1 : IntKind.i64.wrap (16 * h.k) = 16 * h.k := IntWalk.i64_in _ (by omega)
  have g2 : IntKind.i64.wrap (192 + 16 * h.k) = 192 + 16 * h.k := IntWalk.i64_in _ (by omega)
  have g3 : IntKind.i64.wrap (192 + 16 * h.k + h.w) = 192 + 16 * h.k + h.w := IntWalk.i64_in _ (by omega)
  have g4 : IntKind.i64.wrap (192 + 16 * h.k + h.w - 1) = 192 + 16 * h.k + h.w - 1 := IntWalk.i64_in _ (by omega)
  have g5 : IntKind.u8.wrap (192 + 16 * h.k + h.w - 1) = 192 + 16 * h.k + h.w - 1 := IntWalk.u8_in _ hZ0
  obtain ⟨w1, hw1⟩ : ∃ w1, w1 = w.alloc (.cells #[.int .i64 h.k, .int .i64 h.v, .slice a2 h.to.length c2, .slice a3 h.fr.length c3, .slice a4 h.tk.length c4, .int .i64 h.p, .int .i64 h.n, .int .i64 h.w] 24) := ⟨_, rfl⟩
  have hsz1 : w.heap.size < w1.heap.size := by rw [hw1]; simp
  have HSE : Hid (w1.heap.size = w.heap.size + 1) := Lib.hid (by rw [hw1]; simp)
  have x0 := hbx.x0
  have HBX := Lib.hid (show Bx h a2 c2 a3 c3 a4 c4 w.heap.size w1 from by rw [hw1]; exact hbx)
  have HBW := Lib.hid (show Below w.heap.size w w1 from by rw [hw1]; exact hB)
  clear f1 f2 f5 f9 hX hk hkw hr hn hB
  go_enter Tryd.func16, Tryd.ntmps16
  go_wp2_with fail
  rw [← hw1]
  clear hw1 x0 hbx
  have y0 : w1.drew.cell? ⟨w.heap.size, 0, none⟩ = some (.int .i64 h.k) := HBX.out.x0
  have y7 : w1.drew.cell? ⟨w.heap.size, 7, none⟩ = some (.int .i64 h.w) := HBX.out.x7
  have y1 : w1.drew.cell? ⟨w.heap.size, 1, none⟩ = some (.int .i64 h.v) := HBX.out.x1
  have HZ := Lib.hid hZ0
  clear hZ0
  go_region_held3 (fun w' => w'.cell? ⟨w.heap.size, 0, none⟩ = some (.int .i64 h.k) ∧ w'.cell? ⟨w.heap.size, 7, none⟩ = some (.int .i64 h.w) ∧ w'.cell? ⟨w.heap.size, 1, none⟩ = some (.int .i64 h.v))
    (first | with_reducible exact ⟨y0, y7, y1⟩ | with_reducible exact keep3 (below_alloc _ _) (by assumption) | with_reducible exact keep3 hb3 (by assumption) | with_reducible exact keepT3 hb4 hsz1 (by assumption))
    (first
      | (go_at_call 27; refine (refbig_any h.v hv0 hv1 4 (by decide)).mono ?_; rintro e w3 ⟨v3, rfl, hown3, hb3⟩)
      | (refine step_append_bytes (by rfl) _ _ (by rfl) w1.heap.size _ 1 [192 + 16 * h.k + h.w - 1] (by rfl) (own_below (own_lit w1.drew [192 + 16 * h.k + h.w - 1] (by simp)) hb3) v3 (big h.v 4) (by rfl) (Rd.of_own hown3 (big_byt _ _)).1 ?_ (Nat.le_trans (by simp) hb3.size) ?_; (simp [big_len]); intro v4 w4 hown4 hb4)
      | (refine step_append_bytes (by rfl) _ _ (by rfl) w1.heap.size _ 1 [192 + 16 * h.k + h.w - 1] (by rfl) (own_mono (own_lit w3 [192 + 16 * h.k + h.w - 1] (by simp)) hb3.size) v3 (big h.v 4) (by rfl) ((Rd.of_own hown3 (big_byt _ _)).1.alloc _) ?_ (Nat.le_trans hb3.size (by simp)) ?_; (simp [big_len]); intro v4 w4 hown4 hb4))
  all_goals
    have HB2 : Hid (Bx h a2 c2 a3 c3 a4 c4 w.heap.size w4) := Lib.hid (by first | exact ((HBX.out.to (below_alloc w1 (.cells #[.int .u8 (192 + 16 * h.k + h.w - 1)] 5)).drew hsz1).to hb3 (by simp; omega)).to hb4 hsz1 | exact (((HBX.out.to (Below.refl w1.heap.size w1).drew hsz1).to hb3 (by simpa using hsz1)).to (below_alloc w3 (.cells #[.int .u8 (192 + 16 * h.k + h.w - 1)] 5)) (by have := hb3.size; simp at this; omega)).to hb4 hsz1)
    have HBW2 : Hid (Below w.heap.size w w4) := Lib.hid (by first | exact ((HBW.out.trans ((below_alloc w1 (.cells #[.int .u8 (192 + 16 * h.k + h.w - 1)] 5)).drew.mono (Nat.le_of_lt hsz1))).trans (hb3.mono (by simp; omega))).trans (hb4.mono (Nat.le_of_lt hsz1)) | exact ((HBW.out.drew.trans (hb3.mono (by simpa using Nat.le_of_lt hsz1))).trans ((below_alloc w3 (.cells #[.int .u8 (192 + 16 * h.k + h.w - 1)] 5)).mono (by have := hb3.size; simp at this; omega))).trans (hb4.mono (Nat.le_of_lt hsz1)))
    have HO2 := Lib.hid hown4
    have hsz2 : w1.heap.size ≤ w4.heap.size := Nat.le_trans (by have := hb3.size; simp at this ⊢; omega) hb4.size
    clear hown4 hown3 hb4 hb3 y0 y7 y1 g1 g2 g3 g4 g5
    generalize 192 + 16 * h.k + h.w - 1 = Z at *
    obtain ⟨v2, w2, e1, e2⟩ : ∃ (u : Value) (W : World), u = v4 ∧ W = w4 := ⟨_, _, rfl, rfl⟩
    subst e1; subst e2
    have y2 : w2.drew.cell? ⟨w.heap.size, 2, none⟩ = some (.slice a2 h.to.length c2) := HB2.out.x2
    go_wp2_with fail

    have hb81 : 0 ≤ (h.to.length : Int) ∧ (h.to.length : Int) ≤ 255 := by have := HL3.out; omega
    have hR1 := Rd.lit w2.drew [(h.to.length : Int)] (by simp) (byt1 hb81)
    have hO1 : (w2.drew.alloc (.cells (by8 [(h.to.length : Int)]).toArray 5)).ownsRow w1.heap.size 5 1 v2 _ (by8 ([Z] ++ big h.v 4)) := HO2.out.alloc _
    have hM1 : Below w.heap.size w (w2.drew.alloc (.cells (by8 [(h.to.length : Int)]).toArray 5)) := HBW2.out.drew.trans ((below_alloc w2.drew _).mono HBW2.out.size)
    have hs91 : w1.heap.size ≤ (w2.drew.alloc (.cells (by8 [(h.to.length : Int)]).toArray 5)).heap.size := by simp; omega
    have hl91 : h.to.length ≤ 20 := HL3.out
    clear hb81
    go_region_held3 (fun w' => w'.cell? ⟨w.heap.size, 2, none⟩ = some (.slice a2 h.to.length c2))
      (first | with_reducible exact y2 | with_reducible exact keepS (below_alloc _ _) y2 | with_reducible exact keepT hb3 hsz1 (keepS (below_alloc _ _) y2) | with_reducible exact keepT hb4 hsz1 (keepT hb3 hsz1 (keepS (below_alloc _ _) y2)))
      (first
        | (refine step_append_bytes (by rfl) _ _ (by rfl) w1.heap.size v2 _ _ (by rfl) hO1 _ _ (by rfl) hR1 ?_ hs91 ?_; (simp [big_len]; try omega); intro v3 w3 hown3 hb3)
        | (refine step_append_bytes (by rfl) _ _ (by rfl) w1.heap.size v3 _ _ (by rfl) hown3 (.slice a2 h.to.length c2) h.to (by rfl) (Hr0.out.to.below (hM1.trans (hb3.mono (Nat.le_of_lt hsz1)))) ?_ (Nat.le_trans hs91 hb3.size) ?_; (simp [big_len]; omega); intro v4 w4 hown4 hb4))
    obtain ⟨v5, w5, e1, e2⟩ : ∃ (u : Value) (W : World), u = v4 ∧ W = w4 := ⟨_, _, rfl, rfl⟩
    subst e1; subst e2
    have HB5 := Lib.hid (((HB2.out.to (below_alloc w2 (.cells #[.int .u8 (h.to.length : Int)] 5)).drew (by omega)).to hb3 hsz1).to hb4 hsz1)
    have HBW5 := Lib.hid ((hM1.trans (hb3.mono (Nat.le_of_lt hsz1))).trans (hb4.mono (Nat.le_of_lt hsz1)))
    have HO5 := Lib.hid hown4
    have hszw5 : w1.heap.size ≤ w5.heap.size := Nat.le_trans hs91 (Nat.le_trans hb3.size hb4.size)
    clear hown4 hown3 hb4 hb3 hR1 hO1 hM1 hs91 hl91 y2 hsz2
    have y3 : w5.drew.cell? ⟨w.heap.size, 3, none⟩ = some (.slice a3 h.fr.length c3) := HB5.out.x3
    go_wp2_with fail

    have hb82 : 0 ≤ (h.fr.length : Int) ∧ (h.fr.length : Int) ≤ 255 := by have := HL4.out; omega
    have hR2 := Rd.lit w5.drew [(h.fr.length : Int)] (by simp) (byt1 hb82)
    have hO2 : (w5.drew.alloc (.cells (by8 [(h.fr.length : Int)]).toArray 5)).ownsRow w1.heap.size 5 1 v5 _ (by8 ([Z] ++ big h.v 4 ++ [(h.to.length : Int)] ++ h.to)) := HO5.out.alloc _
    have hM2 : Below w.heap.size w (w5.drew.alloc (.cells (by8 [(h.fr.length : Int)]).toArray 5)) := HBW5.out.drew.trans ((below_alloc w5.drew _).mono HBW5.out.size)
    have hs92 : w1.heap.size ≤ (w5.drew.alloc (.cells (by8 [(h.fr.length : Int)]).toArray 5)).heap.size := by simp; omega
    have hl92 : h.fr.length ≤ 20 := HL4.out
    clear hb82
    go_region_held3 (fun w' => w'.cell? ⟨w.heap.size, 3, none⟩ = some (.slice a3 h.fr.length c3))
      (first | with_reducible exact y3 | with_reducible exact keepS (below_alloc _ _) y3 | with_reducible exact keepT hb3 hsz1 (keepS (below_alloc _ _) y3) | with_reducible exact keepT hb4 hsz1 (keepT hb3 hsz1 (keepS (below_alloc _ _) y3)))
      (first
        | (refine step_append_bytes (by rfl) _ _ (by rfl) w1.heap.size v5 _ _ (by rfl) hO2 _ _ (by rfl) hR2 ?_ hs92 ?_; (simp [big_len]; try omega); intro v3 w3 hown3 hb3)
        | (refine step_append_bytes (by rfl) _ _ (by rfl) w1.heap.size v3 _ _ (by rfl) hown3 (.slice a3 h.fr.length c3) h.fr (by rfl) (Hr0.out.fr.below (hM2.trans (hb3.mono (Nat.le_of_lt hsz1)))) ?_ (Nat.le_trans hs92 hb3.size) ?_; (simp [big_len]; omega); intro v4 w4 hown4 hb4))
    obtain ⟨v6, w6, e1, e2⟩ : ∃ (u : Value) (W : World), u = v4 ∧ W = w4 := ⟨_, _, rfl, rfl⟩
    subst e1; subst e2
    have HB6 := Lib.hid (((HB5.out.to (below_alloc w5 (.cells #[.int .u8 (h.fr.length : Int)] 5)).drew (by omega)).to hb3 hsz1).to hb4 hsz1)
    have HBW6 := Lib.hid ((hM2.trans (hb3.mono (Nat.le_of_lt hsz1))).trans (hb4.mono (Nat.le_of_lt hsz1)))
    have HO6 := Lib.hid hown4
    have hszw6 : w1.heap.size ≤ w6.heap.size := Nat.le_trans hs92 (Nat.le_trans hb3.size hb4.size)
    clear hown4 hown3 hb4 hb3 hR2 hO2 hM2 hs92 hl92 y3 hszw5
    have x0 := HB6.out.x0
    by_cases hk : h.k = 0
    · have k0 : (h.k == 0) = true := by simp [hk]
      have HK := Lib.hid hk
      have x4 := HB6.out.x4
      clear hk
      go_wp2_with fail
      refine (refgive_any (Hr0.out.tk.below HBW6.out) (by have := HL10.out; omega)).mono ?_
      rintro e w7 ⟨v7, rfl, hown7, hb7⟩
      have HR7 := Lib.hid (Rd.of_own hown7 ((enc_byt _).app Hr0.out.tk.byt)).1
      have HO7 := Lib.hid (own_below HO6.out hb7)
      have hs7 : w1.heap.size ≤ w7.heap.size := Nat.le_trans hszw6 hb7.size
      have HB7 := Lib.hid (HB6.out.to hb7 (Nat.lt_of_lt_of_le hsz1 hszw6))
      have HBW7 := Lib.hid (HBW6.out.trans (hb7.mono HBW6.out.size))
      clear hown7 hb7 x0 x4
      go_wp2_with (at_builtin; refine wpList_append_bytes (.tmp 67) (.tmp 70) 22 rfl rfl info5 Tryd.underlying22 w1.heap.size v6 _ _ rfl HO7.out v7 _ rfl HR7.out ?_ hs7 ?_; (have := HL3.out; have := HL4.out; have := HL10.out; have := HK4.out; have := enc_len (h.tk.length : Int); have := enc_len (h.w + n); simp [big_len]; omega); intro v8 w8 hown8 hb8; have x7 := keepT hb8 hsz1 HB7.out.x7)
      have HO8 := Lib.hid hown8
      have HB8 := Lib.hid (HB7.out.to hb8 hsz1)
      have HBW8 := Lib.hid (HBW7.out.trans (hb8.mono (Nat.le_of_lt hsz1)))
      have hszq : w1.heap.size ≤ w8.heap.size := Nat.le_trans hs7 hb8.size
      clear hown8 hb8
      refine (bytes_any (w := w8) (h.w + n)).mono ?_
      rintro e w9 ⟨v9, rfl, hown9, hb9⟩
      have HR9 := Lib.hid (Rd.of_own hown9 (enc_byt _)).1
      have HO9 := Lib.hid (own_below HO8.out hb9)
      have hs9 : w1.heap.size ≤ w9.heap.size := Nat.le_trans hszq hb9.size
      have q6 := keepS hb9 HB8.out.x6
      have q7 := keepS hb9 HB8.out.x7
      have HB9 := Lib.hid (HBW8.out.trans (hb9.mono HBW8.out.size))
      clear x7 hown9 hb9
      go_wp2_with (at_builtin; refine wpList_append_bytes (.tmp 72) (.tmp 77) 22 rfl rfl info5 Tryd.underlying22 w1.heap.size v8 _ _ rfl HO9.out v9 _ rfl HR9.out ?_ hs9 ?_; (have := HL3.out; have := HL4.out; have := HL10.out; have := HK4.out; have := enc_len (h.tk.length : Int); have := enc_len (h.w + n); simp [big_len]; omega); intro v10 w10 hown10 hb10; have r6 := keepT hb10 hsz1 q6; have r7 := keepT hb10 hsz1 q7; clear q6 q7)
      have hbig := refbig_any (w := w10) h.n f8' HN9.out k HK4.out
      rw [← HKW.out] at hbig
      refine hbig.mono ?_
      rintro e w11 ⟨v11, rfl, hown11, hb11⟩
      have HO11 := Lib.hid (own_below hown10 hb11)
      have HR11 := Lib.hid (Rd.of_own hown11 (big_byt _ _)).1
      have hs11 : w1.heap.size ≤ w11.heap.size := Nat.le_trans hs9 (Nat.le_trans hb10.size hb11.size)
      have HB11 := Lib.hid ((HB9.out.trans (hb10.mono (Nat.le_of_lt hsz1))).trans (hb11.mono (Nat.le_trans (Nat.le_of_lt hsz1) (Nat.le_trans hs9 hb10.size))))
      clear hown10 hb10 hown11 hb11 hbig r6 r7
      go_wp2_with (at_builtin; refine wpList_append_bytes (.tmp 79) (.tmp 84) 22 rfl rfl info5 Tryd.underlying22 w1.heap.size v10 _ _ rfl HO11.out v11 _ rfl HR11.out ?_ hs11 ?_; (have := HL3.out; have := HL4.out; have := HL10.out; have := HK4.out; have := enc_len (h.tk.length : Int); have := enc_len (h.w + n); simp [big_len]; omega); intro v12 w12 hown12 hb12)
      go_ret
      refine ⟨_, rfl, ?_, HB11.out.trans (hb12.mono (Nat.le_of_lt hsz1))⟩
      rw [HW.out, if_pos HK.out]
      have hown12' := own_mono hown12 (Nat.le_of_lt hsz1)
      have e9 : [Z] ++ big h.v 4 ++ [(h.to.length : Int)] ++ h.to ++ [(h.fr.length : Int)] ++ h.fr ++ (enc h.tk.length ++ h.tk) ++ enc (h.w + n) ++ big h.n k = [Z] ++ big h.v 4 ++ [(h.to.length : Int)] ++ h.to ++ [(h.fr.length : Int)] ++ h.fr ++ (enc h.tk.length ++ h.tk) ++ enc (h.w + n) ++ big h.n k := by simp
      rw [e9] at hown12'
      exact own_len hown12' (by simp [big_len]; omega)
    · have k0 : (h.k == 0) = false := beq_eq_false_iff_ne.2 hk
      have HK := Lib.hid hk
      have hszq : w1.heap.size ≤ w6.heap.size := hszw6
      have x7 := HB6.out.x7
      clear hk
      go_wp2_with fail
      clear x0
      refine (bytes_any (w := w6) (h.w + n)).mono ?_
      rintro e w9 ⟨v9, rfl, hown9, hb9⟩
      have HR9 := Lib.hid (Rd.of_own hown9 (enc_byt _)).1
      have HO9 := Lib.hid (own_below HO6.out hb9)
      have hs9 : w1.heap.size ≤ w9.heap.size := Nat.le_trans hszq hb9.size
      have q6 := keepS hb9 HB6.out.x6
      have q7 := keepS hb9 HB6.out.x7
      have HB9 := Lib.hid (HBW6.out.trans (hb9.mono HBW6.out.size))
      clear x7 hown9 hb9
      go_wp2_with (at_builtin; refine wpList_append_bytes (.tmp 72) (.tmp 77) 22 rfl rfl info5 Tryd.underlying22 w1.heap.size v6 _ _ rfl HO9.out v9 _ rfl HR9.out ?_ hs9 ?_; (have := HL3.out; have := HL4.out; have := HL10.out; have := HK4.out; have := enc_len (h.tk.length : Int); have := enc_len (h.w + n); simp [big_len]; omega); intro v10 w10 hown10 hb10; have r6 := keepT hb10 hsz1 q6; have r7 := keepT hb10 hsz1 q7; clear q6 q7)
      have hbig := refbig_any (w := w10) h.n f8' HN9.out k HK4.out
      rw [← HKW.out] at hbig
      refine hbig.mono ?_
      rintro e w11 ⟨v11, rfl, hown11, hb11⟩
      have HO11 := Lib.hid (own_below hown10 hb11)
      have HR11 := Lib.hid (Rd.of_own hown11 (big_byt _ _)).1
      have hs11 : w1.heap.size ≤ w11.heap.size := Nat.le_trans hs9 (Nat.le_trans hb10.size hb11.size)
      have HB11 := Lib.hid ((HB9.out.trans (hb10.mono (Nat.le_of_lt hsz1))).trans (hb11.mono (Nat.le_trans (Nat.le_of_lt hsz1) (Nat.le_trans hs9 hb10.size))))
      clear hown10 hb10 hown11 hb11 hbig r6 r7
      go_wp2_with (at_builtin; refine wpList_append_bytes (.tmp 79) (.tmp 84) 22 rfl rfl info5 Tryd.underlying22 w1.heap.size v10 _ _ rfl HO11.out v11 _ rfl HR11.out ?_ hs11 ?_; (have := HL3.out; have := HL4.out; have := HL10.out; have := HK4.out; have := enc_len (h.tk.length : Int); have := enc_len (h.w + n); simp [big_len]; omega); intro v12 w12 hown12 hb12)
      go_ret
      refine ⟨_, rfl, ?_, HB11.out.trans (hb12.mono (Nat.le_of_lt hsz1))⟩
      rw [HW.out, if_neg HK.out]
      have hown12' := own_mono hown12 (Nat.le_of_lt hsz1)
      have e9 : [Z] ++ big h.v 4 ++ [(h.to.length : Int)] ++ h.to ++ [(h.fr.length : Int)] ++ h.fr ++ enc (h.w + n) ++ big h.n k = [Z] ++ big h.v 4 ++ [(h.to.length : Int)] ++ h.to ++ [(h.fr.length : Int)] ++ h.fr ++ ([]) ++ enc (h.w + n) ++ big h.n k := by simp
      rw [e9] at hown12'
      exact own_len hown12' (by simp [big_len]; omega)
#print axioms refwrite_long
#print axioms refwrite_short
end Go.Proofs.YtnnllnbegmdfaaaDoor
