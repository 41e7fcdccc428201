/- KnowSecrets' walk: of nothing can be made just what has no secret in it. -/
import Derived.Test.YtinncmljffcobaaZKBl
namespace Go.Proofs.Ytinncmljffcobaa
open Go Go.RowKit

/-- Has a term a secret in it? -/
noncomputable def secB (N : List Nd) (x : Int) : Bool := @decide (Sec N x) (Classical.propDecidable _)
theorem secB_iff (N : List Nd) (x : Int) : secB N x = true ↔ Sec N x := by unfold secB; exact @decide_eq_true_iff _ (Classical.propDecidable _)
/-- What is known of a term behind some of its parts. -/
noncomputable def secU (N : List Nd) (x : Int) (i : Nat) : Bool := decide (kindN N x = 2) || ((partsN N x).take i).any (secB N)
theorem secU_zero (N : List Nd) (x : Int) : secU N x 0 = decide (kindN N x = 2) := by unfold secU; simp
theorem secU_succ (N : List Nd) (x : Int) {i : Nat} (h : i < (partsN N x).length) : secU N x (i + 1) = (secU N x i || secB N ((partsN N x).getD i 0)) := by
  unfold secU
  rw [take_succ_getD _ _ h, List.any_append, List.any_cons, List.any_nil, Bool.or_false, Bool.or_assoc]
theorem secU_all (N : List Nd) (x : Int) : secU N x (partsN N x).length = secB N x := by
  rw [Bool.eq_iff_iff, secB_iff]
  unfold secU
  rw [List.take_length, Bool.or_eq_true, decide_eq_true_eq, List.any_eq_true]
  constructor
  · rintro (h | ⟨y, hy, h⟩)
    · exact .self h
    · exact .part hy ((secB_iff N y).1 h)
  · intro h
    cases h with
    | self h => exact .inl h
    | part hy h => exact .inr ⟨_, hy, (secB_iff N _).2 h⟩
theorem der_sec {N : List Nd} (hN : Wf N) {x : Int} (h1 : 1 ≤ x) (h2 : x ≤ (N.length : Int)) {b : Bool} (hb : b = true ↔ Der N (fun _ => False) false x) : b = !secB N x := by
  rw [Bool.eq_iff_iff, hb, der_texts hN h1 h2, Bool.not_eq_true', ← Bool.not_eq_true, secB_iff]
/-- The bools are right below x. -/
def SecTo (N : List Nd) (f : Nat → Bool) (x : Nat) : Prop := ∀ y : Nat, 1 ≤ y → y < x → f y = secB N (y : Int)
theorem own_cell {w : World} {base n : Nat} {v : Value} {xs : List Int} (h : w.ownsRow base 42 1 v n (cs .i64 xs)) (hn : 0 < n) :
    ∃ g cap, v = .slice (some ⟨g, 0, none⟩) n cap ∧ base ≤ g ∧ n ≤ cap ∧ cap ≤ 9223372036854775807 ∧ g < w.heap.size ∧ ∀ j, j < n → w.cell? ⟨g, j, none⟩ = some (.int .i64 (xs.getD j 0)) := by
  obtain ⟨hr, hx⟩ := Rd.of_own h
  rcases h.2 with ⟨_, h0⟩ | ⟨g, cap, cur, rfl, hg, hh, h1, h2, h3, h4⟩
  · omega
  · unfold maxLen at h2
    refine ⟨g, cap, rfl, hg, h1, by omega, blk_lt hh, fun j hj => ?_⟩
    obtain ⟨ao, cp, hv, _, _, _, hc⟩ := hr
    cases hv
    have := hc ⟨g, 0, none⟩ rfl j (by omega)
    rw [Addr.add_lit, Nat.zero_add] at this
    exact this

set_option maxRecDepth 20000 in
set_option maxHeartbeats 8000000 in
theorem ksecrets_walk {w : World} {v : Value} {l : List KStep} (h : KSteps w v l) :
    Calls Try.prog 7 #[v] w fun e w' => e = .returned (.bool true) ∧ Below w.heap.size w w' := by
  have h0 := h
  obtain ⟨ao, cap, rfl, -⟩ := h0
  have HH := Lib.hid h
  have hl := klight_any h (bo := none) (n := 0) (cb := 0)
  clear h
  go_enter Try.func7, Try.ntmps7
  go_wp2_with fail
  refine hl.mono ?_
  clear hl
  rintro e w1 ⟨⟨b, rfl, hb⟩, rfl⟩
  cases b with
  | false =>
    clear hb
    go_wp2_with fail
    go_ret
    exact ⟨rfl, Below.refl _ _⟩
  | true =>
    have HL := Lib.hid (hb rfl)
    clear hb
    go_wp2_with fail
    refine (ktable_any HH.out HL.out).mono ?_
    rintro e w2 ⟨tb, mb, rb, N, rfl, t2, g2, n2⟩
    have T2 := Lib.hid t2
    have HG := Lib.hid g2
    have HN := Lib.hid n2
    clear t2 g2 n2
    go_wp2_with fail
    refine (Md.new T2.out.tp).mono ?_
    rintro e w3 ⟨M, rfl, m3, b3⟩
    have T3 := Lib.hid (T2.out.keep b3)
    have M3 := Lib.hid m3
    clear m3 b3
    go_wp2_with fail
    refine T3.out.size.mono ?_
    rintro e w4 ⟨rfl, rfl⟩
    obtain ⟨i4, hi4, hz4, hy4, hx4⟩ := info_parts info4
    have hn50 : N.length ≤ 50 := HN.out
    go_wp2_with (at_make; refine wpList_make_full _ rfl _ _ 34 rfl w3.heap.size 4 i4 (.bool false) 1 Try.underlying34 hi4 hz4 hy4 .i64 .i64 _ _ (N.length + 1) rfl rfl (by simp <;> omega) (by simp <;> omega) (by rw [hx4]; omega) (by unfold maxLen; omega) (Nat.le_refl _) ?_; intro w5 ho5 hg5)
    have HB5 := Lib.hid (below_made hg5)
    have hbl := Bl.made ho5
    clear ho5 hg5
    have hsz : w3.heap.size < w5.heap.size := hbl.lt
    go_loopw [6] (fun i wr => ∃ (x : Nat) (f : Nat → Bool), 1 ≤ x ∧ x ≤ N.length + 1 ∧ i = .int .i64 x ∧ Below w3.heap.size w3 wr ∧ Bl wr w3.heap.size f (N.length + 1) ∧ SecTo N f x) (fun i _ => N.length + 1 - (intOf i).toNat)
    case atStart => exact ⟨1, _, Nat.le_refl _, by omega, rfl, HB5.out, hbl, fun y h1 h2 => by omega⟩
    case round =>
      obtain ⟨x, f, hx1, hx2, rfl, hb, hf, hs⟩ := hrel
      have HB := Lib.hid hb
      have HS := Lib.hid hs
      have HF := Lib.hid hf
      clear hb hs hf hbl
      go_wp2_with fail
      refine (T3.out.keep HB.out).size.mono ?_
      rintro e w6 ⟨rfl, rfl⟩
      by_cases hlt : x ≤ N.length
      · have hlt' : (x : Int) ≤ (N.length : Int) := by omega
        have hx1' : (1 : Int) ≤ (x : Int) := by omega
        go_wp2_with fail
        refine ((T3.out.keep HB.out).look hx1' hlt').mono ?_
        rintro e w7 ⟨t, pv, rfl, ho7, hb7⟩
        obtain ⟨a7, c7, rfl, _, _⟩ := own_shape ho7
        have hB7 := HB.out.trans (hb7.mono HB.out.size)
        have hf7 := (HF.out.below hb7).below (below_alloc w7 (.cells #[.int .i64 (kindN N (x : Int)), .string t, .slice a7 (partsN N (x : Int)).length c7] 53))
        have hbx := heap_alloc_new w7 (.cells #[.int .i64 (kindN N (x : Int)), .string t, .slice a7 (partsN N (x : Int)).length c7] 53)
        have hG7 : w3.heap.size < w7.heap.size := Nat.lt_of_lt_of_le HF.out.lt hb7.size
        have HO7 := Lib.hid (own_alloc (own_mono ho7 (show w3.heap.size + 1 ≤ wr.heap.size from HF.out.lt)) (.cells #[.int .i64 (kindN N (x : Int)), .string t, .slice a7 (partsN N (x : Int)).length c7] 53))
        have HBA := Lib.hid (hB7.trans ((below_alloc w7 (.cells #[.int .i64 (kindN N (x : Int)), .string t, .slice a7 (partsN N (x : Int)).length c7] 53)).mono (Nat.le_of_lt hG7)))
        obtain ⟨xc, xf, xl⟩ := hf7.cell (j := x) (by omega)
        have HF7 := Lib.hid hf7
        have HK := Lib.hid (show ∀ y ∈ partsN N (x : Int), 1 ≤ y ∧ y < (x : Int) from fun y hy => HG.out.wf.low _ hx1' hlt' y hy)
        have HU0 := Lib.hid (secU_zero N (x : Int))
        have HUS := Lib.hid (fun i (h : i < (partsN N (x : Int)).length) => secU_succ N (x : Int) h)
        have HUA := Lib.hid (secU_all N (x : Int))
        have HP16 := Lib.hid (HG.out.wf.sixteen (x : Int))
        have hk0 : (w7.alloc (.cells #[.int .i64 (kindN N (x : Int)), .string t, .slice a7 (partsN N (x : Int)).length c7] 53)).cell? ⟨w7.heap.size, 0, none⟩ = some (.int .i64 (kindN N (x : Int))) := (cell_of_row _ w7.heap.size 0 _ 53 (0, 0) hbx).trans rfl
        have HBX := Lib.hid hbx
        clear ho7 hb7 hB7 hf7 hbx
        generalize secU N (x : Int) = su at *
        generalize partsN N (x : Int) = ps at *
        generalize hkk : kindN N (x : Int) = kk at *
        clear hkk
        generalize hWA : w7.alloc (.cells #[.int .i64 kk, .string t, .slice a7 ps.length c7] 53) = WA at *
        go_wp2_with fail
        go_loopw [9] (fun i wr => ∃ (j : Nat) (f : Nat → Bool), j ≤ ps.length ∧ i = .int .i64 j ∧ Below w3.heap.size w3 wr ∧ Bl wr w3.heap.size f (N.length + 1) ∧ f x = su j ∧ SecTo N f x ∧ wr.heap[w7.heap.size]? = some (.cells #[.int .i64 kk, .string t, .slice a7 ps.length c7] 53 (0, 0)) ∧ wr.ownsRow (w3.heap.size + 1) 42 1 (.slice a7 ps.length c7) ps.length (cs .i64 ps)) (fun i _ => ps.length - (intOf i).toNat)
        case atStart =>
          refine ⟨0, _, Nat.zero_le _, rfl, HBA.out.setCell (by simp only; omega) _, HF7.out.set (by omega) _, ?_, fun y h1 h2 => ?_, ?_, ?_⟩
          · rw [upB_same, HU0.out]; rfl
          · rw [upB_other _ _ (by omega)]; exact HS.out y h1 h2
          · rw [heap_setCell_other _ _ _ _ (by simp only; omega)]; exact HBX.out
          · exact own_keep HO7.out fun g hg => heap_setCell_other _ _ _ _ (by have := (HO7.out.lt g hg).1; simp only; omega)
        case round =>
          obtain ⟨j, f', hj, rfl, hb, hf, hfx, hs, hbx, ho⟩ := hrel
          have k2 : wr.cell? ⟨w7.heap.size, 2, none⟩ = some (.slice a7 ps.length c7) := (cell_of_row _ w7.heap.size 2 _ 53 (0, 0) hbx).trans rfl
          obtain ⟨yc, yf, yl⟩ := hf.cell (j := x) (by omega)
          rw [hfx] at yc
          by_cases hjl : j < ps.length
          · have hjl' : (j : Int) < (ps.length : Int) := by omega
            obtain ⟨g, c, e, hg, hc1, hc2, hgl, hcell⟩ := own_cell ho (by omega)
            cases e
            have hcj := hcell j hjl
            have hpr := HK.out (ps.getD j 0) (getD_mem hjl)
            have hus := HUS.out j hjl
            obtain ⟨q, hq⟩ : ∃ q : Nat, ps.getD j 0 = (q : Int) := ⟨(ps.getD j 0).toNat, by omega⟩
            rw [hq] at hcj hpr hus
            obtain ⟨zc, _, _⟩ := hf.cell (j := q) (by omega)
            rw [hs q (by omega) (by omega)] at zc
            have hq0 : (0 : Int) < (q : Int) := by omega
            have hqx : (q : Int) < (x : Int) := by omega
            have HF2 := Lib.hid hf
            have HB2 := Lib.hid hb
            have HS2 := Lib.hid hs
            have HBX2 := Lib.hid hbx
            have HO2 := Lib.hid ho
            have HFX := Lib.hid hfx
            have HUS2 := Lib.hid hus
            have hj16 : j ≤ 16 := by have := HP16.out; omega
            clear hcell hq hpr hus hf hb hs hbx ho hfx
            generalize secB N (q : Int) = sq at *
            cases hsu : su j with
            | true =>
              rw [hsu] at yc
              have HSU := Lib.hid hsu
              clear hsu
              go_wp2_with fail
              go_roundw
              case rel =>
                refine ⟨j + 1, _, by omega, by go_num, HB2.out.setCell (by simp only; omega) _, HF2.out.set (by omega) _, ?_, fun y h1 h2 => ?_, ?_, ?_⟩
                · rw [upB_same, HUS2.out, HSU.out]; simp
                · rw [upB_other _ _ (by omega)]; exact HS2.out y h1 h2
                · rw [heap_setCell_other _ _ _ _ (by simp only; omega)]; exact HBX2.out
                · exact own_keep HO2.out fun g hg => heap_setCell_other _ _ _ _ (by have := (HO2.out.lt g hg).1; simp only; omega)
              case measure => simp [intOf]; omega
            | false =>
              rw [hsu] at yc
              have HSU := Lib.hid hsu
              clear hsu
              go_wp2_with fail
              go_roundw
              case rel =>
                refine ⟨j + 1, _, by omega, by go_num, HB2.out.setCell (by simp only; omega) _, HF2.out.set (by omega) _, ?_, fun y h1 h2 => ?_, ?_, ?_⟩
                · rw [upB_same, HUS2.out, HSU.out]; simp
                · rw [upB_other _ _ (by omega)]; exact HS2.out y h1 h2
                · rw [heap_setCell_other _ _ _ _ (by simp only; omega)]; exact HBX2.out
                · exact own_keep HO2.out fun g hg => heap_setCell_other _ _ _ _ (by have := (HO2.out.lt g hg).1; simp only; omega)
              case measure => simp [intOf]; omega
          · obtain rfl : j = ps.length := by omega
            have hjl' : ¬ ((ps.length : Int) < (ps.length : Int)) := by omega
            rw [HUA.out] at yc hfx
            have HB2 := Lib.hid hb.drew
            have hcan := (M3.out.below hb.drew).can HG.out.wf (x := (x : Int)) (wf_of (by omega) (by omega))
            have HFX := Lib.hid hfx
            have HF2 := Lib.hid (hf.keep (w' := wr.drew) rfl)
            have HS2 := Lib.hid hs
            have hyd : ∀ w8 : World, Below wr.drew.heap.size wr.drew w8 → w8.cell? ⟨w3.heap.size, x, none⟩ = some (.bool (secB N (x : Int))) := fun w8 h8 => by
              rw [h8.cell (show w3.heap.size < wr.heap.size from yl)]; exact yc
            have HYD := Lib.hid hyd
            have HDS := Lib.hid (fun b8 (h8 : b8 = true ↔ Der N (fun _ => False) false (x : Int)) => der_sec HG.out.wf hx1' hlt' h8)
            clear hb hbx ho hf hs hfx hyd
            generalize hsb : secB N (x : Int) = sb at *
            have HSB := Lib.hid hsb
            clear hsb
            cases sb with
            | true =>
              go_wp2_with fail
              go_region_with (go_at_call 21; refine hcan.mono ?_; rintro e w8 ⟨b8, rfl, hb8, hB8⟩; obtain rfl : b8 = false := HDS.out b8 hb8; have hc8 := HYD.out w8 hB8; have HB8 := Lib.hid (HB2.out.trans (hB8.mono HB2.out.size)); have HF8 := Lib.hid (HF2.out.below hB8); clear hb8 hB8 hcan)
              all_goals
                go_wp2_with fail
                go_roundw
                case rel => exact ⟨x + 1, f', by omega, by omega, by go_num, HB8.out, HF8.out, fun y h1 h2 => by
                  by_cases e : y = x
                  · rw [e, HFX.out, HSB.out]
                  · exact HS2.out y h1 (by omega)⟩
                case measure => simp [intOf]; omega
            | false =>
              go_wp2_with fail
              go_region_with (go_at_call 21; refine hcan.mono ?_; rintro e w8 ⟨b8, rfl, hb8, hB8⟩; obtain rfl : b8 = true := HDS.out b8 hb8; have hc8 := HYD.out w8 hB8; have HB8 := Lib.hid (HB2.out.trans (hB8.mono HB2.out.size)); have HF8 := Lib.hid (HF2.out.below hB8); clear hb8 hB8 hcan)
              all_goals
                go_wp2_with fail
                go_roundw
                case rel => exact ⟨x + 1, f', by omega, by omega, by go_num, HB8.out, HF8.out, fun y h1 h2 => by
                  by_cases e : y = x
                  · rw [e, HFX.out, HSB.out]
                  · exact HS2.out y h1 (by omega)⟩
                case measure => simp [intOf]; omega
      · obtain rfl : x = N.length + 1 := by omega
        have hlt' : ¬ (((N.length + 1 : Nat) : Int) ≤ (N.length : Int)) := by omega
        have hkn := (M3.out.below HB.out).knows HG.out.wf
        go_wp2_with fail
        refine hkn.mono ?_
        clear hkn
        rintro e w8 ⟨v8, l8, rfl, _, hx8, hr8, _, hb8⟩
        obtain rfl : l8 = [] := List.eq_nil_iff_forall_not_mem.2 fun y hy => by have := (der_none ((hx8 y).1 hy)).1; cases this
        obtain ⟨a8, c8, rfl, _⟩ := hr8
        have HB8 := Lib.hid (HB.out.trans (hb8.mono HB.out.size))
        clear hb8 hx8
        go_wp2_with fail
        refine (kawake_any w8).mono ?_
        rintro e w9 ⟨rfl, b9⟩
        go_wp2_with fail
        go_ret
        have h1 := HB8.out.trans (b9.mono HB8.out.size)
        have h2 := T3.out.prog.bel
        exact ⟨rfl, h2.trans (h1.mono h2.size)⟩
#print axioms ksecrets_walk
end Go.Proofs.Ytinncmljffcobaa
