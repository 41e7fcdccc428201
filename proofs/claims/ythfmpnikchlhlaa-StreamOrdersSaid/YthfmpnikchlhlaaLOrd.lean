/- law 13: StreamOrders. -/
import Derived.Test.YthfmpnikchlhlaaLOrd0
import Derived.Test.YthfmpnikchlhlaaLOrd1
import Derived.Test.YthfmpnikchlhlaaSFront
import Derived.StillTailTactics
namespace Go.Proofs.Ythfmpnikchlhlaa
open Go Go.RowKit

/-- The pieces' ends in two rows of the call's own. -/
structure Fts (W0 wr : World) (fv tv : Value) (fs : List (Nat × Nat)) : Prop where
  bl : Below W0.heap.size W0 wr
  fr : wr.ownsRow W0.heap.size 3 1 fv fs.length (fs.map (fun q => .int .i64 q.1))
  to : wr.ownsRow W0.heap.size 3 1 tv fs.length (fs.map (fun q => .int .i64 q.2))
  ap : ∀ g, fv.ownBlock = some g → tv.ownBlock ≠ some g
theorem Fts.nil (w : World) : Fts w w (.slice none 0 0) (.slice none 0 0) [] := ⟨Below.refl _ _, World.ownsRow_nil _ _ _ _, World.ownsRow_nil _ _ _ _, fun _ h => by cases h⟩
theorem Fts.below {W0 wr w' : World} {fv tv : Value} {fs : List (Nat × Nat)} (h : Fts W0 wr fv tv fs) (hb : Below wr.heap.size wr w') : Fts W0 w' fv tv fs := ⟨h.bl.trans (hb.mono h.bl.size), own_below h.fr hb, own_below h.to hb, h.ap⟩
/-- Behind the first of two appends. -/
structure Fts1 (W0 wr : World) (fv tv : Value) (fs : List (Nat × Nat)) (a : Nat) : Prop where
  bl : Below W0.heap.size W0 wr
  fr : wr.ownsRow W0.heap.size 3 1 fv (fs.length + 1) (fs.map (fun q => .int .i64 q.1) ++ [.int .i64 a])
  to : wr.ownsRow W0.heap.size 3 1 tv fs.length (fs.map (fun q => .int .i64 q.2))
  ap : ∀ g, fv.ownBlock = some g → tv.ownBlock ≠ some g
theorem Fts.first {W0 wr w2 : World} {fv fv' tv : Value} {fs : List (Nat × Nat)} {a : Nat} (h : Fts W0 wr fv tv fs) (hown : w2.ownsRow W0.heap.size 3 1 fv' (fs.length + 1) (fs.map (fun q => .int .i64 q.1) ++ [.int .i64 a])) (hg : wr.grownBy w2 fv.ownBlock) (hlow : ∀ g, fv'.ownBlock = some g → fv.ownBlock = some g ∨ wr.heap.size ≤ g) : Fts1 W0 w2 fv' tv fs a := by
  refine ⟨h.bl.trans ((Below.refl W0.heap.size wr).grown hg h.bl.size fun k hk => (h.fr.lt k hk).1), hown, own_same h.to fun g hgv => hg.block g (h.to.lt g hgv).2 (fun e => h.ap g e.symm hgv), fun g hgv htv => ?_⟩
  rcases hlow g hgv with h1 | h1
  · exact h.ap g h1 htv
  · have := (h.to.lt g htv).2; omega
theorem Fts1.below {W0 wr w' : World} {fv tv : Value} {fs : List (Nat × Nat)} {a : Nat} (h : Fts1 W0 wr fv tv fs a) (hb : Below wr.heap.size wr w') : Fts1 W0 w' fv tv fs a := ⟨h.bl.trans (hb.mono h.bl.size), own_below h.fr hb, own_below h.to hb, h.ap⟩
theorem Fts1.second {W0 wr w2 : World} {fv tv tv' : Value} {fs : List (Nat × Nat)} {a b : Nat} (h : Fts1 W0 wr fv tv fs a) (hown : w2.ownsRow W0.heap.size 3 1 tv' (fs.length + 1) (fs.map (fun q => .int .i64 q.2) ++ [.int .i64 b])) (hg : wr.grownBy w2 tv.ownBlock) (hlow : ∀ g, tv'.ownBlock = some g → tv.ownBlock = some g ∨ wr.heap.size ≤ g) : Fts W0 w2 fv tv' (fs ++ [(a, b)]) := by
  refine ⟨h.bl.trans ((Below.refl W0.heap.size wr).grown hg h.bl.size fun k hk => (h.to.lt k hk).1), ?_, by simpa using hown, fun g hgv htv => ?_⟩
  · have := own_same h.fr fun g hgv => hg.block g (h.fr.lt g hgv).2 (fun e => h.ap g hgv e.symm)
    simpa using this
  · rcases hlow g htv with h1 | h1
    · exact h.ap g hgv h1
    · have := (h.fr.lt g hgv).2; omega
theorem Rd.addr {w : World} {a : Option Addr} {n c : Nat} {zs : List Int} (h : Rd w (.slice a n c) zs) (hz : 0 < zs.length) : ∃ ad, a = some ad ∧ n = zs.length ∧ ∀ j u, (by8 zs)[j]? = some u → w.cell? (ad.add j) = some u := by
  obtain ⟨ao, cap, e, h1, h2, h3, _, hc⟩ := h
  simp only [Value.slice.injEq] at e
  obtain ⟨rfl, rfl, rfl⟩ := e
  cases a with
  | none => have := h3 rfl; omega
  | some ad =>
    refine ⟨ad, rfl, rfl, fun j u hu => ?_⟩
    have hj : j < zs.length := by
      have := (List.getElem?_eq_some_iff.1 hu).1
      simpa [by8_len] using this
    rw [by8_get zs j hj] at hu
    cases hu
    exact hc ad rfl j hj
theorem Rd.addr2 {w : World} {ad : Addr} {n c : Nat} {zs : List Int} (h : Rd w (.slice (some ad) n c) zs) (hz : 0 < zs.length) : ∀ j u, (by8 zs)[j]? = some u → w.cell? (ad.add j) = some u := by
  obtain ⟨ad', e, _, hc⟩ := h.addr hz
  cases e
  exact hc
theorem flat_byt {ws : List (Value × List Int)} (h : ∀ q ∈ ws, Byt q.2) : Byt (flat ws) := fun z hz => by
  unfold flat at hz
  rw [List.mem_flatten] at hz
  obtain ⟨l, hl, hz⟩ := hz
  rw [List.mem_map] at hl
  obtain ⟨q, hq, rfl⟩ := hl
  exact h q hq z hz
/-- What stands between Next's telling and the loop's test. -/
def TakeSt (X w4 : World) (ws : List (Value × List Int)) (fs : List (Nat × Nat)) (m0 i k : Nat) (v : Value) (ec : Int) : Prop :=
  (ec ≠ 0 ∧ ∃ t E, Mid X w4 ws fs m0 i k t E ∧ firstE (frontB t E) ≠ 0) ∨ (ec = 0 ∧ ∃ q t E, ws[k]? = some q ∧ Rd w4 v q.2 ∧ Mid X w4 ws fs m0 i (k + 1) t E)
theorem infoS : (Try.prog.info? 29).map (fun i => (i.zero, i.size, i.bytes)) = some (some (.slice none 0 0), 1, 24) := by kernel_rfl
set_option maxRecDepth 20000 in
set_option maxHeartbeats 4000000 in
theorem sorders_walk {w : World} {bv cv ov : Value} {qs : List (Value × List Int)} {cuts order : List Int} (hq : Rl w bv qs) (hc : Rd w cv cuts) (ho : Rd w ov order) (hl1 : qs.length ≤ 8) (hl2 : cuts.length ≤ 100) (hl3 : order.length ≤ 200) :
    Calls Try.prog 5 #[bv, cv, ov] w fun e w' => e = .returned (.bool true) ∧ Below w.heap.size w w' := by
  obtain ⟨ba, bc, rfl, hbc⟩ := hq.shape
  obtain ⟨ca, cc, rfl⟩ := hc.shape
  obtain ⟨oa, oc, rfl⟩ := ho.shape
  have h1 : ¬ (8 : Int) < (qs.length : Int) := by omega
  have h2 : ¬ (100 : Int) < (cuts.length : Int) := by omega
  have h3 : ¬ (200 : Int) < (order.length : Int) := by omega
  have HQ := Lib.hid hq
  have HBC := Lib.hid hbc
  have HC := Lib.hid hc
  have HO := Lib.hid ho
  clear hq hbc hc ho
  obtain ⟨iS, hiS, hs0, hs1, hs2⟩ := info_parts infoS
  obtain ⟨i5, hi5, hb0, hb1, hb2⟩ := info_parts info5
  go_enter Try.func5, Try.ntmps5
  go_wp2_with fail
  go_loopw [7, 8, 9] (fun av wv iv wr => ∃ (k : Nat) (ws : List (Value × List Int)) (aa : Option Addr) (ac : Nat) (wa : Option Addr) (wc : Nat), av = .slice aa (flat ws).length ac ∧ wv = .slice wa ws.length wc ∧ iv = .int .i64 k ∧ k ≤ qs.length ∧ ws.length = k ∧
    Hid (Bld w wr (.slice aa (flat ws).length ac) (.slice wa ws.length wc) ws (flat ws)) ∧ Hid ((flat ws).length ≤ 104 * k)) (fun _ _ iv _ => qs.length - (intOf iv).toNat)
  case atStart => exact ⟨0, [], none, 0, none, 0, rfl, rfl, rfl, Nat.zero_le _, rfl, Lib.hid (Bld.nil w), Lib.hid (by simp [flat])⟩
  case round =>
    obtain ⟨k, ws, aa, ac, wa, wc, rfl, rfl, rfl, hk, hwk, hB, hFL⟩ := hrel
    by_cases hlt : k < qs.length
    · obtain ⟨q, hqk⟩ : ∃ q, qs[k]? = some q := ⟨_, List.getElem?_eq_getElem hlt⟩
      have hmem := List.mem_of_getElem? hqk
      obtain ⟨b, off, rfl, d0⟩ := HBC.out k q hqk
      have d0 := keepS hB.out.bl d0
      have hrq := HQ.out.rd q hmem
      obtain ⟨qv, qz⟩ := q
      simp only at hrq d0
      obtain ⟨qa, qc, rfl⟩ := hrq.shape
      have hki : (k : Int) < (qs.length : Int) := by omega
      have HRQ := Lib.hid (hrq.below hB.out.bl)
      clear hqk hmem hrq
      by_cases hbig : 100 < qz.length
      · have hbi : (100 : Int) < (qz.length : Int) := by omega
        go_wp2_with fail
        go_ret
        exact ⟨rfl, hB.out.bl⟩
      · have hbi : ¬ (100 : Int) < (qz.length : Int) := by omega
        have hc := Lib.hid (message_any (k : Int) HRQ.out (by omega))
        have hmsg := isMsg_of (kind := (k : Int)) (zs := qz) (by omega) (by omega)
        have hml : (msgB (k : Int) qz).length = qz.length + 4 := by
          unfold msgB
          rw [if_neg (by omega)]
          simp [headB]
        go_wp2_with fail
        refine hc.out.mono ?_
        rintro e w1 ⟨mv, rfl, ⟨hra, hpl⟩, hbw⟩
        generalize msgB (k : Int) qz = m at *
        have HB1 := Lib.hid (hB.out.below hbw)
        have HFA := Lib.hid (And.intro (fun g hg => hra.fa (hB.out.all.lt g hg).2) (fun g hg => hra.fa (hB.out.want.lt g hg).2))
        obtain ⟨ma, mc, rfl⟩ := hra.rd.shape
        obtain ⟨ad, rfl, _, hcl⟩ := hra.rd.addr (by omega)
        have HRM := Lib.hid hra.rd
        have HMS := Lib.hid (And.intro hmsg (show m.length ≤ 104 by omega))
        have HCN := Lib.hid (fun i => cell_of_row _ w1.heap.size i _ 29 (0, 0) (heap_alloc_new w1 (.cells #[.slice (some ad) m.length mc] 29)))
        have hFLn := hFL.out
        have hbs := HB1.out.bl.size
        have HML := Lib.hid (show 0 < m.length ∧ m.length ≤ 104 by omega)
        subst hwk
        clear hcl hra hpl hbw hc hmsg d0 hml
        go_wp2_with (first
          | (at_builtin
             refine wpList_append_own2 rfl (.tmp 53) (.tmp 55) 45 rfl w.heap.size 29 iS (.slice none 0 0) 24 Try.underlying45 hiS hs0 hs1 hs2 rfl _ ws.length (ws.map (·.1)) rfl
               (own_below HB1.out.want (below_alloc w1 _)) ⟨w1.heap.size, 0, none⟩ 1 1 [.slice (some ad) m.length mc] rfl rfl
               (cells_at HCN.out) (by intro u hu; simp at hu; subst hu; rfl) (by omega) (by unfold maxLen; omega) (by omega) (by simp; omega) ?_
             intro wv' w2 hown' hgrow hlow
             have HB2 := Lib.hid ((HB1.out.below (below_alloc w1 _)).want_on (HRM.out.below (below_alloc w1 _)) HMS.out HFA.out.1 HFA.out.2 hown' hgrow hlow)
             obtain ⟨wa2, wc2, rfl⟩ := own_shape hown'
             clear hown' hgrow hlow)
          | (at_builtin
             refine wpList_append_own2 rfl (.tmp 57) (.tmp 58) 29 rfl w.heap.size 5 i5 (.int .u8 0) 1 Try.underlying29 hi5 hb0 hb1 hb2 rfl _ (flat ws).length (by8 (flat ws)) rfl
               HB2.out.all ad m.length mc (by8 m) rfl (by8_len m) ((HB2.out.rd (_, m) (List.mem_append_right _ (List.mem_singleton.2 rfl))).addr2 HML.out.1) (by8_one m) HML.out.1 (by have := HML.out; unfold maxLen; omega) (by have := HML.out; omega) HB2.out.bl.size ?_
             intro av' w3 hown' hgrow hlow
             have HB3 := Lib.hid (HB2.out.all_on hown' hgrow hlow)
             obtain ⟨aa3, ac3, rfl⟩ := own_shape hown'
             clear hown' hgrow hlow))
        go_roundw
        case rel =>
          have hf := flat_snoc ws (.slice (some ad) m.length mc, m)
          simp only at hf
          have hml := HML.out
          refine ⟨ws.length + 1, ws ++ [(.slice (some ad) m.length mc, m)], aa3, ac3, wa2, wc2, by rw [hf, List.length_append], by simp, by go_num, by omega, by simp, Lib.hid ?_, Lib.hid (by rw [hf, List.length_append]; omega)⟩
          rw [hf]
          simpa using HB3.out
        case measure => simp [intOf]; omega
    · obtain rfl : k = qs.length := by omega
      have hfl : (flat ws).length ≤ 832 := by have := hFL.out; omega
      have HWK := Lib.hid hwk
      clear hwk
      obtain ⟨W1, rfl⟩ : ∃ W1, W1 = wr := ⟨_, rfl⟩
      obtain ⟨i3, hi3, hc0, hc1, hc2⟩ := info_parts info3
      go_wp2_with fail
      go_loopw [11, 12, 13, 14] (fun fv tv pv iv w2 => ∃ (k p : Nat) (fs : List (Nat × Nat)) (fa : Option Addr) (fc : Nat) (ta : Option Addr) (tc : Nat), fv = .slice fa fs.length fc ∧ tv = .slice ta fs.length tc ∧ pv = .int .i64 p ∧ iv = .int .i64 k ∧ k ≤ cuts.length ∧ fs.length ≤ k ∧
        Hid (Fts W1 w2 (.slice fa fs.length fc) (.slice ta fs.length tc) fs) ∧ Hid (Parts (flat ws).length fs p)) (fun _ _ _ iv _ => cuts.length - (intOf iv).toNat)
      case atStart => exact ⟨0, 0, [], none, 0, none, 0, rfl, rfl, rfl, rfl, Nat.zero_le _, Nat.le_refl _, Lib.hid (Fts.nil W1), Lib.hid (Parts.nil _)⟩
      case round =>
        obtain ⟨k, pN, fs, fa, fc, ta, tc, rfl, rfl, rfl, rfl, hk2, hfk, hFT, hPT⟩ := hrel
        by_cases hlt : k < cuts.length
        · by_cases hpa : pN < (flat ws).length
          · rcases HC.out.cases with ⟨e0, _⟩ | ⟨b2, o2, c2, e2, _, hl2, hc2', _, hcell⟩
            · exfalso; rw [e0] at hlt; simp at hlt
            simp only [Value.slice.injEq] at e2
            obtain ⟨rfl, _, rfl⟩ := e2
            have hBW := hB.out.bl.trans (hFT.out.bl.mono hB.out.bl.size)
            have d0 := keepS hBW (hcell k hlt)
            have hcb := HC.out.byt.get k
            generalize cuts.getD k 0 = c at *
            have hki : (k : Int) < (cuts.length : Int) := by omega
            have hpi : (pN : Int) < ((flat ws).length : Int) := by omega
            have wc : IntKind.i64.wrap c = c := IntWalk.i64_in _ ⟨by omega, by omega⟩
            have hm0 : 0 ≤ c % 40 ∧ c % 40 < 40 := by omega
            have w1 : IntKind.i64.wrap ((pN : Int) + c % 40) = (pN : Int) + c % 40 := IntWalk.i64_in _ ⟨by omega, by omega⟩
            have w2 : IntKind.i64.wrap ((pN : Int) + c % 40 + 1) = (pN : Int) + c % 40 + 1 := IntWalk.i64_in _ ⟨by omega, by omega⟩
            clear hcell hBW
            by_cases hmin : (pN : Int) + c % 40 + 1 ≤ ((flat ws).length : Int)
            · obtain ⟨R, hR⟩ : ∃ R : Nat, (pN : Int) + c % 40 + 1 = (R : Int) := ⟨((pN : Int) + c % 40 + 1).toNat, by omega⟩
              have hRb : pN < R ∧ R ≤ (flat ws).length := by omega
              have HRR := Lib.hid hR
              have HFT := hFT
              have hsz := hFT.out.bl.size
              have HCA := Lib.hid (fun i => cell_of_row _ wr.heap.size i _ 3 (0, 0) (heap_alloc_new wr (.cells #[.int .i64 (pN : Int)] 3)))
              go_wp2_with (first
              | (at_builtin
                 refine wpList_append_own2 rfl (.tmp 84) (.tmp 86) 28 rfl W1.heap.size 3 i3 (.int .i64 0) 8 Try.underlying28 hi3 hc0 hc1 hc2 rfl _ fs.length (fs.map (fun q => .int .i64 q.1)) rfl
                   (own_below HFT.out.fr (below_alloc wr _)) ⟨wr.heap.size, 0, none⟩ 1 1 [.int .i64 (pN : Int)] rfl rfl
                   (cells_at HCA.out) (by intro u hu; simp at hu; subst hu; rfl) (by omega) (by unfold maxLen; omega) (by omega) (by simp; omega) ?_
                 intro fv' W2 hown' hgrow hlow
                 have HT1 := Lib.hid ((HFT.out.below (below_alloc wr (.cells #[.int .i64 (pN : Int)] 3))).first hown' hgrow hlow)
                 obtain ⟨fa2, fc2, rfl⟩ := own_shape hown'
                 have hb12 := HT1.out.bl.size
                 have HCB := Lib.hid (fun i => cell_of_row _ W2.heap.size i _ 3 (0, 0) (heap_alloc_new W2 (.cells #[.int .i64 (R : Int)] 3)))
                 clear hown' hgrow hlow)
              | (at_builtin
                 refine wpList_append_own2 rfl (.tmp 88) (.tmp 90) 28 rfl W1.heap.size 3 i3 (.int .i64 0) 8 Try.underlying28 hi3 hc0 hc1 hc2 rfl _ fs.length (fs.map (fun q => .int .i64 q.2)) rfl
                   (own_below HT1.out.to (below_alloc W2 _)) ⟨W2.heap.size, 0, none⟩ 1 1 [.int .i64 (R : Int)] rfl rfl
                   (cells_at HCB.out) (by intro u hu; simp at hu; subst hu; rfl) (by omega) (by unfold maxLen; omega) (by omega) (by simp; omega) ?_
                 intro tv' W3 hown' hgrow hlow
                 have HT2 := Lib.hid ((HT1.out.below (below_alloc W2 (.cells #[.int .i64 (R : Int)] 3))).second (b := R) hown' hgrow hlow)
                 obtain ⟨ta2, tc2, rfl⟩ := own_shape hown'
                 clear hown' hgrow hlow))
              go_roundw
              case rel =>
                refine ⟨k + 1, R, fs ++ [(pN, R)], fa2, fc2, ta2, tc2, by simp, by simp, rfl, by go_num, by omega, by simp; omega, Lib.hid (by simpa using HT2.out), Lib.hid (hPT.out.snoc (by omega) (by omega))⟩
              case measure => simp [intOf]; omega
            · have hRb : pN < (flat ws).length ∧ (flat ws).length ≤ (flat ws).length := by omega
              have HFT := hFT
              have hsz := hFT.out.bl.size
              have HCA := Lib.hid (fun i => cell_of_row _ wr.heap.size i _ 3 (0, 0) (heap_alloc_new wr (.cells #[.int .i64 (pN : Int)] 3)))
              go_wp2_with (first
              | (at_builtin
                 refine wpList_append_own2 rfl (.tmp 84) (.tmp 86) 28 rfl W1.heap.size 3 i3 (.int .i64 0) 8 Try.underlying28 hi3 hc0 hc1 hc2 rfl _ fs.length (fs.map (fun q => .int .i64 q.1)) rfl
                   (own_below HFT.out.fr (below_alloc wr _)) ⟨wr.heap.size, 0, none⟩ 1 1 [.int .i64 (pN : Int)] rfl rfl
                   (cells_at HCA.out) (by intro u hu; simp at hu; subst hu; rfl) (by omega) (by unfold maxLen; omega) (by omega) (by simp; omega) ?_
                 intro fv' W2 hown' hgrow hlow
                 have HT1 := Lib.hid ((HFT.out.below (below_alloc wr (.cells #[.int .i64 (pN : Int)] 3))).first hown' hgrow hlow)
                 obtain ⟨fa2, fc2, rfl⟩ := own_shape hown'
                 have hb12 := HT1.out.bl.size
                 have HCB := Lib.hid (fun i => cell_of_row _ W2.heap.size i _ 3 (0, 0) (heap_alloc_new W2 (.cells #[.int .i64 ((flat ws).length : Int)] 3)))
                 clear hown' hgrow hlow)
              | (at_builtin
                 refine wpList_append_own2 rfl (.tmp 88) (.tmp 90) 28 rfl W1.heap.size 3 i3 (.int .i64 0) 8 Try.underlying28 hi3 hc0 hc1 hc2 rfl _ fs.length (fs.map (fun q => .int .i64 q.2)) rfl
                   (own_below HT1.out.to (below_alloc W2 _)) ⟨W2.heap.size, 0, none⟩ 1 1 [.int .i64 ((flat ws).length : Int)] rfl rfl
                   (cells_at HCB.out) (by intro u hu; simp at hu; subst hu; rfl) (by omega) (by unfold maxLen; omega) (by omega) (by simp; omega) ?_
                 intro tv' W3 hown' hgrow hlow
                 have HT2 := Lib.hid ((HT1.out.below (below_alloc W2 (.cells #[.int .i64 ((flat ws).length : Int)] 3))).second (b := (flat ws).length) hown' hgrow hlow)
                 obtain ⟨ta2, tc2, rfl⟩ := own_shape hown'
                 clear hown' hgrow hlow))
              go_roundw
              case rel =>
                refine ⟨k + 1, (flat ws).length, fs ++ [(pN, (flat ws).length)], fa2, fc2, ta2, tc2, by simp, by simp, rfl, by go_num, by omega, by simp; omega, Lib.hid (by simpa using HT2.out), Lib.hid (hPT.out.snoc (by omega) (by omega))⟩
              case measure => simp [intOf]; omega
          · obtain rfl : pN = (flat ws).length := by have := hPT.out.le; omega
            have hki : (k : Int) < (cuts.length : Int) := by
              have := HC.out.len; omega
            have hfl : (flat ws).length ≤ 832 := by have := hFL.out; omega
            have hfs100 : fs.length ≤ 100 := by omega
            have hw8 : ws.length ≤ 8 := by have := HWK.out; omega
            have BYT := Lib.hid (show Byt (flat ws) from flat_byt (fun q hq => (hB.out.rd q hq).byt))
            have MSG := Lib.hid (fun q hq => (hB.out.msg q hq).1)
            obtain ⟨X, rfl⟩ : ∃ X, X = wr := ⟨_, rfl⟩
            have hFX := hFT
            have hPn := hPT
            have hbx := heap_alloc_new X (.cells #[.int .i64 0, .map none] 26)
            have hba := below_alloc X (.cells #[.int .i64 0, .map none] 26)
            have HM0 := Lib.hid (show Mid X (X.alloc (.cells #[.int .i64 0, .map none] 26)) ws fs order.length 0 0 0 (fun _ => none) from ⟨hba, ⟨none, St.fresh hbx, Nat.le_refl _, (fun _ h => by cases h), fun s l h => by cases h⟩, Nat.zero_le _, rfl, fun p hp => (by obtain ⟨s, l, h, _⟩ := hp; cases h), fun j q h => absurd h (Nat.not_lt_zero _)⟩)
            clear hbx hba
            have hpl0 : ¬ ((flat ws).length : Int) < ((flat ws).length : Int) := by omega
            go_wp2_with fail
            go_loopw [17, 18] (fun kv iv w2 => ∃ (k i t : Nat) (E : Int → Option (List Int)), kv = .int .i64 k ∧ iv = .int .i64 i ∧ i ≤ order.length + fs.length ∧ k ≤ ws.length ∧ Hid (Mid X w2 ws fs order.length i k t E) ∧ Hid (fs = [] ∨ i = 0 ∨ firstE (frontB t E) ≠ 0)) (fun _ iv _ => order.length + fs.length - (intOf iv).toNat)
            case atStart => exact ⟨0, 0, 0, _, rfl, rfl, Nat.zero_le _, Nat.zero_le _, HM0, Lib.hid (.inr (.inl rfl))⟩
            case round =>
              obtain ⟨k, i, t, E, rfl, rfl, hi, hkw, hM, hFE⟩ := hrel
              have wsum : IntKind.i64.wrap ((order.length : Int) + (fs.length : Int)) = (order.length : Int) + (fs.length : Int) := IntWalk.i64_in _ ⟨by omega, by omega⟩
              have wsub : IntKind.i64.wrap ((i : Int) - (order.length : Int)) = (i : Int) - (order.length : Int) := IntWalk.i64_in _ ⟨by omega, by omega⟩
              by_cases hgo : i < order.length + fs.length
              · have hgi : (i : Int) < (order.length : Int) + (fs.length : Int) := by omega
                by_cases hio : i < order.length
                · have hii : (i : Int) < (order.length : Int) := by omega
                  by_cases hfs : fs = []
                  · have hf0 : fs.length = 0 := by rw [hfs]; rfl
                    have HFS := Lib.hid hfs
                    clear hfs
                    go_wp2_with fail
                    go_roundw
                    case rel => exact ⟨k, i + 1, t, E, rfl, by go_num, by omega, hkw, Lib.hid (hM.out.skip HFS.out), Lib.hid (.inl HFS.out)⟩
                    case measure => simp [intOf]; omega
                  · have hfp := List.length_pos_iff.2 hfs
                    have hf0 : ((fs.length : Int) == 0) = false := beq_eq_false_iff_ne.2 (by omega)
                    rcases HO.out.cases with ⟨e0, _⟩ | ⟨b3, o3, c3, e3, _, hl3', hc3', _, hcell⟩
                    · exfalso; rw [e0] at hio; simp at hio
                    simp only [Value.slice.injEq] at e3
                    obtain ⟨rfl, _, rfl⟩ := e3
                    have hBW := (hB.out.bl.trans (hFX.out.bl.mono hB.out.bl.size)).trans (hM.out.bl.mono (hB.out.bl.trans (hFX.out.bl.mono hB.out.bl.size)).size)
                    have d0 := keepS hBW (hcell i hio)
                    have hob := HO.out.byt.get i
                    generalize order.getD i 0 = oz at *
                    have wo : IntKind.i64.wrap oz = oz := IntWalk.i64_in _ ⟨by omega, by omega⟩
                    have hfne : (fs.length : Int) ≠ 0 := by omega
                    have hr0 := Int.emod_nonneg oz hfne
                    have hr1' := Int.emod_lt_of_pos oz (show (0 : Int) < fs.length by omega)
                    obtain ⟨p, hp⟩ : ∃ p : Nat, oz % (fs.length : Int) = (p : Int) := ⟨(oz % (fs.length : Int)).toNat, by omega⟩
                    have hpl : p < fs.length := by omega
                    clear hcell hBW hr0 hr1'
                    obtain ⟨q, hqp⟩ : ∃ q, fs[p]? = some q := ⟨_, List.getElem?_eq_getElem hpl⟩
                    have hqo := hPn.out.ok q (List.mem_of_getElem? hqp)
                    obtain ⟨gf, rfl, df⟩ := own_cell (own_below hFX.out.fr hM.out.bl) (by simp) (k := p) (x := .int .i64 q.1) (by simp [hqp])
                    obtain ⟨gt, rfl, dt⟩ := own_cell (own_below hFX.out.to hM.out.bl) (by simp) (k := p) (x := .int .i64 q.2) (by simp [hqp])
                    have hwa := own_below (own_below hB.out.all hFX.out.bl) hM.out.bl
                    obtain ⟨hra, hpa⟩ := ra_own hwa BYT.out
                    obtain ⟨o1, hsl, hr1, hp1⟩ := part_lh hra.rd hpa q.1 q.2 (by omega) hqo.2
                    have hJ : ∀ (j : Nat) q', j + order.length = i → fs[j]? = some q' → q' = q := fun j q' h1 h2 => by omega
                    have HPUT := Lib.hid (put_mid (hM.out.below (below_drewN wr 1)) (by omega) (by omega) hqo hJ (hr1.below (below_drewN wr 1)) hp1)
                    have hpi : (p : Int) < (fs.length : Int) := by omega
                    have HQO := Lib.hid hqo
                    obtain ⟨qf, qt⟩ := q
                    simp only at df dt hsl HPUT hqo
                    clear hqp hra hpa hwa hr1 hp1
                    go_wp2_with fail
                    go_still_tail 15, (by kernel_rfl)
                    clear df dt hsl
                    go_wp2_with fail
                    refine HPUT.out.mono ?_
                    rintro e w3 ⟨rfl, E1, hm1⟩
                    have HM1 := Lib.hid hm1
                    have HNX := Lib.hid (next_mid hm1 MSG.out (by omega) (by omega))
                    clear hm1 HPUT
                    go_wp2_with fail
                    refine HNX.out.mono ?_
                    rintro e w4 hcase
                    have hst : ∃ (a4 : Option Addr) (n4 c4 : Nat) (ec : Int), e = .returned (.tuple #[.slice a4 n4 c4, .int .i64 ec]) ∧ Hid (TakeSt X w4 ws fs order.length (i + 1) k (.slice a4 n4 c4) ec) := by
                      rcases hcase with ⟨ec, h1, rfl, h2, h3⟩ | ⟨a, n, c, q, t2, E2, rfl, h2, h3, h4⟩
                      · exact ⟨none, 0, 0, ec, rfl, Lib.hid (.inl ⟨h1, _, _, h2, h3⟩)⟩
                      · exact ⟨a, n, c, 0, rfl, Lib.hid (.inr ⟨rfl, q, _, _, h2, h3, h4⟩)⟩
                    obtain ⟨a4, n4, c4, ec, rfl, HST⟩ := hst
                    clear hcase HNX HM1
                    have hk8 : k ≤ ws.length := hkw
                    clear hkw hM hFE
                    go_wp2_with fail
                    go_loopw [17, 20, 21] (fun kv mv ev w5 => ∃ (k' : Nat) (a : Option Addr) (n c : Nat) (ec : Int), kv = .int .i64 k' ∧ mv = .slice a n c ∧ ev = .int .i64 ec ∧ k' ≤ ws.length ∧ Hid (TakeSt X w5 ws fs order.length (i + 1) k' (.slice a n c) ec)) (fun kv _ _ _ => ws.length - (intOf kv).toNat)
                    case atStart => exact ⟨k, a4, n4, c4, ec, rfl, rfl, rfl, hk8, HST⟩
                    case round =>
                      obtain ⟨k', a5, n5, c5, ec, rfl, rfl, rfl, hk', hT⟩ := hrel
                      by_cases hec : ec = 0
                      · subst hec
                        rcases hT.out with ⟨h, _⟩ | ⟨_, qm, t', E', hqm, hrm, hmid⟩
                        · exact absurd rfl h
                        have hkl := (List.getElem?_eq_some_iff.1 hqm).1
                        have hkn : ¬ ((ws.length : Int) ≤ (k' : Int)) := by omega
                        have hkn2 : (k' : Int) < (ws.length : Int) := by omega
                        obtain ⟨gw, rfl, dw⟩ := own_cell (own_below (own_below hB.out.want hFX.out.bl) hmid.bl) (by simp) (k := k') (x := qm.1) (by simp [hqm])
                        have hrw := ((hB.out.rd qm (List.mem_of_getElem? hqm)).below hFX.out.bl).below hmid.bl
                        obtain ⟨x1, y1, z1, e1⟩ := hrw.shape3
                        rw [e1] at dw hrw
                        have HSM := Lib.hid (same_true hrm hrw)
                        have HMD := Lib.hid hmid
                        clear hqm hrm hmid hrw e1
                        go_wp2_with fail
                        refine HSM.out.mono ?_
                        rintro e w6 ⟨rfl, hb6⟩
                        have HNX := Lib.hid (next_mid (HMD.out.below hb6) MSG.out (by omega) (by omega))
                        clear hb6 HSM dw
                        go_wp2_with fail
                        refine HNX.out.mono ?_
                        rintro e w7 hcase
                        have hst : ∃ (a4 : Option Addr) (n4 c4 : Nat) (ec : Int), e = .returned (.tuple #[.slice a4 n4 c4, .int .i64 ec]) ∧ Hid (TakeSt X w7 ws fs order.length (i + 1) (k' + 1) (.slice a4 n4 c4) ec) := by
                          rcases hcase with ⟨ec, h1, rfl, h2, h3⟩ | ⟨a, n, c, q, t2, E2, rfl, h2, h3, h4⟩
                          · exact ⟨none, 0, 0, ec, rfl, Lib.hid (.inl ⟨h1, _, _, h2, h3⟩)⟩
                          · exact ⟨a, n, c, 0, rfl, Lib.hid (.inr ⟨rfl, q, _, _, h2, h3, h4⟩)⟩
                        obtain ⟨a6, n6, c6, e6, rfl, HST6⟩ := hst
                        clear hcase HNX HMD
                        go_wp2_with fail
                        go_roundw
                        case rel => exact ⟨k' + 1, a6, n6, c6, e6, by go_num, rfl, rfl, by omega, HST6⟩
                        case measure => simp [intOf]; omega
                      · rcases hT.out with ⟨_, t', E', hmid, hfe⟩ | ⟨h, _⟩
                        · have hne : (ec == 0) = false := beq_eq_false_iff_ne.2 hec
                          have HMD := Lib.hid hmid
                          have HFX := Lib.hid (show fs = [] ∨ i + 1 = 0 ∨ firstE (frontB t' E') ≠ 0 from .inr (.inr hfe))
                          clear hmid hfe hec
                          go_wp2_with fail
                          go_roundw
                          case rel => exact ⟨k', i + 1, t', E', rfl, by go_num, by omega, hk', HMD, HFX⟩
                          case measure => simp [intOf]; omega
                        · exact absurd h hec
                · have hii : ¬ (i : Int) < (order.length : Int) := by omega
                  obtain ⟨p, hp⟩ : ∃ p : Nat, (i : Int) - (order.length : Int) = (p : Int) := ⟨i - order.length, by omega⟩
                  have hpl : p < fs.length := by omega
                  have hjj : p + order.length = i := by omega
                  rw [hp] at wsub
                  obtain ⟨q, hqp⟩ : ∃ q, fs[p]? = some q := ⟨_, List.getElem?_eq_getElem hpl⟩
                  have hqo := hPn.out.ok q (List.mem_of_getElem? hqp)
                  obtain ⟨gf, rfl, df⟩ := own_cell (own_below hFX.out.fr hM.out.bl) (by simp) (k := p) (x := .int .i64 q.1) (by simp [hqp])
                  obtain ⟨gt, rfl, dt⟩ := own_cell (own_below hFX.out.to hM.out.bl) (by simp) (k := p) (x := .int .i64 q.2) (by simp [hqp])
                  have hwa := own_below (own_below hB.out.all hFX.out.bl) hM.out.bl
                  obtain ⟨hra, hpa⟩ := ra_own hwa BYT.out
                  obtain ⟨o1, hsl, hr1, hp1⟩ := part_lh hra.rd hpa q.1 q.2 (by omega) hqo.2
                  have hJ : ∀ (j : Nat) q', j + order.length = i → fs[j]? = some q' → q' = q := fun j q' h1 h2 => by
                    have hj : j = p := by omega
                    rw [hj, hqp] at h2
                    exact (Option.some.inj h2).symm
                  have HPUT := Lib.hid (put_mid (hM.out.below (below_drewN wr 1)) (by omega) (by omega) hqo hJ (hr1.below (below_drewN wr 1)) hp1)
                  have hpi : (p : Int) < (fs.length : Int) := by omega
                  have HQO := Lib.hid hqo
                  obtain ⟨qf, qt⟩ := q
                  simp only at df dt hsl HPUT hqo
                  clear hqp hra hpa hwa hr1 hp1
                  go_wp2_with fail
                  go_still_tail 15, (by kernel_rfl)
                  clear df dt hsl
                  go_wp2_with fail
                  refine HPUT.out.mono ?_
                  rintro e w3 ⟨rfl, E1, hm1⟩
                  have HM1 := Lib.hid hm1
                  have HNX := Lib.hid (next_mid hm1 MSG.out (by omega) (by omega))
                  clear hm1 HPUT
                  go_wp2_with fail
                  refine HNX.out.mono ?_
                  rintro e w4 hcase
                  have hst : ∃ (a4 : Option Addr) (n4 c4 : Nat) (ec : Int), e = .returned (.tuple #[.slice a4 n4 c4, .int .i64 ec]) ∧ Hid (TakeSt X w4 ws fs order.length (i + 1) k (.slice a4 n4 c4) ec) := by
                    rcases hcase with ⟨ec, h1, rfl, h2, h3⟩ | ⟨a, n, c, q, t2, E2, rfl, h2, h3, h4⟩
                    · exact ⟨none, 0, 0, ec, rfl, Lib.hid (.inl ⟨h1, _, _, h2, h3⟩)⟩
                    · exact ⟨a, n, c, 0, rfl, Lib.hid (.inr ⟨rfl, q, _, _, h2, h3, h4⟩)⟩
                  obtain ⟨a4, n4, c4, ec, rfl, HST⟩ := hst
                  clear hcase HNX HM1
                  have hk8 : k ≤ ws.length := hkw
                  clear hkw hM hFE
                  go_wp2_with fail
                  go_loopw [17, 20, 21] (fun kv mv ev w5 => ∃ (k' : Nat) (a : Option Addr) (n c : Nat) (ec : Int), kv = .int .i64 k' ∧ mv = .slice a n c ∧ ev = .int .i64 ec ∧ k' ≤ ws.length ∧ Hid (TakeSt X w5 ws fs order.length (i + 1) k' (.slice a n c) ec)) (fun kv _ _ _ => ws.length - (intOf kv).toNat)
                  case atStart => exact ⟨k, a4, n4, c4, ec, rfl, rfl, rfl, hk8, HST⟩
                  case round =>
                    obtain ⟨k', a5, n5, c5, ec, rfl, rfl, rfl, hk', hT⟩ := hrel
                    by_cases hec : ec = 0
                    · subst hec
                      rcases hT.out with ⟨h, _⟩ | ⟨_, qm, t', E', hqm, hrm, hmid⟩
                      · exact absurd rfl h
                      have hkl := (List.getElem?_eq_some_iff.1 hqm).1
                      have hkn : ¬ ((ws.length : Int) ≤ (k' : Int)) := by omega
                      have hkn2 : (k' : Int) < (ws.length : Int) := by omega
                      obtain ⟨gw, rfl, dw⟩ := own_cell (own_below (own_below hB.out.want hFX.out.bl) hmid.bl) (by simp) (k := k') (x := qm.1) (by simp [hqm])
                      have hrw := ((hB.out.rd qm (List.mem_of_getElem? hqm)).below hFX.out.bl).below hmid.bl
                      obtain ⟨x1, y1, z1, e1⟩ := hrw.shape3
                      rw [e1] at dw hrw
                      have HSM := Lib.hid (same_true hrm hrw)
                      have HMD := Lib.hid hmid
                      clear hqm hrm hmid hrw e1
                      go_wp2_with fail
                      refine HSM.out.mono ?_
                      rintro e w6 ⟨rfl, hb6⟩
                      have HNX := Lib.hid (next_mid (HMD.out.below hb6) MSG.out (by omega) (by omega))
                      clear hb6 HSM dw
                      go_wp2_with fail
                      refine HNX.out.mono ?_
                      rintro e w7 hcase
                      have hst : ∃ (a4 : Option Addr) (n4 c4 : Nat) (ec : Int), e = .returned (.tuple #[.slice a4 n4 c4, .int .i64 ec]) ∧ Hid (TakeSt X w7 ws fs order.length (i + 1) (k' + 1) (.slice a4 n4 c4) ec) := by
                        rcases hcase with ⟨ec, h1, rfl, h2, h3⟩ | ⟨a, n, c, q, t2, E2, rfl, h2, h3, h4⟩
                        · exact ⟨none, 0, 0, ec, rfl, Lib.hid (.inl ⟨h1, _, _, h2, h3⟩)⟩
                        · exact ⟨a, n, c, 0, rfl, Lib.hid (.inr ⟨rfl, q, _, _, h2, h3, h4⟩)⟩
                      obtain ⟨a6, n6, c6, e6, rfl, HST6⟩ := hst
                      clear hcase HNX HMD
                      go_wp2_with fail
                      go_roundw
                      case rel => exact ⟨k' + 1, a6, n6, c6, e6, by go_num, rfl, rfl, by omega, HST6⟩
                      case measure => simp [intOf]; omega
                    · rcases hT.out with ⟨_, t', E', hmid, hfe⟩ | ⟨h, _⟩
                      · have hne : (ec == 0) = false := beq_eq_false_iff_ne.2 hec
                        have HMD := Lib.hid hmid
                        have HFX := Lib.hid (show fs = [] ∨ i + 1 = 0 ∨ firstE (frontB t' E') ≠ 0 from .inr (.inr hfe))
                        clear hmid hfe hec
                        go_wp2_with fail
                        go_roundw
                        case rel => exact ⟨k', i + 1, t', E', rfl, by go_num, by omega, hk', HMD, HFX⟩
                        case measure => simp [intOf]; omega
                      · exact absurd h hec
              · obtain rfl : i = order.length + fs.length := by omega
                have hgi : ¬ ((order.length + fs.length : Nat) : Int) < (order.length : Int) + (fs.length : Int) := by omega
                have hdone := hM.out.done MSG.out hPn.out rfl (by
                  rcases hFE.out with h | h | h
                  · exact .inl h
                  · exact .inl (List.eq_nil_of_length_eq_zero (by omega))
                  · exact .inr h)
                obtain ⟨rfl, ht⟩ := hdone
                obtain ⟨mo, hst, _⟩ := hM.out.sg
                have HTK := Lib.hid (taken_any hst)
                have HT := Lib.hid ht
                have HBX := Lib.hid ((hB.out.bl.trans (hFX.out.bl.mono hB.out.bl.size)).trans (hM.out.bl.mono (hB.out.bl.trans (hFX.out.bl.mono hB.out.bl.size)).size))
                clear hst ht
                go_wp2_with fail
                refine HTK.out.mono ?_
                rintro e w8 ⟨rfl, rfl⟩
                rw [HT.out]
                have haw := Lib.hid (awake_any (w := w8))
                clear HTK
                go_wp2_with fail
                refine haw.out.mono ?_
                rintro e w9 ⟨rfl, hb9⟩
                have HB9 := Lib.hid (HBX.out.trans (hb9.mono HBX.out.size))
                clear hb9 haw
                go_wp2_with fail
                go_ret
                exact ⟨rfl, HB9.out⟩
        · have hki : ¬ (k : Int) < (cuts.length : Int) := by omega
          by_cases hpa : pN < (flat ws).length
          · have hpi : (pN : Int) < ((flat ws).length : Int) := by omega
            have HFT := hFT
            have hsz := hFT.out.bl.size
            have HCA := Lib.hid (fun i => cell_of_row _ wr.heap.size i _ 3 (0, 0) (heap_alloc_new wr (.cells #[.int .i64 (pN : Int)] 3)))
            go_wp2_with (first
            | (at_builtin
               refine wpList_append_own2 rfl (.tmp 97) (.tmp 99) 28 rfl W1.heap.size 3 i3 (.int .i64 0) 8 Try.underlying28 hi3 hc0 hc1 hc2 rfl _ fs.length (fs.map (fun q => .int .i64 q.1)) rfl
                 (own_below HFT.out.fr (below_alloc wr _)) ⟨wr.heap.size, 0, none⟩ 1 1 [.int .i64 (pN : Int)] rfl rfl
                 (cells_at HCA.out) (by intro u hu; simp at hu; subst hu; rfl) (by omega) (by unfold maxLen; omega) (by omega) (by simp; omega) ?_
               intro fv' W2 hown' hgrow hlow
               have HT1 := Lib.hid ((HFT.out.below (below_alloc wr (.cells #[.int .i64 (pN : Int)] 3))).first hown' hgrow hlow)
               obtain ⟨fa2, fc2, rfl⟩ := own_shape hown'
               have hb12 := HT1.out.bl.size
               have HCB := Lib.hid (fun i => cell_of_row _ W2.heap.size i _ 3 (0, 0) (heap_alloc_new W2 (.cells #[.int .i64 ((flat ws).length : Int)] 3)))
               clear hown' hgrow hlow)
            | (at_builtin
               refine wpList_append_own2 rfl (.tmp 101) (.tmp 104) 28 rfl W1.heap.size 3 i3 (.int .i64 0) 8 Try.underlying28 hi3 hc0 hc1 hc2 rfl _ fs.length (fs.map (fun q => .int .i64 q.2)) rfl
                 (own_below HT1.out.to (below_alloc W2 _)) ⟨W2.heap.size, 0, none⟩ 1 1 [.int .i64 ((flat ws).length : Int)] rfl rfl
                 (cells_at HCB.out) (by intro u hu; simp at hu; subst hu; rfl) (by omega) (by unfold maxLen; omega) (by omega) (by simp; omega) ?_
               intro tv' W3 hown' hgrow hlow
               have HT2 := Lib.hid ((HT1.out.below (below_alloc W2 (.cells #[.int .i64 ((flat ws).length : Int)] 3))).second (b := (flat ws).length) hown' hgrow hlow)
               obtain ⟨ta2, tc2, rfl⟩ := own_shape hown'
               clear hown' hgrow hlow))
            obtain ⟨gs, hgs⟩ : ∃ gs, fs ++ [(pN, (flat ws).length)] = gs := ⟨_, rfl⟩
            have hgl : fs.length + 1 = gs.length := by rw [← hgs]; simp
            have HPG := Lib.hid (hPT.out.snoc hpa (Nat.le_refl _))
            rw [hgs] at HT2 HPG
            rw [hgl] at HT2 ⊢
            clear hgs
            have hfl : (flat ws).length ≤ 832 := by have := hFL.out; omega
            have hfs100 : gs.length ≤ 101 := by omega
            have hw8 : ws.length ≤ 8 := by have := HWK.out; omega
            have BYT := Lib.hid (show Byt (flat ws) from flat_byt (fun q hq => (hB.out.rd q hq).byt))
            have MSG := Lib.hid (fun q hq => (hB.out.msg q hq).1)
            obtain ⟨X, rfl⟩ : ∃ X, X = W3 := ⟨_, rfl⟩
            have hFX := HT2
            have hPn := HPG
            have hbx := heap_alloc_new X (.cells #[.int .i64 0, .map none] 26)
            have hba := below_alloc X (.cells #[.int .i64 0, .map none] 26)
            have HM0 := Lib.hid (show Mid X (X.alloc (.cells #[.int .i64 0, .map none] 26)) ws gs order.length 0 0 0 (fun _ => none) from ⟨hba, ⟨none, St.fresh hbx, Nat.le_refl _, (fun _ h => by cases h), fun s l h => by cases h⟩, Nat.zero_le _, rfl, fun p hp => (by obtain ⟨s, l, h, _⟩ := hp; cases h), fun j q h => absurd h (Nat.not_lt_zero _)⟩)
            clear hbx hba
            go_loopw [17, 18] (fun kv iv w2 => ∃ (k i t : Nat) (E : Int → Option (List Int)), kv = .int .i64 k ∧ iv = .int .i64 i ∧ i ≤ order.length + gs.length ∧ k ≤ ws.length ∧ Hid (Mid X w2 ws gs order.length i k t E) ∧ Hid (gs = [] ∨ i = 0 ∨ firstE (frontB t E) ≠ 0)) (fun _ iv _ => order.length + gs.length - (intOf iv).toNat)
            case atStart => exact ⟨0, 0, 0, _, rfl, rfl, Nat.zero_le _, Nat.zero_le _, HM0, Lib.hid (.inr (.inl rfl))⟩
            case round =>
              obtain ⟨k, i, t, E, rfl, rfl, hi, hkw, hM, hFE⟩ := hrel
              have wsum : IntKind.i64.wrap ((order.length : Int) + (gs.length : Int)) = (order.length : Int) + (gs.length : Int) := IntWalk.i64_in _ ⟨by omega, by omega⟩
              have wsub : IntKind.i64.wrap ((i : Int) - (order.length : Int)) = (i : Int) - (order.length : Int) := IntWalk.i64_in _ ⟨by omega, by omega⟩
              by_cases hgo : i < order.length + gs.length
              · have hgi : (i : Int) < (order.length : Int) + (gs.length : Int) := by omega
                by_cases hio : i < order.length
                · have hii : (i : Int) < (order.length : Int) := by omega
                  by_cases hfs : gs = []
                  · have hf0 : gs.length = 0 := by rw [hfs]; rfl
                    have HFS := Lib.hid hfs
                    clear hfs
                    go_wp2_with fail
                    go_roundw
                    case rel => exact ⟨k, i + 1, t, E, rfl, by go_num, by omega, hkw, Lib.hid (hM.out.skip HFS.out), Lib.hid (.inl HFS.out)⟩
                    case measure => simp [intOf]; omega
                  · have hfp := List.length_pos_iff.2 hfs
                    have hf0 : ((gs.length : Int) == 0) = false := beq_eq_false_iff_ne.2 (by omega)
                    rcases HO.out.cases with ⟨e0, _⟩ | ⟨b3, o3, c3, e3, _, hl3', hc3', _, hcell⟩
                    · exfalso; rw [e0] at hio; simp at hio
                    simp only [Value.slice.injEq] at e3
                    obtain ⟨rfl, _, rfl⟩ := e3
                    have hBW := (hB.out.bl.trans (hFX.out.bl.mono hB.out.bl.size)).trans (hM.out.bl.mono (hB.out.bl.trans (hFX.out.bl.mono hB.out.bl.size)).size)
                    have d0 := keepS hBW (hcell i hio)
                    have hob := HO.out.byt.get i
                    generalize order.getD i 0 = oz at *
                    have wo : IntKind.i64.wrap oz = oz := IntWalk.i64_in _ ⟨by omega, by omega⟩
                    have hfne : (gs.length : Int) ≠ 0 := by omega
                    have hr0 := Int.emod_nonneg oz hfne
                    have hr1' := Int.emod_lt_of_pos oz (show (0 : Int) < gs.length by omega)
                    obtain ⟨p, hp⟩ : ∃ p : Nat, oz % (gs.length : Int) = (p : Int) := ⟨(oz % (gs.length : Int)).toNat, by omega⟩
                    have hpl : p < gs.length := by omega
                    clear hcell hBW hr0 hr1'
                    obtain ⟨q, hqp⟩ : ∃ q, gs[p]? = some q := ⟨_, List.getElem?_eq_getElem hpl⟩
                    have hqo := hPn.out.ok q (List.mem_of_getElem? hqp)
                    obtain ⟨gf, rfl, df⟩ := own_cell (own_below hFX.out.fr hM.out.bl) (by simp) (k := p) (x := .int .i64 q.1) (by simp [hqp])
                    obtain ⟨gt, rfl, dt⟩ := own_cell (own_below hFX.out.to hM.out.bl) (by simp) (k := p) (x := .int .i64 q.2) (by simp [hqp])
                    have hwa := own_below (own_below hB.out.all hFX.out.bl) hM.out.bl
                    obtain ⟨hra, hpa⟩ := ra_own hwa BYT.out
                    obtain ⟨o1, hsl, hr1, hp1⟩ := part_lh hra.rd hpa q.1 q.2 (by omega) hqo.2
                    have hJ : ∀ (j : Nat) q', j + order.length = i → gs[j]? = some q' → q' = q := fun j q' h1 h2 => by omega
                    have HPUT := Lib.hid (put_mid (hM.out.below (below_drewN wr 1)) (by omega) (by omega) hqo hJ (hr1.below (below_drewN wr 1)) hp1)
                    have hpi : (p : Int) < (gs.length : Int) := by omega
                    have HQO := Lib.hid hqo
                    obtain ⟨qf, qt⟩ := q
                    simp only at df dt hsl HPUT hqo
                    clear hqp hra hpa hwa hr1 hp1
                    go_wp2_with fail
                    go_still_tail 15, (by kernel_rfl)
                    clear df dt hsl
                    go_wp2_with fail
                    refine HPUT.out.mono ?_
                    rintro e w3 ⟨rfl, E1, hm1⟩
                    have HM1 := Lib.hid hm1
                    have HNX := Lib.hid (next_mid hm1 MSG.out (by omega) (by omega))
                    clear hm1 HPUT
                    go_wp2_with fail
                    refine HNX.out.mono ?_
                    rintro e w4 hcase
                    have hst : ∃ (a4 : Option Addr) (n4 c4 : Nat) (ec : Int), e = .returned (.tuple #[.slice a4 n4 c4, .int .i64 ec]) ∧ Hid (TakeSt X w4 ws gs order.length (i + 1) k (.slice a4 n4 c4) ec) := by
                      rcases hcase with ⟨ec, h1, rfl, h2, h3⟩ | ⟨a, n, c, q, t2, E2, rfl, h2, h3, h4⟩
                      · exact ⟨none, 0, 0, ec, rfl, Lib.hid (.inl ⟨h1, _, _, h2, h3⟩)⟩
                      · exact ⟨a, n, c, 0, rfl, Lib.hid (.inr ⟨rfl, q, _, _, h2, h3, h4⟩)⟩
                    obtain ⟨a4, n4, c4, ec, rfl, HST⟩ := hst
                    clear hcase HNX HM1
                    have hk8 : k ≤ ws.length := hkw
                    clear hkw hM hFE
                    go_wp2_with fail
                    go_loopw [17, 20, 21] (fun kv mv ev w5 => ∃ (k' : Nat) (a : Option Addr) (n c : Nat) (ec : Int), kv = .int .i64 k' ∧ mv = .slice a n c ∧ ev = .int .i64 ec ∧ k' ≤ ws.length ∧ Hid (TakeSt X w5 ws gs order.length (i + 1) k' (.slice a n c) ec)) (fun kv _ _ _ => ws.length - (intOf kv).toNat)
                    case atStart => exact ⟨k, a4, n4, c4, ec, rfl, rfl, rfl, hk8, HST⟩
                    case round =>
                      obtain ⟨k', a5, n5, c5, ec, rfl, rfl, rfl, hk', hT⟩ := hrel
                      by_cases hec : ec = 0
                      · subst hec
                        rcases hT.out with ⟨h, _⟩ | ⟨_, qm, t', E', hqm, hrm, hmid⟩
                        · exact absurd rfl h
                        have hkl := (List.getElem?_eq_some_iff.1 hqm).1
                        have hkn : ¬ ((ws.length : Int) ≤ (k' : Int)) := by omega
                        have hkn2 : (k' : Int) < (ws.length : Int) := by omega
                        obtain ⟨gw, rfl, dw⟩ := own_cell (own_below (own_below hB.out.want hFX.out.bl) hmid.bl) (by simp) (k := k') (x := qm.1) (by simp [hqm])
                        have hrw := ((hB.out.rd qm (List.mem_of_getElem? hqm)).below hFX.out.bl).below hmid.bl
                        obtain ⟨x1, y1, z1, e1⟩ := hrw.shape3
                        rw [e1] at dw hrw
                        have HSM := Lib.hid (same_true hrm hrw)
                        have HMD := Lib.hid hmid
                        clear hqm hrm hmid hrw e1
                        go_wp2_with fail
                        refine HSM.out.mono ?_
                        rintro e w6 ⟨rfl, hb6⟩
                        have HNX := Lib.hid (next_mid (HMD.out.below hb6) MSG.out (by omega) (by omega))
                        clear hb6 HSM dw
                        go_wp2_with fail
                        refine HNX.out.mono ?_
                        rintro e w7 hcase
                        have hst : ∃ (a4 : Option Addr) (n4 c4 : Nat) (ec : Int), e = .returned (.tuple #[.slice a4 n4 c4, .int .i64 ec]) ∧ Hid (TakeSt X w7 ws gs order.length (i + 1) (k' + 1) (.slice a4 n4 c4) ec) := by
                          rcases hcase with ⟨ec, h1, rfl, h2, h3⟩ | ⟨a, n, c, q, t2, E2, rfl, h2, h3, h4⟩
                          · exact ⟨none, 0, 0, ec, rfl, Lib.hid (.inl ⟨h1, _, _, h2, h3⟩)⟩
                          · exact ⟨a, n, c, 0, rfl, Lib.hid (.inr ⟨rfl, q, _, _, h2, h3, h4⟩)⟩
                        obtain ⟨a6, n6, c6, e6, rfl, HST6⟩ := hst
                        clear hcase HNX HMD
                        go_wp2_with fail
                        go_roundw
                        case rel => exact ⟨k' + 1, a6, n6, c6, e6, by go_num, rfl, rfl, by omega, HST6⟩
                        case measure => simp [intOf]; omega
                      · rcases hT.out with ⟨_, t', E', hmid, hfe⟩ | ⟨h, _⟩
                        · have hne : (ec == 0) = false := beq_eq_false_iff_ne.2 hec
                          have HMD := Lib.hid hmid
                          have HFX := Lib.hid (show gs = [] ∨ i + 1 = 0 ∨ firstE (frontB t' E') ≠ 0 from .inr (.inr hfe))
                          clear hmid hfe hec
                          go_wp2_with fail
                          go_roundw
                          case rel => exact ⟨k', i + 1, t', E', rfl, by go_num, by omega, hk', HMD, HFX⟩
                          case measure => simp [intOf]; omega
                        · exact absurd h hec
                · have hii : ¬ (i : Int) < (order.length : Int) := by omega
                  obtain ⟨p, hp⟩ : ∃ p : Nat, (i : Int) - (order.length : Int) = (p : Int) := ⟨i - order.length, by omega⟩
                  have hpl : p < gs.length := by omega
                  have hjj : p + order.length = i := by omega
                  rw [hp] at wsub
                  obtain ⟨q, hqp⟩ : ∃ q, gs[p]? = some q := ⟨_, List.getElem?_eq_getElem hpl⟩
                  have hqo := hPn.out.ok q (List.mem_of_getElem? hqp)
                  obtain ⟨gf, rfl, df⟩ := own_cell (own_below hFX.out.fr hM.out.bl) (by simp) (k := p) (x := .int .i64 q.1) (by simp [hqp])
                  obtain ⟨gt, rfl, dt⟩ := own_cell (own_below hFX.out.to hM.out.bl) (by simp) (k := p) (x := .int .i64 q.2) (by simp [hqp])
                  have hwa := own_below (own_below hB.out.all hFX.out.bl) hM.out.bl
                  obtain ⟨hra, hpa⟩ := ra_own hwa BYT.out
                  obtain ⟨o1, hsl, hr1, hp1⟩ := part_lh hra.rd hpa q.1 q.2 (by omega) hqo.2
                  have hJ : ∀ (j : Nat) q', j + order.length = i → gs[j]? = some q' → q' = q := fun j q' h1 h2 => by
                    have hj : j = p := by omega
                    rw [hj, hqp] at h2
                    exact (Option.some.inj h2).symm
                  have HPUT := Lib.hid (put_mid (hM.out.below (below_drewN wr 1)) (by omega) (by omega) hqo hJ (hr1.below (below_drewN wr 1)) hp1)
                  have hpi : (p : Int) < (gs.length : Int) := by omega
                  have HQO := Lib.hid hqo
                  obtain ⟨qf, qt⟩ := q
                  simp only at df dt hsl HPUT hqo
                  clear hqp hra hpa hwa hr1 hp1
                  go_wp2_with fail
                  go_still_tail 15, (by kernel_rfl)
                  clear df dt hsl
                  go_wp2_with fail
                  refine HPUT.out.mono ?_
                  rintro e w3 ⟨rfl, E1, hm1⟩
                  have HM1 := Lib.hid hm1
                  have HNX := Lib.hid (next_mid hm1 MSG.out (by omega) (by omega))
                  clear hm1 HPUT
                  go_wp2_with fail
                  refine HNX.out.mono ?_
                  rintro e w4 hcase
                  have hst : ∃ (a4 : Option Addr) (n4 c4 : Nat) (ec : Int), e = .returned (.tuple #[.slice a4 n4 c4, .int .i64 ec]) ∧ Hid (TakeSt X w4 ws gs order.length (i + 1) k (.slice a4 n4 c4) ec) := by
                    rcases hcase with ⟨ec, h1, rfl, h2, h3⟩ | ⟨a, n, c, q, t2, E2, rfl, h2, h3, h4⟩
                    · exact ⟨none, 0, 0, ec, rfl, Lib.hid (.inl ⟨h1, _, _, h2, h3⟩)⟩
                    · exact ⟨a, n, c, 0, rfl, Lib.hid (.inr ⟨rfl, q, _, _, h2, h3, h4⟩)⟩
                  obtain ⟨a4, n4, c4, ec, rfl, HST⟩ := hst
                  clear hcase HNX HM1
                  have hk8 : k ≤ ws.length := hkw
                  clear hkw hM hFE
                  go_wp2_with fail
                  go_loopw [17, 20, 21] (fun kv mv ev w5 => ∃ (k' : Nat) (a : Option Addr) (n c : Nat) (ec : Int), kv = .int .i64 k' ∧ mv = .slice a n c ∧ ev = .int .i64 ec ∧ k' ≤ ws.length ∧ Hid (TakeSt X w5 ws gs order.length (i + 1) k' (.slice a n c) ec)) (fun kv _ _ _ => ws.length - (intOf kv).toNat)
                  case atStart => exact ⟨k, a4, n4, c4, ec, rfl, rfl, rfl, hk8, HST⟩
                  case round =>
                    obtain ⟨k', a5, n5, c5, ec, rfl, rfl, rfl, hk', hT⟩ := hrel
                    by_cases hec : ec = 0
                    · subst hec
                      rcases hT.out with ⟨h, _⟩ | ⟨_, qm, t', E', hqm, hrm, hmid⟩
                      · exact absurd rfl h
                      have hkl := (List.getElem?_eq_some_iff.1 hqm).1
                      have hkn : ¬ ((ws.length : Int) ≤ (k' : Int)) := by omega
                      have hkn2 : (k' : Int) < (ws.length : Int) := by omega
                      obtain ⟨gw, rfl, dw⟩ := own_cell (own_below (own_below hB.out.want hFX.out.bl) hmid.bl) (by simp) (k := k') (x := qm.1) (by simp [hqm])
                      have hrw := ((hB.out.rd qm (List.mem_of_getElem? hqm)).below hFX.out.bl).below hmid.bl
                      obtain ⟨x1, y1, z1, e1⟩ := hrw.shape3
                      rw [e1] at dw hrw
                      have HSM := Lib.hid (same_true hrm hrw)
                      have HMD := Lib.hid hmid
                      clear hqm hrm hmid hrw e1
                      go_wp2_with fail
                      refine HSM.out.mono ?_
                      rintro e w6 ⟨rfl, hb6⟩
                      have HNX := Lib.hid (next_mid (HMD.out.below hb6) MSG.out (by omega) (by omega))
                      clear hb6 HSM dw
                      go_wp2_with fail
                      refine HNX.out.mono ?_
                      rintro e w7 hcase
                      have hst : ∃ (a4 : Option Addr) (n4 c4 : Nat) (ec : Int), e = .returned (.tuple #[.slice a4 n4 c4, .int .i64 ec]) ∧ Hid (TakeSt X w7 ws gs order.length (i + 1) (k' + 1) (.slice a4 n4 c4) ec) := by
                        rcases hcase with ⟨ec, h1, rfl, h2, h3⟩ | ⟨a, n, c, q, t2, E2, rfl, h2, h3, h4⟩
                        · exact ⟨none, 0, 0, ec, rfl, Lib.hid (.inl ⟨h1, _, _, h2, h3⟩)⟩
                        · exact ⟨a, n, c, 0, rfl, Lib.hid (.inr ⟨rfl, q, _, _, h2, h3, h4⟩)⟩
                      obtain ⟨a6, n6, c6, e6, rfl, HST6⟩ := hst
                      clear hcase HNX HMD
                      go_wp2_with fail
                      go_roundw
                      case rel => exact ⟨k' + 1, a6, n6, c6, e6, by go_num, rfl, rfl, by omega, HST6⟩
                      case measure => simp [intOf]; omega
                    · rcases hT.out with ⟨_, t', E', hmid, hfe⟩ | ⟨h, _⟩
                      · have hne : (ec == 0) = false := beq_eq_false_iff_ne.2 hec
                        have HMD := Lib.hid hmid
                        have HFX := Lib.hid (show gs = [] ∨ i + 1 = 0 ∨ firstE (frontB t' E') ≠ 0 from .inr (.inr hfe))
                        clear hmid hfe hec
                        go_wp2_with fail
                        go_roundw
                        case rel => exact ⟨k', i + 1, t', E', rfl, by go_num, by omega, hk', HMD, HFX⟩
                        case measure => simp [intOf]; omega
                      · exact absurd h hec
              · obtain rfl : i = order.length + gs.length := by omega
                have hgi : ¬ ((order.length + gs.length : Nat) : Int) < (order.length : Int) + (gs.length : Int) := by omega
                have hdone := hM.out.done MSG.out hPn.out rfl (by
                  rcases hFE.out with h | h | h
                  · exact .inl h
                  · exact .inl (List.eq_nil_of_length_eq_zero (by omega))
                  · exact .inr h)
                obtain ⟨rfl, ht⟩ := hdone
                obtain ⟨mo, hst, _⟩ := hM.out.sg
                have HTK := Lib.hid (taken_any hst)
                have HT := Lib.hid ht
                have HBX := Lib.hid ((hB.out.bl.trans (hFX.out.bl.mono hB.out.bl.size)).trans (hM.out.bl.mono (hB.out.bl.trans (hFX.out.bl.mono hB.out.bl.size)).size))
                clear hst ht
                go_wp2_with fail
                refine HTK.out.mono ?_
                rintro e w8 ⟨rfl, rfl⟩
                rw [HT.out]
                have haw := Lib.hid (awake_any (w := w8))
                clear HTK
                go_wp2_with fail
                refine haw.out.mono ?_
                rintro e w9 ⟨rfl, hb9⟩
                have HB9 := Lib.hid (HBX.out.trans (hb9.mono HBX.out.size))
                clear hb9 haw
                go_wp2_with fail
                go_ret
                exact ⟨rfl, HB9.out⟩
          · obtain rfl : pN = (flat ws).length := by have := hPT.out.le; omega
            have hfl : (flat ws).length ≤ 832 := by have := hFL.out; omega
            have hfs100 : fs.length ≤ 100 := by omega
            have hw8 : ws.length ≤ 8 := by have := HWK.out; omega
            have BYT := Lib.hid (show Byt (flat ws) from flat_byt (fun q hq => (hB.out.rd q hq).byt))
            have MSG := Lib.hid (fun q hq => (hB.out.msg q hq).1)
            obtain ⟨X, rfl⟩ : ∃ X, X = wr := ⟨_, rfl⟩
            have hFX := hFT
            have hPn := hPT
            have hbx := heap_alloc_new X (.cells #[.int .i64 0, .map none] 26)
            have hba := below_alloc X (.cells #[.int .i64 0, .map none] 26)
            have HM0 := Lib.hid (show Mid X (X.alloc (.cells #[.int .i64 0, .map none] 26)) ws fs order.length 0 0 0 (fun _ => none) from ⟨hba, ⟨none, St.fresh hbx, Nat.le_refl _, (fun _ h => by cases h), fun s l h => by cases h⟩, Nat.zero_le _, rfl, fun p hp => (by obtain ⟨s, l, h, _⟩ := hp; cases h), fun j q h => absurd h (Nat.not_lt_zero _)⟩)
            clear hbx hba
            have hpl0 : ¬ ((flat ws).length : Int) < ((flat ws).length : Int) := by omega
            go_wp2_with fail
            go_loopw [17, 18] (fun kv iv w2 => ∃ (k i t : Nat) (E : Int → Option (List Int)), kv = .int .i64 k ∧ iv = .int .i64 i ∧ i ≤ order.length + fs.length ∧ k ≤ ws.length ∧ Hid (Mid X w2 ws fs order.length i k t E) ∧ Hid (fs = [] ∨ i = 0 ∨ firstE (frontB t E) ≠ 0)) (fun _ iv _ => order.length + fs.length - (intOf iv).toNat)
            case atStart => exact ⟨0, 0, 0, _, rfl, rfl, Nat.zero_le _, Nat.zero_le _, HM0, Lib.hid (.inr (.inl rfl))⟩
            case round =>
              obtain ⟨k, i, t, E, rfl, rfl, hi, hkw, hM, hFE⟩ := hrel
              have wsum : IntKind.i64.wrap ((order.length : Int) + (fs.length : Int)) = (order.length : Int) + (fs.length : Int) := IntWalk.i64_in _ ⟨by omega, by omega⟩
              have wsub : IntKind.i64.wrap ((i : Int) - (order.length : Int)) = (i : Int) - (order.length : Int) := IntWalk.i64_in _ ⟨by omega, by omega⟩
              by_cases hgo : i < order.length + fs.length
              · have hgi : (i : Int) < (order.length : Int) + (fs.length : Int) := by omega
                by_cases hio : i < order.length
                · have hii : (i : Int) < (order.length : Int) := by omega
                  by_cases hfs : fs = []
                  · have hf0 : fs.length = 0 := by rw [hfs]; rfl
                    have HFS := Lib.hid hfs
                    clear hfs
                    go_wp2_with fail
                    go_roundw
                    case rel => exact ⟨k, i + 1, t, E, rfl, by go_num, by omega, hkw, Lib.hid (hM.out.skip HFS.out), Lib.hid (.inl HFS.out)⟩
                    case measure => simp [intOf]; omega
                  · have hfp := List.length_pos_iff.2 hfs
                    have hf0 : ((fs.length : Int) == 0) = false := beq_eq_false_iff_ne.2 (by omega)
                    rcases HO.out.cases with ⟨e0, _⟩ | ⟨b3, o3, c3, e3, _, hl3', hc3', _, hcell⟩
                    · exfalso; rw [e0] at hio; simp at hio
                    simp only [Value.slice.injEq] at e3
                    obtain ⟨rfl, _, rfl⟩ := e3
                    have hBW := (hB.out.bl.trans (hFX.out.bl.mono hB.out.bl.size)).trans (hM.out.bl.mono (hB.out.bl.trans (hFX.out.bl.mono hB.out.bl.size)).size)
                    have d0 := keepS hBW (hcell i hio)
                    have hob := HO.out.byt.get i
                    generalize order.getD i 0 = oz at *
                    have wo : IntKind.i64.wrap oz = oz := IntWalk.i64_in _ ⟨by omega, by omega⟩
                    have hfne : (fs.length : Int) ≠ 0 := by omega
                    have hr0 := Int.emod_nonneg oz hfne
                    have hr1' := Int.emod_lt_of_pos oz (show (0 : Int) < fs.length by omega)
                    obtain ⟨p, hp⟩ : ∃ p : Nat, oz % (fs.length : Int) = (p : Int) := ⟨(oz % (fs.length : Int)).toNat, by omega⟩
                    have hpl : p < fs.length := by omega
                    clear hcell hBW hr0 hr1'
                    obtain ⟨q, hqp⟩ : ∃ q, fs[p]? = some q := ⟨_, List.getElem?_eq_getElem hpl⟩
                    have hqo := hPn.out.ok q (List.mem_of_getElem? hqp)
                    obtain ⟨gf, rfl, df⟩ := own_cell (own_below hFX.out.fr hM.out.bl) (by simp) (k := p) (x := .int .i64 q.1) (by simp [hqp])
                    obtain ⟨gt, rfl, dt⟩ := own_cell (own_below hFX.out.to hM.out.bl) (by simp) (k := p) (x := .int .i64 q.2) (by simp [hqp])
                    have hwa := own_below (own_below hB.out.all hFX.out.bl) hM.out.bl
                    obtain ⟨hra, hpa⟩ := ra_own hwa BYT.out
                    obtain ⟨o1, hsl, hr1, hp1⟩ := part_lh hra.rd hpa q.1 q.2 (by omega) hqo.2
                    have hJ : ∀ (j : Nat) q', j + order.length = i → fs[j]? = some q' → q' = q := fun j q' h1 h2 => by omega
                    have HPUT := Lib.hid (put_mid (hM.out.below (below_drewN wr 1)) (by omega) (by omega) hqo hJ (hr1.below (below_drewN wr 1)) hp1)
                    have hpi : (p : Int) < (fs.length : Int) := by omega
                    have HQO := Lib.hid hqo
                    obtain ⟨qf, qt⟩ := q
                    simp only at df dt hsl HPUT hqo
                    clear hqp hra hpa hwa hr1 hp1
                    go_wp2_with fail
                    go_still_tail 15, (by kernel_rfl)
                    clear df dt hsl
                    go_wp2_with fail
                    refine HPUT.out.mono ?_
                    rintro e w3 ⟨rfl, E1, hm1⟩
                    have HM1 := Lib.hid hm1
                    have HNX := Lib.hid (next_mid hm1 MSG.out (by omega) (by omega))
                    clear hm1 HPUT
                    go_wp2_with fail
                    refine HNX.out.mono ?_
                    rintro e w4 hcase
                    have hst : ∃ (a4 : Option Addr) (n4 c4 : Nat) (ec : Int), e = .returned (.tuple #[.slice a4 n4 c4, .int .i64 ec]) ∧ Hid (TakeSt X w4 ws fs order.length (i + 1) k (.slice a4 n4 c4) ec) := by
                      rcases hcase with ⟨ec, h1, rfl, h2, h3⟩ | ⟨a, n, c, q, t2, E2, rfl, h2, h3, h4⟩
                      · exact ⟨none, 0, 0, ec, rfl, Lib.hid (.inl ⟨h1, _, _, h2, h3⟩)⟩
                      · exact ⟨a, n, c, 0, rfl, Lib.hid (.inr ⟨rfl, q, _, _, h2, h3, h4⟩)⟩
                    obtain ⟨a4, n4, c4, ec, rfl, HST⟩ := hst
                    clear hcase HNX HM1
                    have hk8 : k ≤ ws.length := hkw
                    clear hkw hM hFE
                    go_wp2_with fail
                    go_loopw [17, 20, 21] (fun kv mv ev w5 => ∃ (k' : Nat) (a : Option Addr) (n c : Nat) (ec : Int), kv = .int .i64 k' ∧ mv = .slice a n c ∧ ev = .int .i64 ec ∧ k' ≤ ws.length ∧ Hid (TakeSt X w5 ws fs order.length (i + 1) k' (.slice a n c) ec)) (fun kv _ _ _ => ws.length - (intOf kv).toNat)
                    case atStart => exact ⟨k, a4, n4, c4, ec, rfl, rfl, rfl, hk8, HST⟩
                    case round =>
                      obtain ⟨k', a5, n5, c5, ec, rfl, rfl, rfl, hk', hT⟩ := hrel
                      by_cases hec : ec = 0
                      · subst hec
                        rcases hT.out with ⟨h, _⟩ | ⟨_, qm, t', E', hqm, hrm, hmid⟩
                        · exact absurd rfl h
                        have hkl := (List.getElem?_eq_some_iff.1 hqm).1
                        have hkn : ¬ ((ws.length : Int) ≤ (k' : Int)) := by omega
                        have hkn2 : (k' : Int) < (ws.length : Int) := by omega
                        obtain ⟨gw, rfl, dw⟩ := own_cell (own_below (own_below hB.out.want hFX.out.bl) hmid.bl) (by simp) (k := k') (x := qm.1) (by simp [hqm])
                        have hrw := ((hB.out.rd qm (List.mem_of_getElem? hqm)).below hFX.out.bl).below hmid.bl
                        obtain ⟨x1, y1, z1, e1⟩ := hrw.shape3
                        rw [e1] at dw hrw
                        have HSM := Lib.hid (same_true hrm hrw)
                        have HMD := Lib.hid hmid
                        clear hqm hrm hmid hrw e1
                        go_wp2_with fail
                        refine HSM.out.mono ?_
                        rintro e w6 ⟨rfl, hb6⟩
                        have HNX := Lib.hid (next_mid (HMD.out.below hb6) MSG.out (by omega) (by omega))
                        clear hb6 HSM dw
                        go_wp2_with fail
                        refine HNX.out.mono ?_
                        rintro e w7 hcase
                        have hst : ∃ (a4 : Option Addr) (n4 c4 : Nat) (ec : Int), e = .returned (.tuple #[.slice a4 n4 c4, .int .i64 ec]) ∧ Hid (TakeSt X w7 ws fs order.length (i + 1) (k' + 1) (.slice a4 n4 c4) ec) := by
                          rcases hcase with ⟨ec, h1, rfl, h2, h3⟩ | ⟨a, n, c, q, t2, E2, rfl, h2, h3, h4⟩
                          · exact ⟨none, 0, 0, ec, rfl, Lib.hid (.inl ⟨h1, _, _, h2, h3⟩)⟩
                          · exact ⟨a, n, c, 0, rfl, Lib.hid (.inr ⟨rfl, q, _, _, h2, h3, h4⟩)⟩
                        obtain ⟨a6, n6, c6, e6, rfl, HST6⟩ := hst
                        clear hcase HNX HMD
                        go_wp2_with fail
                        go_roundw
                        case rel => exact ⟨k' + 1, a6, n6, c6, e6, by go_num, rfl, rfl, by omega, HST6⟩
                        case measure => simp [intOf]; omega
                      · rcases hT.out with ⟨_, t', E', hmid, hfe⟩ | ⟨h, _⟩
                        · have hne : (ec == 0) = false := beq_eq_false_iff_ne.2 hec
                          have HMD := Lib.hid hmid
                          have HFX := Lib.hid (show fs = [] ∨ i + 1 = 0 ∨ firstE (frontB t' E') ≠ 0 from .inr (.inr hfe))
                          clear hmid hfe hec
                          go_wp2_with fail
                          go_roundw
                          case rel => exact ⟨k', i + 1, t', E', rfl, by go_num, by omega, hk', HMD, HFX⟩
                          case measure => simp [intOf]; omega
                        · exact absurd h hec
                · have hii : ¬ (i : Int) < (order.length : Int) := by omega
                  obtain ⟨p, hp⟩ : ∃ p : Nat, (i : Int) - (order.length : Int) = (p : Int) := ⟨i - order.length, by omega⟩
                  have hpl : p < fs.length := by omega
                  have hjj : p + order.length = i := by omega
                  rw [hp] at wsub
                  obtain ⟨q, hqp⟩ : ∃ q, fs[p]? = some q := ⟨_, List.getElem?_eq_getElem hpl⟩
                  have hqo := hPn.out.ok q (List.mem_of_getElem? hqp)
                  obtain ⟨gf, rfl, df⟩ := own_cell (own_below hFX.out.fr hM.out.bl) (by simp) (k := p) (x := .int .i64 q.1) (by simp [hqp])
                  obtain ⟨gt, rfl, dt⟩ := own_cell (own_below hFX.out.to hM.out.bl) (by simp) (k := p) (x := .int .i64 q.2) (by simp [hqp])
                  have hwa := own_below (own_below hB.out.all hFX.out.bl) hM.out.bl
                  obtain ⟨hra, hpa⟩ := ra_own hwa BYT.out
                  obtain ⟨o1, hsl, hr1, hp1⟩ := part_lh hra.rd hpa q.1 q.2 (by omega) hqo.2
                  have hJ : ∀ (j : Nat) q', j + order.length = i → fs[j]? = some q' → q' = q := fun j q' h1 h2 => by
                    have hj : j = p := by omega
                    rw [hj, hqp] at h2
                    exact (Option.some.inj h2).symm
                  have HPUT := Lib.hid (put_mid (hM.out.below (below_drewN wr 1)) (by omega) (by omega) hqo hJ (hr1.below (below_drewN wr 1)) hp1)
                  have hpi : (p : Int) < (fs.length : Int) := by omega
                  have HQO := Lib.hid hqo
                  obtain ⟨qf, qt⟩ := q
                  simp only at df dt hsl HPUT hqo
                  clear hqp hra hpa hwa hr1 hp1
                  go_wp2_with fail
                  go_still_tail 15, (by kernel_rfl)
                  clear df dt hsl
                  go_wp2_with fail
                  refine HPUT.out.mono ?_
                  rintro e w3 ⟨rfl, E1, hm1⟩
                  have HM1 := Lib.hid hm1
                  have HNX := Lib.hid (next_mid hm1 MSG.out (by omega) (by omega))
                  clear hm1 HPUT
                  go_wp2_with fail
                  refine HNX.out.mono ?_
                  rintro e w4 hcase
                  have hst : ∃ (a4 : Option Addr) (n4 c4 : Nat) (ec : Int), e = .returned (.tuple #[.slice a4 n4 c4, .int .i64 ec]) ∧ Hid (TakeSt X w4 ws fs order.length (i + 1) k (.slice a4 n4 c4) ec) := by
                    rcases hcase with ⟨ec, h1, rfl, h2, h3⟩ | ⟨a, n, c, q, t2, E2, rfl, h2, h3, h4⟩
                    · exact ⟨none, 0, 0, ec, rfl, Lib.hid (.inl ⟨h1, _, _, h2, h3⟩)⟩
                    · exact ⟨a, n, c, 0, rfl, Lib.hid (.inr ⟨rfl, q, _, _, h2, h3, h4⟩)⟩
                  obtain ⟨a4, n4, c4, ec, rfl, HST⟩ := hst
                  clear hcase HNX HM1
                  have hk8 : k ≤ ws.length := hkw
                  clear hkw hM hFE
                  go_wp2_with fail
                  go_loopw [17, 20, 21] (fun kv mv ev w5 => ∃ (k' : Nat) (a : Option Addr) (n c : Nat) (ec : Int), kv = .int .i64 k' ∧ mv = .slice a n c ∧ ev = .int .i64 ec ∧ k' ≤ ws.length ∧ Hid (TakeSt X w5 ws fs order.length (i + 1) k' (.slice a n c) ec)) (fun kv _ _ _ => ws.length - (intOf kv).toNat)
                  case atStart => exact ⟨k, a4, n4, c4, ec, rfl, rfl, rfl, hk8, HST⟩
                  case round =>
                    obtain ⟨k', a5, n5, c5, ec, rfl, rfl, rfl, hk', hT⟩ := hrel
                    by_cases hec : ec = 0
                    · subst hec
                      rcases hT.out with ⟨h, _⟩ | ⟨_, qm, t', E', hqm, hrm, hmid⟩
                      · exact absurd rfl h
                      have hkl := (List.getElem?_eq_some_iff.1 hqm).1
                      have hkn : ¬ ((ws.length : Int) ≤ (k' : Int)) := by omega
                      have hkn2 : (k' : Int) < (ws.length : Int) := by omega
                      obtain ⟨gw, rfl, dw⟩ := own_cell (own_below (own_below hB.out.want hFX.out.bl) hmid.bl) (by simp) (k := k') (x := qm.1) (by simp [hqm])
                      have hrw := ((hB.out.rd qm (List.mem_of_getElem? hqm)).below hFX.out.bl).below hmid.bl
                      obtain ⟨x1, y1, z1, e1⟩ := hrw.shape3
                      rw [e1] at dw hrw
                      have HSM := Lib.hid (same_true hrm hrw)
                      have HMD := Lib.hid hmid
                      clear hqm hrm hmid hrw e1
                      go_wp2_with fail
                      refine HSM.out.mono ?_
                      rintro e w6 ⟨rfl, hb6⟩
                      have HNX := Lib.hid (next_mid (HMD.out.below hb6) MSG.out (by omega) (by omega))
                      clear hb6 HSM dw
                      go_wp2_with fail
                      refine HNX.out.mono ?_
                      rintro e w7 hcase
                      have hst : ∃ (a4 : Option Addr) (n4 c4 : Nat) (ec : Int), e = .returned (.tuple #[.slice a4 n4 c4, .int .i64 ec]) ∧ Hid (TakeSt X w7 ws fs order.length (i + 1) (k' + 1) (.slice a4 n4 c4) ec) := by
                        rcases hcase with ⟨ec, h1, rfl, h2, h3⟩ | ⟨a, n, c, q, t2, E2, rfl, h2, h3, h4⟩
                        · exact ⟨none, 0, 0, ec, rfl, Lib.hid (.inl ⟨h1, _, _, h2, h3⟩)⟩
                        · exact ⟨a, n, c, 0, rfl, Lib.hid (.inr ⟨rfl, q, _, _, h2, h3, h4⟩)⟩
                      obtain ⟨a6, n6, c6, e6, rfl, HST6⟩ := hst
                      clear hcase HNX HMD
                      go_wp2_with fail
                      go_roundw
                      case rel => exact ⟨k' + 1, a6, n6, c6, e6, by go_num, rfl, rfl, by omega, HST6⟩
                      case measure => simp [intOf]; omega
                    · rcases hT.out with ⟨_, t', E', hmid, hfe⟩ | ⟨h, _⟩
                      · have hne : (ec == 0) = false := beq_eq_false_iff_ne.2 hec
                        have HMD := Lib.hid hmid
                        have HFX := Lib.hid (show fs = [] ∨ i + 1 = 0 ∨ firstE (frontB t' E') ≠ 0 from .inr (.inr hfe))
                        clear hmid hfe hec
                        go_wp2_with fail
                        go_roundw
                        case rel => exact ⟨k', i + 1, t', E', rfl, by go_num, by omega, hk', HMD, HFX⟩
                        case measure => simp [intOf]; omega
                      · exact absurd h hec
              · obtain rfl : i = order.length + fs.length := by omega
                have hgi : ¬ ((order.length + fs.length : Nat) : Int) < (order.length : Int) + (fs.length : Int) := by omega
                have hdone := hM.out.done MSG.out hPn.out rfl (by
                  rcases hFE.out with h | h | h
                  · exact .inl h
                  · exact .inl (List.eq_nil_of_length_eq_zero (by omega))
                  · exact .inr h)
                obtain ⟨rfl, ht⟩ := hdone
                obtain ⟨mo, hst, _⟩ := hM.out.sg
                have HTK := Lib.hid (taken_any hst)
                have HT := Lib.hid ht
                have HBX := Lib.hid ((hB.out.bl.trans (hFX.out.bl.mono hB.out.bl.size)).trans (hM.out.bl.mono (hB.out.bl.trans (hFX.out.bl.mono hB.out.bl.size)).size))
                clear hst ht
                go_wp2_with fail
                refine HTK.out.mono ?_
                rintro e w8 ⟨rfl, rfl⟩
                rw [HT.out]
                have haw := Lib.hid (awake_any (w := w8))
                clear HTK
                go_wp2_with fail
                refine haw.out.mono ?_
                rintro e w9 ⟨rfl, hb9⟩
                have HB9 := Lib.hid (HBX.out.trans (hb9.mono HBX.out.size))
                clear hb9 haw
                go_wp2_with fail
                go_ret
                exact ⟨rfl, HB9.out⟩
#print axioms sorders_walk
end Go.Proofs.Ythfmpnikchlhlaa
