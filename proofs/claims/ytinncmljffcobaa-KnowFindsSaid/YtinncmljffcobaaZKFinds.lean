/- KnowFinds' walk: what follows, and what can be made, is what the document finds. -/
import Derived.Test.YtinncmljffcobaaZKFd3
import Derived.Test.YtinncmljffcobaaZKTold
import Derived.Test.YtinncmljffcobaaZKMg
namespace Go.Proofs.Ytinncmljffcobaa
open Go Go.RowKit

set_option maxRecDepth 20000 in
set_option maxHeartbeats 8000000 in
theorem kfinds_walk {w : World} {v bv : Value} {l : List KStep} {zs : List Int} (h : KSteps w v l) (hr : Rd .i64 w bv zs) (hwf : ∀ y ∈ zs, (Lit.int .i64 y).wf = true) :
    Calls Try.prog 3 #[v, bv] w fun e w' => e = .returned (.bool true) ∧ Below w.heap.size w w' := by
  have h0 := h
  obtain ⟨ao, cap, rfl, hl1, hl2, hl3, -⟩ := h0
  unfold maxLen at hl2
  have hr0 := hr
  obtain ⟨ba, bc, rfl, -⟩ := hr0
  have HH := Lib.hid h
  have HR := Lib.hid hr
  have HWF := Lib.hid hwf
  have hl := klight_any h (bo := ba) (n := zs.length) (cb := bc)
  clear h hr hwf
  go_enter Try.func3, Try.ntmps3
  go_wp2_with fail
  refine hl.mono ?_
  clear hl
  rintro e w0 ⟨⟨b, rfl, hb⟩, rfl⟩
  cases b with
  | false =>
    clear hb
    go_wp2_with fail
    go_ret
    exact ⟨rfl, Below.refl _ _⟩
  | true =>
    have HL := Lib.hid (hb rfl)
    have hzl : zs.length ≤ 50 := HL.out.2.1
    clear hb
    go_wp2_with fail
    refine (St.new w0).mono ?_
    rintro e w1 ⟨tb, mb, rfl, s1⟩
    have HT0 := Lib.hid (ktwo_new s1)
    clear s1
    go_wp2_with fail
    go_loopw [7] (fun i wr => ∃ (j : Nat) (N : List Nd), j ≤ l.length ∧ i = .int .i64 j ∧ Two w0 wr tb mb w1.heap.size N ∧ N.length ≤ j ∧ Good N ∧ Txt N) (fun i _ => l.length - (intOf i).toNat)
    case atStart => exact ⟨0, [], Nat.zero_le _, rfl, HT0.out, Nat.le_refl _, Good.nil, Txt.nil⟩
    case round =>
      obtain ⟨j, N, hj, rfl, hT, hN, hg, htx⟩ := hrel
      have HT := Lib.hid hT
      have HG := Lib.hid hg
      have HN := Lib.hid hN
      have HTX := Lib.hid htx
      by_cases hlt : j < l.length
      · have hlt' : (j : Int) < (l.length : Int) := by omega
        obtain ⟨b, off, cap', e, _, _, hs⟩ := (HH.out.below hT.prog.bel).at hlt
        cases e
        obtain ⟨c0, c1, c2⟩ := kstep_cells hs
        have hrd := hs.2.2.2
        have hin := HL.out.2.2 _ (List.getElem_mem hlt)
        have hj50 : j ≤ 50 := by have := HL.out.1; omega
        clear hs hT hg htx hl1 hl2 hl3
        generalize l[j] = s at *
        obtain ⟨k, t, sa, sc, xs⟩ := s
        simp only at c0 c1 c2 hrd hin
        have hd := kdo_any HT.out (by omega) k t (by omega) hrd hin.2
        clear hrd hin hN
        go_wp2_with fail
        refine hd.mono ?_
        rintro e w2 ⟨rfl, t2, k2⟩
        have HT2 := Lib.hid t2
        clear t2 k2 hd
        go_wp2_with fail
        go_roundw
        case rel => exact ⟨j + 1, _, by omega, by go_num, HT2.out, by have := (kdoN_len N k t xs).2; have := HN.out; omega, HG.out.do (by have := HN.out; omega) k t xs, HTX.out.do k t xs⟩
        case measure => simp [intOf]; omega
      · obtain rfl : j = l.length := by omega
        have hn50 : N.length ≤ 50 := by have := HL.out.1; omega
        have hfind := find_any HT.out.rb HG.out.wf HTX.out hn50 (HR.out.below HT.out.prog.bel)
        clear hT hN hg htx hj hlt
        generalize wr = W2 at *
        go_wp2_with fail
        refine hfind.mono ?_
        clear hfind
        rintro e w3 ⟨Gf, Gc, f, c, rfl, hf, hc, hfd, hcd, hb3⟩
        have T3 := Lib.hid (HT.out.keep hb3)
        have HF := Lib.hid hf
        have HC := Lib.hid hc
        have HFD := Lib.hid hfd
        have HCD := Lib.hid hcd
        have R3 := Lib.hid ((HR.out.below HT.out.prog.bel).below hb3)
        clear hf hc hfd hcd hb3
        go_wp2_with fail
        refine (kterms_any R3.out (by omega)).mono ?_
        rintro e w4 ⟨u4, rfl, o4, b4⟩
        obtain ⟨a4, c4, rfl, _, _⟩ := own_shape o4
        have T4 := Lib.hid (T3.out.keep b4)
        have RA4 := Lib.hid (Rd.of_own o4).1
        have HF4 := Lib.hid (HF.out.below b4)
        have HC4 := Lib.hid (HC.out.below b4)
        clear o4 b4
        go_wp2_with fail
        refine (closed_any T4.out.tp HG.out.wf RA4.out HWF.out).mono ?_
        rintro e w5 ⟨v5, x, rfl, hxs, hxd, hxr, _, hb5⟩
        have T5 := Lib.hid (T4.out.keep hb5)
        have RA5 := Lib.hid (RA4.out.below hb5)
        have HC5 := Lib.hid (HC4.out.below hb5)
        have htold := told_any hxr hxs (HF4.out.below hb5) (n := N.length) (by omega) (fun y h1 h2 => by rw [hxd, HFD.out y h2]) (fun y hy => der_in HG.out.wf ((hxd y).1 hy))
        obtain ⟨a5, c5, rfl, _⟩ := id hxr
        clear hxs hxd hxr hb5
        go_wp2_with fail
        refine htold.mono ?_
        clear htold
        rintro e w6 ⟨rfl, rfl⟩
        obtain ⟨ra, rc, hr0, -⟩ := T5.out.rb.len
        go_wp2_with fail
        generalize w6 = W6 at *
        go_loopw [11] (fun hv wr => ∃ h : Int, -1 ≤ h ∧ h ≤ (N.length : Int) + 2 ∧ hv = .int .i64 h ∧ Below W6.heap.size W6 wr) (fun hv _ => ((N.length : Int) + 2 - intOf hv).toNat)
        case atStart => exact ⟨-1, by omega, by omega, rfl, Below.refl _ _⟩
        case round =>
          obtain ⟨h, h1, h2, rfl, hb⟩ := hrel
          have HB := Lib.hid hb
          have hr1 : wr.cell? ⟨w1.heap.size, 0, none⟩ = some (.slice ra N.length rc) := by rw [hb.cell (cell_lt hr0)]; exact hr0
          clear hb
          by_cases hlt : h ≤ (N.length : Int) + 1
          · have hwx := wf_of (x := h) (by omega) (by omega)
            have hcan := kcan_any (T5.out.keep HB.out).tp HG.out.wf (RA5.out.below HB.out) HWF.out hwx
            have HNO := Lib.hid (show ¬ (1 ≤ h ∧ h ≤ (N.length : Int)) → ¬ Der N (fun y => y ∈ zs) false h from fun hn d => hn (der_in HG.out.wf d))
            by_cases hin : 0 < h
            · by_cases hin2 : h < (N.length : Int) + 1
              · obtain ⟨y, rfl⟩ : ∃ y : Nat, h = (y : Int) := ⟨h.toNat, by omega⟩
                have iy : y < N.length + 1 := by omega
                have cy := ((HC5.out.below HB.out).cell (j := y) iy).1
                have HQ := Lib.hid (HCD.out y (by omega))
                generalize hcy : c y = cb at *
                clear hcy
                go_wp2_with fail
                refine hcan.mono ?_
                clear hcan
                rintro e w7 ⟨b7, rfl, hd7, hb7⟩
                obtain rfl : b7 = cb := by rw [Bool.eq_iff_iff, hd7]; exact HQ.out.symm
                have HB7 := Lib.hid (HB.out.trans (hb7.mono HB.out.size))
                clear hd7 hb7 HQ
                go_wp2_with fail
                go_roundw
                case rel => exact ⟨(y : Int) + 1, by omega, by omega, by go_num, HB7.out⟩
                case measure => simp [intOf]; omega
              · have HN2 := Lib.hid (HNO.out (by omega))
                go_wp2_with fail
                refine hcan.mono ?_
                clear hcan
                rintro e w7 ⟨b7, rfl, hd7, hb7⟩
                obtain rfl : b7 = false := by rw [← Bool.not_eq_true, hd7]; exact HN2.out
                have HB7 := Lib.hid (HB.out.trans (hb7.mono HB.out.size))
                clear hd7 hb7
                go_wp2_with fail
                go_roundw
                case rel => exact ⟨h + 1, by omega, by omega, by go_num, HB7.out⟩
                case measure => simp [intOf]; omega
            · have HN2 := Lib.hid (HNO.out (by omega))
              go_wp2_with fail
              refine hcan.mono ?_
              clear hcan
              rintro e w7 ⟨b7, rfl, hd7, hb7⟩
              obtain rfl : b7 = false := by rw [← Bool.not_eq_true, hd7]; exact HN2.out
              have HB7 := Lib.hid (HB.out.trans (hb7.mono HB.out.size))
              clear hd7 hb7
              go_wp2_with fail
              go_roundw
              case rel => exact ⟨h + 1, by omega, by omega, by go_num, HB7.out⟩
              case measure => simp [intOf]; omega
          · obtain rfl : h = (N.length : Int) + 2 := by omega
            have hlt2 : ¬ ((N.length : Int) + 2 ≤ (N.length : Int) + 1) := by omega
            go_wp2_with fail
            refine (kawake_any _).mono ?_
            rintro e w8 ⟨rfl, b8⟩
            go_wp2_with fail
            go_ret
            have g1 := T5.out.prog.bel.trans (HB.out.mono T5.out.prog.bel.size)
            exact ⟨rfl, g1.trans (b8.mono g1.size)⟩
#print axioms kfinds_walk
end Go.Proofs.Ytinncmljffcobaa
