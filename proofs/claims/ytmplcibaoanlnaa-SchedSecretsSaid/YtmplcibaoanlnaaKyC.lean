/- The mind's iterator: the walk. -/
import Derived.Test.YtmplcibaoanlnaaKyB
namespace Go.Proofs.Ytmplcibaoanlnaa
open Go Go.RowKit

theorem slice_upto {b off n cap : Nat} (i : Nat) (hi : i < n) (hn : n ≤ cap) (wx : World) :
    (Instr.slice 31 (.slice (some ⟨b, off, none⟩) n cap) none (some (.int .i64 i)) none).run Try.prog wx = .ok (.slice (some ⟨b, off, none⟩) i cap) wx := by
  have he : Try.prog.underlying 31 = some (.slice (Try.prog.elem 31)) := by kernel_rfl
  have hs : (sizeOf (Try.prog.elem 31)).run Try.prog wx = .ok 1 wx := by
    have e : Try.prog.elem 31 = 26 := by kernel_rfl
    rw [e]
    obtain ⟨i, hi, _, hz, _⟩ := info_parts info32
    simp [sizeOf, typeInfo, hi, hz, go_sem]
  rw [run_slice_h (P := Try.prog) wx 31 (some ⟨b, off, none⟩) n cap he .i64 i (by omega) (by omega), hs]
  simp only [Result.andThen]
  unfold sliced
  rw [if_neg (by omega)]
  simp [Addr.add]
theorem below_two {wr w4 : World} {o o' : Obj} (hb4 : Below (wr.alloc o).heap.size (wr.alloc o) w4) : Below wr.heap.size wr (w4.alloc o') := ((below_alloc wr _).trans (hb4.mono (by simp))).trans ((below_alloc w4 _).mono (by have := hb4.size; simp at this; omega))
theorem below_any {w : World} {M : Nat} {h : Int} : Calls Try.prog 39 #[.pointer (some ⟨M, 0, none⟩), .int .i64 h] w
    fun e w' => e = .returned (.func (.func 44) #[] #[.pointer (some ⟨w.heap.size + 1, 0, none⟩), .pointer (some ⟨w.heap.size, 0, none⟩)]) ∧ w' = (w.alloc (.cells #[.pointer (some ⟨M, 0, none⟩)] 54)).alloc (.cells #[.int .i64 h] 26) := by
  go_enter Try.func39, Try.ntmps39
  go_wp2_with fail
  go_ret
  exact ⟨by simp, rfl⟩
set_option maxHeartbeats 8000000 in
set_option maxRecDepth 20000 in
theorem below_in {c : Fx} {N : List Nd} {F : Nat → Prop} {r : Nat → Int → Option Value} {S : MS} {W : World} (hM : Mnd c W F r S) (hT : Tp W F c.tp N) (hN : Wf N) {h : Int} (hh : (Lit.int .i64 h).wf = true) {hb mb yl n : Nat} (hn : 7 ≤ n)
    (kh : W.cell? ⟨hb, 0, none⟩ = some (.int .i64 h)) (km : W.cell? ⟨mb, 0, none⟩ = some (.pointer (some ⟨c.M, 0, none⟩)))
    (J : World → List Int → World → Prop) (hJ0 : ∀ Ws, Below W.heap.size W Ws → J Ws [] Ws)
    (hJk : ∀ Ws qs W', J Ws qs W' → ∀ k, W.heap.size ≤ k → k < Ws.heap.size → W'.heap[k]? = Ws.heap[k]?)
    (hY : ∀ Ws l qs x s a cp W1, Bel N S.st h l → (qs ++ [x]) <+: l → J Ws qs W1 → Ws.ownsRow W.heap.size 26 1 (.slice a (partsN N x).length cp) (partsN N x).length (cs .i64 (partsN N x)) →
      YieldAt Fence.wide (n - 1) Try.prog yl #[.int .i64 x, .agg #[.int .i64 (kindN N x), .string s, .slice a (partsN N x).length cp]] W1 fun e W' => e = .returned (.bool true) ∧ J Ws (qs ++ [x]) W') :
    CallsIn Fence.wide n Try.prog 44 #[.func (.yield yl) #[] #[], .pointer (some ⟨hb, 0, none⟩), .pointer (some ⟨mb, 0, none⟩)] W fun e W' => (∃ v, e = .returned v) ∧ ∃ Ws l, Bel N S.st h l ∧ J Ws l W' := by
  have hmm := @run_makeMap Try.prog
  have hmf := hM.fields
  have hmm := @run_makeMap Try.prog
  have hmf := hM.fields
  have hmm := @run_makeMap Try.prog
  have hmf := hM.fields
  have hmm := @run_makeMap Try.prog
  have hmf := hM.fields
  have hmm := @run_makeMap Try.prog
  have hmf := hM.fields
  have hmm := @run_makeMap Try.prog
  have hmf := hM.fields
  have hmm := @run_makeMap Try.prog
  have hmf := hM.fields
  have hmm := @run_makeMap Try.prog
  have hmf := hM.fields
  have hmm := @run_makeMap Try.prog
  have hmf := hM.fields
  have hmm := @run_makeMap Try.prog
  have hmf := hM.fields
  have hmm := @run_makeMap Try.prog
  have hmf := hM.fields
  have hmm := @run_makeMap Try.prog
  have hmf := hM.fields
  have hmm := @run_makeMap Try.prog
  have hmf := hM.fields
  have hmm := @run_makeMap Try.prog
  have hmf := hM.fields
  have hmm := @run_makeMap Try.prog
  have hmf := hM.fields
  have hmm := @run_makeMap Try.prog
  have hmf := hM.fields
  have HM := Lib.hid hM
  have HT := Lib.hid hT
  have HN := Lib.hid hN
  have HW := Lib.hid hh
  have HKM := Lib.hid km
  have HJ0 := Lib.hid hJ0
  have HJK := Lib.hid hJk
  have HY := Lib.hid hY
  have HNN := Lib.hid hn
  have HMF := Lib.hid hmf
  have kh1 := keepS (below_alloc W (.map #[] 0)) kh
  have h1n : 1 ≤ n := by omega
  have hF24 : Fence.wide.fn 31 := trivial
  have hF56 : Fence.wide.fn 46 := trivial
  have hF55 : Fence.wide.fn 45 := trivial
  have H0 : Hid (Dfs N S h W (fun _ => none) [] [h] (.slice (some ⟨W.heap.size + 1, 0, none⟩) 1 1) ((W.alloc (.map #[] 0)).alloc (.cells #[.int .i64 h] 26))) := Lib.hid
    { own := by
        have := own_lit .i64 26 (W.alloc (.map #[] 0)) [h] (by simp)
        simpa [cs] using this
      map := (MapG.made W).keep (by rw [(below_alloc _ _).block _ (by simp)])
      bel := (below_alloc W _).trans ((below_alloc _ _).mono (by simp))
      vs := fun x => by simp
      nd := List.nodup_nil
      inn := fun x hx => by cases hx
      node := fun x v e => by cases e
      down := fun x hx => by cases hx
      top := .inr (.inl (by simp))
      wf := fun y hy => by rw [List.mem_singleton] at hy; subst hy; exact hh }
  clear hM hT hN hh hJ0 hJk hY km hn hmf
  refine callsIn_of_wp Try.func44 rfl trivial ?_ rfl
  simp only [Try.ntmps44, List.size_toArray, List.length_cons, List.length_nil, Nat.reduceAdd, Nat.reduceSub, Array.replicate_succ, Array.replicate_zero, List.push_toArray, List.append_toArray, List.nil_append, List.cons_append]
  gi_wp2
  clear hmm kh1 kh
  gi_loopg [5] (N.length * 17 + 1) (fun k ov wr => ∃ (f : Int → Option Value) (V O : List Int), Hid (Dfs N S h W f V O ov wr) ∧ Hid ((N.length - V.length) * 17 + O.length = k ∧ k ≤ 1200000))
  case atStart => exact ⟨_, [], [h], H0, Lib.hid ⟨by simp, by have := HN.out.few; omega⟩⟩
  case round =>
    obtain ⟨f, V, O, hD, hK⟩ := hrel
    by_cases hO : O = []
    · subst hO
      obtain ⟨ao, cp, rfl, _⟩ := own_shape hD.out.own
      clear H0
      have cS := sorted_call (n - 1) (by have := HNN.out; omega) hD.out.map
      gi_wp2_with (first
        | (gi_at_call 46; refine (keys_call _ _ _).mono ?_; rintro e w' ⟨rfl, rfl⟩)
        | (gi_at_call 45; refine cS.mono ?_; rintro e w3 ⟨v, l, rfl, hl1, hl2, hl3, hl4⟩; obtain ⟨va, vc, rfl, _⟩ := own_shape hl3))
      have hbs : Below wr.heap.size wr w3 := (below_alloc wr (.cells #[.map (some W.heap.size)] 85)).trans (hl4.mono (by omega))
      have hBW : Below W.heap.size W w3 := hD.out.bel.trans (hbs.mono hD.out.bel.size)
      have hBel : Bel N S.st h l := ⟨hl1, fun y hy => hD.out.inn y ((hD.out.vs y).1 ((hl2 y).1 hy).1), fun h1 h2 => by
          rcases hD.out.top with e | e | e | e
          · exact .inl ((hl2 h).2 ⟨(hD.out.vs h).2 e, HW.out⟩)
          · cases e
          · exact .inr e
          · exact absurd ⟨h1, h2⟩ e, fun y hy z hz h1 h2 => by
          have hfew := HN.out.few
          rcases hD.out.down y ((hD.out.vs y).1 ((hl2 y).1 hy).1) z hz with e | e | e
          · exact .inl ((hl2 z).2 ⟨(hD.out.vs z).2 e, wfT h1 (by omega)⟩)
          · cases e
          · exact .inr e⟩
      have hsz := hD.out.bel.size
      have hrows : ∀ y ∈ l, ∃ s a cp, f y = some (.agg #[.int .i64 (kindN N y), .string s, .slice a (partsN N y).length cp]) ∧ w3.ownsRow W.heap.size 26 1 (.slice a (partsN N y).length cp) (partsN N y).length (cs .i64 (partsN N y)) := fun y hy => by
        obtain ⟨u, hu⟩ := Option.ne_none_iff_exists'.1 ((hl2 y).1 hy).1
        obtain ⟨s, a, cp, rfl, h2, _⟩ := hD.out.node y u hu
        exact ⟨s, a, cp, hu, own_mono (own_below h2 hbs) (by omega)⟩
      have hwl : ∀ y ∈ l, (Lit.int .i64 y).wf = true := fun y hy => ((hl2 y).1 hy).2
      have hmap3 : MapG w3 W.heap.size f := hD.out.map.keep (hbs.block _ hD.out.map.lt)
      have hkr := own_mono (base' := W.heap.size) hl3 (by omega)
      have HKR := Lib.hid hkr
      have HMP := Lib.hid hmap3
      have HRW := Lib.hid hrows
      have HWL := Lib.hid hwl
      have HBL := Lib.hid hBel
      have HBW := Lib.hid hBW
      have HJ1 := Lib.hid (HJ0.out w3 hBW)
      clear hl1 hl2 hl3 hl4 hbs hBW hBel hrows hwl hmap3 hkr hsz cS hD hK
      gi_loopw [70] (fun i wq => ∃ j : Nat, j ≤ l.length ∧ i = .int .i64 j ∧ Hid (J w3 (l.take j) wq)) (fun i _ => l.length - (RowKit.intOf i).toNat)
      case atStart => exact ⟨0, Nat.zero_le _, rfl, HJ1⟩
      case round =>
        obtain ⟨j, hj, rfl, hJq⟩ := hrel
        by_cases hlt : j < l.length
        · have hlt' : (j : Int) < (l.length : Int) := by omega
          have hkeep := HJK.out _ _ _ hJq.out
          have hk2 := own_keep HKR.out (fun g hg => hkeep g (HKR.out.lt g hg).1 (HKR.out.lt g hg).2)
          rcases (Rd.of_own hk2).1.cases with ⟨h0, _⟩ | ⟨b, off, cp2, e, _, hle, hcap, _, hc⟩
          · rw [h0] at hlt; simp at hlt
          · cases e
            have hcj := hc j hlt
            have hmem := getD_mem hlt
            obtain ⟨s, a, cp, hf, hpr⟩ := HRW.out _ hmem
            have hlook := (HMP.out.keep (hkeep W.heap.size (Nat.le_refl _) HMP.out.lt)).look Try.underlying85 zeroNd (HWL.out _ hmem)
            rw [hf] at hlook
            simp only [Option.getD_some] at hlook
            have hTk := take_succ_getD l j hlt
            have hyy := HY.out w3 l (l.take j) (l.getD j 0) s a cp wr HBL.out (by rw [← hTk]; exact List.take_prefix _ _) hJq.out hpr
            have HTK := Lib.hid hTk
            clear hc hkeep hk2 hmem hf hpr hTk
            obtain ⟨fn, tmps, asg, bd, hy, hRn⟩ := hyy
            generalize l.getD j 0 = y at *
            gi_wp2
            refine hRn.mono ?_
            rintro e w4 ⟨rfl, hJ4⟩
            have HJ4 := Lib.hid hJ4
            clear hJ4 hRn
            gi_wp2
            go_roundw
            case rel => exact ⟨j + 1, by omega, by go_num, by rw [HTK.out]; exact HJ4⟩
            case measure => simp [RowKit.intOf]; omega
        · obtain rfl : j = l.length := by omega
          have hJ2 := hJq.out
          rw [List.take_length] at hJ2
          have HJ2 := Lib.hid hJ2
          clear hJ2 hJq
          gi_wp2
          go_end0
          exact ⟨⟨_, rfl⟩, w3, l, HBL.out, HJ2.out⟩
    · obtain ⟨O', x, rfl⟩ : ∃ O' x, O = O' ++ [x] := ⟨O.dropLast, O.getLast hO, (List.dropLast_concat_getLast hO).symm⟩
      have hrow := hD.out.own
      obtain ⟨g, cap, rfl⟩ : ∃ g cap, u5 = .slice (some ⟨g, 0, none⟩) (O'.length + 1) cap := by
        rcases hrow.2 with ⟨_, h0⟩ | ⟨g, cap, cur, e, _⟩
        · simp at h0
        · exact ⟨g, cap, by rw [e]; simp⟩
      have hxw := hD.out.wf x (by simp)
      have hcell : wr.cell? ⟨g, O'.length, none⟩ = some (.int .i64 x) := by
        have := World.ownsRow.cells hrow rfl O'.length (.int .i64 x) (by simp [cs])
        simpa [Addr.add_lit] using this
      have hcap : O'.length + 1 ≤ cap ∧ cap ≤ 9223372036854775807 := by
        obtain ⟨ao, cp, e, e1, e2⟩ := own_shape hrow
        simp only [Value.slice.injEq] at e
        obtain ⟨_, _, rfl⟩ := e
        unfold maxLen at e2
        exact ⟨by simpa using e1, e2⟩
      have hsl := slice_upto (b := g) (off := 0) (n := O'.length + 1) (cap := cap) O'.length (by omega) hcap.1
      have hk2 := hK.out
      simp only [List.length_append, List.length_singleton] at hk2
      have HSL := Lib.hid hsl
      have HCP := Lib.hid hcap
      have HK := Lib.hid hk2
      have hdr := hD.out
      clear hrow hK H0
      have hcap1 := HCP.out.1
      have hcap2 := HCP.out.2
      have hlen : (O' ++ [x]).length = O'.length + 1 := by simp
      have hslw := hsl wr
      have hlook := hdr.map.look2 Try.underlying85 zeroNd hxw
      have hmb := keepS hdr.bel HKM.out
      have hM1 := keepS hdr.bel HMF.out.2.1
      have hM0 := keepS hdr.bel HMF.out.1
      have hTp : ∀ w', Below W.heap.size W w' → Tp w' F c.tp N := fun w' hb => HT.out.step (Stp.below hb)
      have hMd : ∀ w', Below W.heap.size W w' → Mnd c w' F r S := fun w' hb => HM.out.below hb
      have HTP := Lib.hid hTp
      have HMD := Lib.hid hMd
      have HDR := Lib.hid hdr
      clear hdr hTp hMd hsl hk2
      cases hf : f x with
      | some v0 =>
        obtain ⟨s, a, cp, rfl, hpv, hne⟩ := HDR.out.node x v0 hf
        have hin := HDR.out.inn x ((HDR.out.vs x).1 (by rw [hf]; simp))
        rw [hf] at hlook
        simp only [Option.getD_some, Option.isSome_some] at hlook
        have hbx : Below W.heap.size W (wr.alloc (.cells #[.int .i64 (kindN N x), .string s, .slice a (partsN N x).length cp] 47)) := HDR.out.bel.trans ((below_alloc wr _).mono HDR.out.bel.size)
        have hlk := callsIn_wide (n := n - 1).2 ((HTP.out _ hbx).look hin.1 hin.2.1)
        have hmb2 := keepS (below_alloc wr (.cells #[.int .i64 (kindN N x), .string s, .slice a (partsN N x).length cp] 47)) hmb
        have hM02 := keepS (below_alloc wr (.cells #[.int .i64 (kindN N x), .string s, .slice a (partsN N x).length cp] 47)) hM0
        clear hpv hne hmb hM0 hM1
        gi_wp2_with (gi_at_call 31; refine hlk.mono ?_; rintro e w4 ⟨s4, pv4, rfl, ho4, hb4⟩; obtain ⟨a4, c4, rfl, _⟩ := own_shape ho4)
        have HB6 := Lib.hid (((below_alloc wr (.cells #[.int .i64 (kindN N x), .string s, .slice a (partsN N x).length cp] 47)).trans (hb4.mono (by simp))).trans ((below_alloc w4 (.cells #[.int .i64 (kindN N x), .string s4, .slice a4 (partsN N x).length c4] 47)).mono (by have := hb4.size; simp at this; omega)))
        clear ho4 hb4
        gi_roundg ((N.length - V.length) * 17 + O'.length)
        case measure => have := HK.out; omega
        case rel => exact ⟨f, V, O', Lib.hid (HDR.out.pop (.inl ((HDR.out.vs x).1 (by rw [hf]; simp))) HN.out HB6.out), Lib.hid ⟨rfl, by have := HK.out; omega⟩⟩
      | none =>
        rw [hf] at hlook
        simp only [Option.getD_none, Option.isSome_none] at hlook
        have hbx : Below W.heap.size W (wr.alloc (.cells #[.int .i64 0, .string ByteArray.empty, .slice none 0 0] 47)) := HDR.out.bel.trans ((below_alloc wr _).mono HDR.out.bel.size)
        have hmb2 := keepS (below_alloc wr (.cells #[.int .i64 0, .string ByteArray.empty, .slice none 0 0] 47)) hmb
        have hM02 := keepS (below_alloc wr (.cells #[.int .i64 0, .string ByteArray.empty, .slice none 0 0] 47)) hM0
        have HX := Lib.hid hbx
        have HMB := Lib.hid hmb
        have HM1 := Lib.hid hM1
        have HF := Lib.hid hf
        clear hmb hM0 hM1 hf
        by_cases hin : 1 ≤ x ∧ x ≤ (N.length : Int)
        · have hlk := callsIn_wide (n := n - 1).2 ((HTP.out _ hbx).look hin.1 hin.2)
          have HIN := Lib.hid hin
          by_cases hst : S.st x = 0
          · clear hbx hin
            have HLT := Lib.hid (few N.length (x :: V) (List.nodup_cons.2 ⟨fun e => (HDR.out.vs x).2 e HF.out, HDR.out.nd⟩) (fun y hy => by
              rcases List.mem_cons.1 hy with rfl | hy
              · exact HIN.out
              · exact ⟨(HDR.out.inn y hy).1, (HDR.out.inn y hy).2.1⟩))
            gi_wp2_with (first
              | (gi_at_call 31
                 refine hlk.mono ?_
                 rintro e w4 ⟨s4, pv4, rfl, ho4, hb4⟩
                 obtain ⟨a4, c4, rfl, _⟩ := own_shape ho4
                 have hb5 : Below wr.heap.size wr (w4.alloc (.cells #[.int .i64 (kindN N x), .string s4, .slice a4 (partsN N x).length c4] 47)) := below_two hb4
                 have k1 := keepS hb5 HMB.out
                 have k2 := keepS hb5 HM1.out
                 have k3 := (HMD.out _ (HDR.out.bel.trans (hb5.mono HDR.out.bel.size))).stLook hxw
                 rw [hst] at k3
                 have HB5 := Lib.hid hb5
                 have HO4 := Lib.hid (own_alloc ho4 (.cells #[.int .i64 (kindN N x), .string s4, .slice a4 (partsN N x).length c4] 47))
                 have hnode := heap_alloc_new w4 (.cells #[.int .i64 (kindN N x), .string s4, .slice a4 (partsN N x).length c4] 47)
                 have HND := Lib.hid hnode
                 have hs4 : wr.heap.size + 1 ≤ w4.heap.size := by have := hb4.size; simpa using this
                 have HS4 := Lib.hid hs4
                 clear hb4 ho4 hb5 hnode hs4)
              | (gi_at_mapUpdate
                 refine wpListIn_updG rfl _ _ _ 85 47 rfl Try.underlying85 (HDR.out.map.keep (HB5.out.block _ HDR.out.map.lt)) HIN.out.1 (by have := HIN.out.2; have := HN.out.few; omega) (.agg #[.int .i64 (kindN N x), .string s4, .slice a4 (partsN N x).length c4]) rfl rfl rfl ?_
                 intro w5 hm5 hg5
                 have hnb : w4.heap.size ≠ W.heap.size := by have h1 := HDR.out.map.lt; have h2 := HS4.out; omega
                 have hnode5 := (hg5.block w4.heap.size (by simp) (fun e => hnb (Option.some.inj e))).trans HND.out
                 have k5 : w5.cell? ⟨w4.heap.size, 2, none⟩ = some (.slice a4 (partsN N x).length c4) := by unfold World.cell?; rw [hnode5]; rfl
                 have HM5 := Lib.hid hm5
                 have HG5 := Lib.hid hg5
                 clear hm5 hg5 hnode5 hnb)
              | (gi_at_builtin
                 refine wpListIn_append_list (.tmp 62) (.tmp 64) rfl rfl (W.heap.size + 1) (.slice (some ⟨g, 0, none⟩) O'.length cap) O'.length O' rfl (own_sync HDR.out HB5.out HG5.out) (.slice a4 (partsN N x).length c4) (partsN N x) rfl (rd_sync HDR.out HO4.out HG5.out) (by have := HK.out; omega) (by have := HN.out.sixteen x; omega) (by have h1 := HDR.out.bel.size; have h2 := HB5.out.size; have h3 := grown_size HG5.out; have h4 := HDR.out.map.lt; omega) ?_
                 intro v6 w6 ho6 hg6 hl6
                 obtain ⟨a6, c6, rfl, _⟩ := own_shape ho6
                 have HO6 := Lib.hid ho6
                 have HG6 := Lib.hid hg6
                 have HL6 := Lib.hid hl6
                 clear ho6 hg6 hl6))
            gi_roundg ((N.length - (x :: V).length) * 17 + (O' ++ partsN N x).length)
            case measure => have h1 := HK.out; have h2 := HN.out.sixteen x; have h3 := HLT.out; simp only [List.length_cons] at h3; simp only [List.length_cons, List.length_append]; omega
            case rel => exact ⟨_, x :: V, O' ++ partsN N x, Lib.hid (by
              have := HDR.out.push HIN.out hst HF.out HN.out HB5.out (own_mono HO4.out (by simp)) HM5.out HG5.out HO6.out HG6.out HL6.out
              exact this), Lib.hid ⟨rfl, by have h1 := HK.out; have h2 := HN.out.sixteen x; have h3 := HLT.out; simp only [List.length_cons] at h3; simp only [List.length_cons, List.length_append]; omega⟩⟩
          · have hne : (S.st x != 0) = true := by simp [hst]
            have HST := Lib.hid hst
            clear hst hbx hin
            gi_wp2_with (
              gi_at_call 31
              refine hlk.mono ?_
              rintro e w4 ⟨s4, pv4, rfl, ho4, hb4⟩
              obtain ⟨a4, c4, rfl, _⟩ := own_shape ho4
              have hb5 : Below wr.heap.size wr (w4.alloc (.cells #[.int .i64 (kindN N x), .string s4, .slice a4 (partsN N x).length c4] 47)) := below_two hb4
              have k1 := keepS hb5 HMB.out
              have k2 := keepS hb5 HM1.out
              have k3 := (HMD.out _ (HDR.out.bel.trans (hb5.mono HDR.out.bel.size))).stLook hxw
              have HB5 := Lib.hid hb5
              clear hb4 ho4 hb5)
            gi_roundg ((N.length - V.length) * 17 + O'.length)
            case measure => have := HK.out; omega
            case rel => exact ⟨f, V, O', Lib.hid (HDR.out.pop (.inr (.inl HST.out)) HN.out HB5.out), Lib.hid ⟨rfl, by have := HK.out; omega⟩⟩
        · have hlk := callsIn_wide (n := n - 1).2 ((HTP.out _ hbx).look_no (x := x) (by omega))
          have HIN := Lib.hid hin
          clear hbx hin
          gi_wp2_with (gi_at_call 31; refine hlk.mono ?_; rintro e w4 ⟨rfl, hb4⟩)
          have HB6 := Lib.hid (((below_alloc wr (.cells #[.int .i64 0, .string ByteArray.empty, .slice none 0 0] 47)).trans (hb4.mono (by simp))).trans ((below_alloc w4 (.cells #[.int .i64 0, .string ByteArray.empty, .slice none 0 0] 47)).mono (by have := hb4.size; simp at this; omega)))
          clear hb4
          gi_roundg ((N.length - V.length) * 17 + O'.length)
          case measure => have := HK.out; omega
          case rel => exact ⟨f, V, O', Lib.hid (HDR.out.pop (.inr (.inr HIN.out)) HN.out HB6.out), Lib.hid ⟨rfl, by have := HK.out; omega⟩⟩
end Go.Proofs.Ytmplcibaoanlnaa
