/- law 6: FrameBack: what is written is read back. -/
import Derived.Test.YtocfkkppalpamaaDoorGTold
import Derived.Test.YtocfkkppalpamaaDoorGLaw1
namespace Go.Proofs.YtocfkkppalpamaaDoor
open Go Go.RowKit

theorem FeAt.drew {w : World} {b o : Nat} {e : Fe} (h : FeAt w b o e) : FeAt w.drew b o e := ⟨h.c0, h.c1, h.c2, h.c3, h.c4, h.c5⟩
set_option maxRecDepth 20000 in
set_option maxHeartbeats 4000000 in
theorem gback_walk {w : World} {v : Value} {l : List Fe} (h : Fl w v l) (ht : Tab w) (hw : 1 < w.heap.size) : Calls Tryd.prog 5 #[v] w fun e w' => e = .returned (.bool true) ∧ Below w.heap.size w w' := by
  have hL := light_any h
  have HF := Lib.hid h
  have HT := Lib.hid ht
  have HW := Lib.hid hw
  obtain ⟨ao, cap, rfl⟩ := h.shape
  clear h ht hw
  go_enter Tryd.func5, Tryd.ntmps5
  go_wp2_with fail
  refine hL.mono ?_
  rintro e w1 ⟨b, rfl, hb, rfl⟩
  clear hL
  cases b with
  | false =>
    go_wp2_with fail
    go_ret
    exact ⟨rfl, Below.refl _ _⟩
  | true =>
    have HLT := Lib.hid (hb rfl)
    have hall := gall_any HF.out HLT.out
    clear hb
    go_wp2_with fail
    refine hall.mono ?_
    rintro e w1 ⟨u, L, rfl, hfo, hmap, hb1⟩
    have hlen : L.length = l.length := by simpa using congrArg List.length hmap
    have hl30 := HLT.out.1
    have hW := gwrite_any hfo.fl (by omega) (HT.out.below hb1) (by have := hb1.size; have := HW.out; omega)
    have HM := Lib.hid hmap
    have HB1 := Lib.hid hb1
    obtain ⟨ua, uc, rfl⟩ := hfo.shape
    have HLN := Lib.hid hlen
    clear hall hfo hmap hb1 hlen
    go_wp2_with fail
    refine hW.mono ?_
    rintro e w2 ⟨z, zs, n, rfl, ⟨hz, hpz⟩, hb2, hc⟩
    have HB2 := Lib.hid (HB1.out.trans (hb2.mono HB1.out.size))
    have hc2 : ((n = 1 ∨ n = 4) ∧ zs.length = 0) ∨ (n = 0 ∧ zs.length ≤ 1200 ∧ gRead zs = some (l.map Fe.f)) := by
      rcases hc with ⟨_, h1, h2⟩ | ⟨_, _, h1, h2⟩ | ⟨h1, h2, h3, h4⟩
      · exact .inl ⟨.inl h2, by rw [h1]; rfl⟩
      · exact .inl ⟨.inr h2, by rw [h1]; rfl⟩
      · refine .inr ⟨h4, by rw [h3]; exact h2, ?_⟩
        rw [h3, ← HM.out]
        exact gread_back (fun e => h1.1 (List.map_eq_nil_iff.1 e)) h1.2
    clear hW hc hb2
    rcases hc2 with ⟨hn, hz0⟩ | ⟨rfl, hz12, hg⟩
    · obtain ⟨za, zc, rfl⟩ := hz.rd.shape
      rw [hz0] at *
      clear hz hpz
      rcases hn with rfl | rfl
      all_goals
        go_wp2_with (go_at_call 17; refine (gawake_any (HT.out.below HB2.out)).mono ?_; rintro e w3 ⟨rfl, hb3⟩)
        go_ret
        exact ⟨rfl, HB2.out.trans (hb3.mono HB2.out.size)⟩
    · have hrd := gread_any hz.rd hpz (by omega)
      obtain ⟨za, zc, rfl⟩ := hz.rd.shape
      have HG := Lib.hid hg
      have HZ12 := Lib.hid hz12
      clear hz hpz hg hz12
      go_wp2_with fail
      refine hrd.mono ?_
      rintro e w3 ⟨v3, M, n, rfl, hfl, hb3, hc⟩
      have hMl : n = 0 ∧ M.map Fe.f = l.map Fe.f := by
        rw [HG.out] at hc
        rcases hc with ⟨_, h, _⟩ | ⟨_, _, h, _⟩ | ⟨h, _, h2⟩
        · exact absurd HZ12.out (by omega)
        · cases h
        · exact ⟨h, (Option.some.inj h2).symm⟩
      obtain ⟨rfl, hMl⟩ := hMl
      have hlen : M.length = l.length := by simpa using congrArg List.length hMl
      obtain ⟨va, vc, rfl⟩ := hfl.shape
      have HB3 := Lib.hid (HB2.out.trans (hb3.mono HB2.out.size))
      have HFM := Lib.hid hfl
      have HMM := Lib.hid hMl
      have HLM := Lib.hid hlen
      have hne : ((l.length : Int) != (l.length : Int)) = false := by simp
      clear hrd hc hfl hb3 hMl
      rw [hlen]
      clear hlen
      go_wp2_with fail
      clear hne
      go_loopw [7] (fun i wr => ∃ k : Nat, i = .int .i64 k ∧ k ≤ l.length ∧ Below w3.heap.size w3 wr) (fun i _ => l.length - (intOf i).toNat)
      case atStart => exact ⟨0, rfl, by omega, Below.refl _ _⟩
      case round =>
        rename_i wr
        obtain ⟨k, rfl, hk, hbr⟩ := hrel
        have hk' : (k : Int) ≤ (l.length : Int) := by omega
        by_cases hlt : k < l.length
        · have hlt' : (k : Int) < (l.length : Int) := by omega
          have HBR := Lib.hid hbr
          have hb3r : Below w.heap.size w wr := HB3.out.trans (hbr.mono HB3.out.size)
          obtain ⟨b1, off1, cap1, e1, hl1, hat1⟩ := (HFM.out.below hbr).at (by have := HLM.out; omega)
          obtain ⟨b2, off2, cap2, e2, hl2, hat2⟩ := (HF.out.below hb3r).at (by omega)
          simp only [Value.slice.injEq] at e1 e2
          obtain ⟨rfl, _, rfl⟩ := e1
          obtain ⟨rfl, _, rfl⟩ := e2
          obtain ⟨x, hx⟩ : ∃ x, M[k]? = some x := ⟨_, List.getElem?_eq_getElem (by have := HLM.out; omega)⟩
          obtain ⟨y, hy⟩ : ∃ y, l[k]? = some y := ⟨_, List.getElem?_eq_getElem hlt⟩
          have hxy : x.f = y.f := by
            have h0 := congrArg (fun q => q[k]?) HMM.out
            simp only [List.getElem?_map, hx, hy, Option.map_some] at h0
            exact Option.some.inj h0
          have hc1 := hat1 k x hx
          have hc2 := hat2 k y hy
          have hf1 := ((HFM.out.rd x (List.mem_of_getElem? hx)).below hbr)
          have hf2 := ((HF.out.rd y (List.mem_of_getElem? hy)).below hb3r)
          obtain ⟨⟨fk, fc, fsp, fa, fd, ft⟩, sv, dv⟩ := x
          obtain ⟨yf, sv2, dv2⟩ := y
          simp only at hxy
          subst hxy
          have g1 : Rs wr sv fsp := hf1.1
          have g2 : Rd wr dv fd := hf1.2
          have g3 : Rs wr sv2 fsp := hf2.1
          have g4 : Rd wr dv2 fd := hf2.2
          have HTO := Lib.hid (gtold_any (w := wr.drew) (k := fk) (c := fc) (a := fa) (t := ft) g1 g2 g3 g4)
          obtain ⟨sa, sn, rfl⟩ := rs_shape g1
          obtain ⟨da, dn, rfl⟩ := g2.shape
          obtain ⟨sb, sm, rfl⟩ := rs_shape g3
          obtain ⟨db, dm, rfl⟩ := g4.shape
          clear hat1 hat2 hf1 hf2 g1 g2 g3 g4 hx hy hbr hb3r
          have hk0 : k = 0 ∨ 0 < k := by omega
          rcases hk0 with rfl | hk0
          · simp only [Nat.zero_mul, Nat.add_zero] at hc1 hc2
            have HC := Lib.hid (And.intro hc1.drew hc2.drew)
            clear hc1 hc2
            go_wp2_with fail
            refine wp_region_end 8 (fun w' => FeAt w' b1 off1 ⟨⟨fk, fc, fsp, fa, fd, ft⟩, .slice sa fsp.length sn, .slice da fd.length dn⟩ ∧ FeAt w' b2 off2 ⟨⟨fk, fc, fsp, fa, fd, ft⟩, .slice sb fsp.length sm, .slice db fd.length dm⟩) (by kernel_rfl) ?_
            refine wpAnyE_take [3, 2, 0] (i := 0) (oi := { dst := some 45, op := Op.move (Operand.tmp 5), type := 38, pos := "outright.go:23", after := #[], guard := none }) (v := ?_) rfl (by kernel_rfl) (by kernel_rfl) (by kernel_rfl) (by kernel_rfl) rfl rfl (by kernel_rfl) (by kernel_rfl) (fun _ _ _ h => h) (Or.inl ⟨by rfl, ?_⟩) (by exact HC.out) ?_
            rotate_left
            · intro w hSw; (try dsimp only at hSw); obtain ⟨⟨r0, r1, r2, r3, r4, r5⟩, q0, q1, q2, q3, q4, q5⟩ := hSw; (try simp only at r0 r1 r2 r3 r4 r5 q0 q1 q2 q3 q4 q5); go_simp; try (with_reducible rfl)
            repeat (first | simp only [Act.put] | simp only [List.setIfInBounds_toArray] | simp only [List.set_cons_zero] | simp only [List.set_cons_succ])
            refine wpAnyE_take [3, 2, 1] (i := 1) (oi := { dst := some 46, op := Op.move (Operand.tmp 7), type := 3, pos := "outright.go:23", after := #[], guard := none }) (v := ?_) rfl (by kernel_rfl) (by kernel_rfl) (by kernel_rfl) (by kernel_rfl) rfl rfl (by kernel_rfl) (by kernel_rfl) (fun _ _ _ h => h) (Or.inl ⟨by rfl, ?_⟩) (by exact HC.out) ?_
            rotate_left
            · intro w hSw; (try dsimp only at hSw); obtain ⟨⟨r0, r1, r2, r3, r4, r5⟩, q0, q1, q2, q3, q4, q5⟩ := hSw; (try simp only at r0 r1 r2 r3 r4 r5 q0 q1 q2 q3 q4 q5); go_simp; try (with_reducible rfl)
            repeat (first | simp only [Act.put] | simp only [List.setIfInBounds_toArray] | simp only [List.set_cons_zero] | simp only [List.set_cons_succ])
            refine wpAnyE_take [3, 2] (i := 2) (oi := { dst := some 47, op := Op.indexAddr 38 (Operand.tmp 45) (Operand.tmp 46), type := 0, pos := "outright.go:23", after := #[{ on := 0, ground := Ground.data }, { on := 1, ground := Ground.data }], guard := none }) (v := ?_) rfl (by kernel_rfl) (by kernel_rfl) (by kernel_rfl) (by kernel_rfl) rfl rfl (by kernel_rfl) (by kernel_rfl) (fun _ _ _ h => h) (Or.inl ⟨by rfl, ?_⟩) (by exact HC.out) ?_
            rotate_left
            · intro w hSw; (try dsimp only at hSw); obtain ⟨⟨r0, r1, r2, r3, r4, r5⟩, q0, q1, q2, q3, q4, q5⟩ := hSw; (try simp only at r0 r1 r2 r3 r4 r5 q0 q1 q2 q3 q4 q5); go_simp; try (with_reducible rfl)
            repeat (first | simp only [Act.put] | simp only [List.setIfInBounds_toArray] | simp only [List.set_cons_zero] | simp only [List.set_cons_succ])
            refine wpAnyE_take [3] (i := 3) (oi := { dst := some 48, op := Op.load 29 (Operand.tmp 47), type := 29, pos := "outright.go:23", after := #[{ on := 2, ground := Ground.data }], guard := none }) (v := ?_) rfl (by kernel_rfl) (by kernel_rfl) (by kernel_rfl) (by kernel_rfl) rfl rfl (by kernel_rfl) (by kernel_rfl) (fun _ _ _ h => h) (Or.inl ⟨by rfl, ?_⟩) (by exact HC.out) ?_
            rotate_left
            · intro w hSw; (try dsimp only at hSw); obtain ⟨⟨r0, r1, r2, r3, r4, r5⟩, q0, q1, q2, q3, q4, q5⟩ := hSw; (try simp only at r0 r1 r2 r3 r4 r5 q0 q1 q2 q3 q4 q5); go_simp; try (with_reducible rfl)
            repeat (first | simp only [Act.put] | simp only [List.setIfInBounds_toArray] | simp only [List.set_cons_zero] | simp only [List.set_cons_succ])
            refine wpAnyE_take [7, 6, 4] (i := 4) (oi := { dst := some 49, op := Op.move (Operand.tmp 0), type := 22, pos := "outright.go:23", after := #[], guard := none }) (v := ?_) rfl (by kernel_rfl) (by kernel_rfl) (by kernel_rfl) (by kernel_rfl) rfl rfl (by kernel_rfl) (by kernel_rfl) (fun _ _ _ h => h) (Or.inl ⟨by rfl, ?_⟩) (by exact HC.out) ?_
            rotate_left
            · intro w hSw; (try dsimp only at hSw); obtain ⟨⟨r0, r1, r2, r3, r4, r5⟩, q0, q1, q2, q3, q4, q5⟩ := hSw; (try simp only at r0 r1 r2 r3 r4 r5 q0 q1 q2 q3 q4 q5); go_simp; try (with_reducible rfl)
            repeat (first | simp only [Act.put] | simp only [List.setIfInBounds_toArray] | simp only [List.set_cons_zero] | simp only [List.set_cons_succ])
            refine wpAnyE_take [7, 6, 5] (i := 5) (oi := { dst := some 50, op := Op.move (Operand.tmp 7), type := 3, pos := "outright.go:23", after := #[], guard := none }) (v := ?_) rfl (by kernel_rfl) (by kernel_rfl) (by kernel_rfl) (by kernel_rfl) rfl rfl (by kernel_rfl) (by kernel_rfl) (fun _ _ _ h => h) (Or.inl ⟨by rfl, ?_⟩) (by exact HC.out) ?_
            rotate_left
            · intro w hSw; (try dsimp only at hSw); obtain ⟨⟨r0, r1, r2, r3, r4, r5⟩, q0, q1, q2, q3, q4, q5⟩ := hSw; (try simp only at r0 r1 r2 r3 r4 r5 q0 q1 q2 q3 q4 q5); go_simp; try (with_reducible rfl)
            repeat (first | simp only [Act.put] | simp only [List.setIfInBounds_toArray] | simp only [List.set_cons_zero] | simp only [List.set_cons_succ])
            refine wpAnyE_take [7, 6] (i := 6) (oi := { dst := some 51, op := Op.indexAddr 22 (Operand.tmp 49) (Operand.tmp 50), type := 0, pos := "outright.go:23", after := #[{ on := 4, ground := Ground.data }, { on := 5, ground := Ground.data }], guard := none }) (v := ?_) rfl (by kernel_rfl) (by kernel_rfl) (by kernel_rfl) (by kernel_rfl) rfl rfl (by kernel_rfl) (by kernel_rfl) (fun _ _ _ h => h) (Or.inl ⟨by rfl, ?_⟩) (by exact HC.out) ?_
            rotate_left
            · intro w hSw; (try dsimp only at hSw); obtain ⟨⟨r0, r1, r2, r3, r4, r5⟩, q0, q1, q2, q3, q4, q5⟩ := hSw; (try simp only at r0 r1 r2 r3 r4 r5 q0 q1 q2 q3 q4 q5); go_simp; try (with_reducible rfl)
            repeat (first | simp only [Act.put] | simp only [List.setIfInBounds_toArray] | simp only [List.set_cons_zero] | simp only [List.set_cons_succ])
            refine wpAnyE_take [7] (i := 7) (oi := { dst := some 52, op := Op.load 33 (Operand.tmp 51), type := 33, pos := "outright.go:23", after := #[{ on := 6, ground := Ground.data }], guard := none }) (v := ?_) rfl (by kernel_rfl) (by kernel_rfl) (by kernel_rfl) (by kernel_rfl) rfl rfl (by kernel_rfl) (by kernel_rfl) (fun _ _ _ h => h) (Or.inl ⟨by rfl, ?_⟩) (by exact HC.out) ?_
            rotate_left
            · intro w hSw; (try dsimp only at hSw); obtain ⟨⟨r0, r1, r2, r3, r4, r5⟩, q0, q1, q2, q3, q4, q5⟩ := hSw; (try simp only at r0 r1 r2 r3 r4 r5 q0 q1 q2 q3 q4 q5); go_simp; try (with_reducible rfl)
            repeat (first | simp only [Act.put] | simp only [List.setIfInBounds_toArray] | simp only [List.set_cons_zero] | simp only [List.set_cons_succ])
            refine wpAnyE_one (i := 8) (o := { dst := some 53, op := Op.call { callee := Callee.value (Operand.func 20), args := #[Operand.tmp 48, Operand.tmp 52], argTypes := #[29, 33] }, type := 4, pos := "outright.go:23", after := #[{ on := 3, ground := Ground.data }, { on := 7, ground := Ground.data }], guard := none }) (by kernel_rfl) rfl (fun K hK => ?_)
            go_simp
            refine (HTO.out).mono ?_
            rintro e w5 ⟨rfl, hb5⟩
            refine hK.out _ _ (fun hL => absurd hL (by decide)) ?_
            clear hK K
            repeat (first | simp only [Act.put] | simp only [List.setIfInBounds_toArray] | simp only [List.set_cons_zero] | simp only [List.set_cons_succ])
            refine wpAnyE_one (i := 9) (o := { dst := some 54, op := Op.unOp UnOp.not 4 (Operand.tmp 53), type := 4, pos := "outright.go:23", after := #[{ on := 8, ground := Ground.data }], guard := none }) (by kernel_rfl) rfl (fun K hK => ?_)
            go_simp
            refine hK.out _ _ (fun hL => absurd hL (by decide)) ?_
            clear hK K
            repeat (first | simp only [Act.put] | simp only [List.setIfInBounds_toArray] | simp only [List.set_cons_zero] | simp only [List.set_cons_succ])
            refine wpAnyE_done (by kernel_rfl) ?_ _
            go_wp2_with fail
            go_roundw
            case rel => exact ⟨1, by go_num, by omega, HBR.out.drew.trans (hb5.mono HBR.out.size)⟩
            case measure => simp [intOf]; omega
          · have HC := Lib.hid (And.intro hc1.drew hc2.drew)
            clear hc1 hc2
            go_wp2_with fail
            refine wp_region_end 8 (fun w' => FeAt w' b1 (off1 + k * 6) ⟨⟨fk, fc, fsp, fa, fd, ft⟩, .slice sa fsp.length sn, .slice da fd.length dn⟩ ∧ FeAt w' b2 (off2 + k * 6) ⟨⟨fk, fc, fsp, fa, fd, ft⟩, .slice sb fsp.length sm, .slice db fd.length dm⟩) (by kernel_rfl) ?_
            refine wpAnyE_take [3, 2, 0] (i := 0) (oi := { dst := some 45, op := Op.move (Operand.tmp 5), type := 38, pos := "outright.go:23", after := #[], guard := none }) (v := ?_) rfl (by kernel_rfl) (by kernel_rfl) (by kernel_rfl) (by kernel_rfl) rfl rfl (by kernel_rfl) (by kernel_rfl) (fun _ _ _ h => h) (Or.inl ⟨by rfl, ?_⟩) (by exact HC.out) ?_
            rotate_left
            · intro w hSw; (try dsimp only at hSw); obtain ⟨⟨r0, r1, r2, r3, r4, r5⟩, q0, q1, q2, q3, q4, q5⟩ := hSw; (try simp only at r0 r1 r2 r3 r4 r5 q0 q1 q2 q3 q4 q5); go_simp; try (with_reducible rfl)
            repeat (first | simp only [Act.put] | simp only [List.setIfInBounds_toArray] | simp only [List.set_cons_zero] | simp only [List.set_cons_succ])
            refine wpAnyE_take [3, 2, 1] (i := 1) (oi := { dst := some 46, op := Op.move (Operand.tmp 7), type := 3, pos := "outright.go:23", after := #[], guard := none }) (v := ?_) rfl (by kernel_rfl) (by kernel_rfl) (by kernel_rfl) (by kernel_rfl) rfl rfl (by kernel_rfl) (by kernel_rfl) (fun _ _ _ h => h) (Or.inl ⟨by rfl, ?_⟩) (by exact HC.out) ?_
            rotate_left
            · intro w hSw; (try dsimp only at hSw); obtain ⟨⟨r0, r1, r2, r3, r4, r5⟩, q0, q1, q2, q3, q4, q5⟩ := hSw; (try simp only at r0 r1 r2 r3 r4 r5 q0 q1 q2 q3 q4 q5); go_simp; try (with_reducible rfl)
            repeat (first | simp only [Act.put] | simp only [List.setIfInBounds_toArray] | simp only [List.set_cons_zero] | simp only [List.set_cons_succ])
            refine wpAnyE_take [3, 2] (i := 2) (oi := { dst := some 47, op := Op.indexAddr 38 (Operand.tmp 45) (Operand.tmp 46), type := 0, pos := "outright.go:23", after := #[{ on := 0, ground := Ground.data }, { on := 1, ground := Ground.data }], guard := none }) (v := ?_) rfl (by kernel_rfl) (by kernel_rfl) (by kernel_rfl) (by kernel_rfl) rfl rfl (by kernel_rfl) (by kernel_rfl) (fun _ _ _ h => h) (Or.inl ⟨by rfl, ?_⟩) (by exact HC.out) ?_
            rotate_left
            · intro w hSw; (try dsimp only at hSw); obtain ⟨⟨r0, r1, r2, r3, r4, r5⟩, q0, q1, q2, q3, q4, q5⟩ := hSw; (try simp only at r0 r1 r2 r3 r4 r5 q0 q1 q2 q3 q4 q5); go_simp; try (with_reducible rfl)
            repeat (first | simp only [Act.put] | simp only [List.setIfInBounds_toArray] | simp only [List.set_cons_zero] | simp only [List.set_cons_succ])
            refine wpAnyE_take [3] (i := 3) (oi := { dst := some 48, op := Op.load 29 (Operand.tmp 47), type := 29, pos := "outright.go:23", after := #[{ on := 2, ground := Ground.data }], guard := none }) (v := ?_) rfl (by kernel_rfl) (by kernel_rfl) (by kernel_rfl) (by kernel_rfl) rfl rfl (by kernel_rfl) (by kernel_rfl) (fun _ _ _ h => h) (Or.inl ⟨by rfl, ?_⟩) (by exact HC.out) ?_
            rotate_left
            · intro w hSw; (try dsimp only at hSw); obtain ⟨⟨r0, r1, r2, r3, r4, r5⟩, q0, q1, q2, q3, q4, q5⟩ := hSw; (try simp only at r0 r1 r2 r3 r4 r5 q0 q1 q2 q3 q4 q5); go_simp; try (with_reducible rfl)
            repeat (first | simp only [Act.put] | simp only [List.setIfInBounds_toArray] | simp only [List.set_cons_zero] | simp only [List.set_cons_succ])
            refine wpAnyE_take [7, 6, 4] (i := 4) (oi := { dst := some 49, op := Op.move (Operand.tmp 0), type := 22, pos := "outright.go:23", after := #[], guard := none }) (v := ?_) rfl (by kernel_rfl) (by kernel_rfl) (by kernel_rfl) (by kernel_rfl) rfl rfl (by kernel_rfl) (by kernel_rfl) (fun _ _ _ h => h) (Or.inl ⟨by rfl, ?_⟩) (by exact HC.out) ?_
            rotate_left
            · intro w hSw; (try dsimp only at hSw); obtain ⟨⟨r0, r1, r2, r3, r4, r5⟩, q0, q1, q2, q3, q4, q5⟩ := hSw; (try simp only at r0 r1 r2 r3 r4 r5 q0 q1 q2 q3 q4 q5); go_simp; try (with_reducible rfl)
            repeat (first | simp only [Act.put] | simp only [List.setIfInBounds_toArray] | simp only [List.set_cons_zero] | simp only [List.set_cons_succ])
            refine wpAnyE_take [7, 6, 5] (i := 5) (oi := { dst := some 50, op := Op.move (Operand.tmp 7), type := 3, pos := "outright.go:23", after := #[], guard := none }) (v := ?_) rfl (by kernel_rfl) (by kernel_rfl) (by kernel_rfl) (by kernel_rfl) rfl rfl (by kernel_rfl) (by kernel_rfl) (fun _ _ _ h => h) (Or.inl ⟨by rfl, ?_⟩) (by exact HC.out) ?_
            rotate_left
            · intro w hSw; (try dsimp only at hSw); obtain ⟨⟨r0, r1, r2, r3, r4, r5⟩, q0, q1, q2, q3, q4, q5⟩ := hSw; (try simp only at r0 r1 r2 r3 r4 r5 q0 q1 q2 q3 q4 q5); go_simp; try (with_reducible rfl)
            repeat (first | simp only [Act.put] | simp only [List.setIfInBounds_toArray] | simp only [List.set_cons_zero] | simp only [List.set_cons_succ])
            refine wpAnyE_take [7, 6] (i := 6) (oi := { dst := some 51, op := Op.indexAddr 22 (Operand.tmp 49) (Operand.tmp 50), type := 0, pos := "outright.go:23", after := #[{ on := 4, ground := Ground.data }, { on := 5, ground := Ground.data }], guard := none }) (v := ?_) rfl (by kernel_rfl) (by kernel_rfl) (by kernel_rfl) (by kernel_rfl) rfl rfl (by kernel_rfl) (by kernel_rfl) (fun _ _ _ h => h) (Or.inl ⟨by rfl, ?_⟩) (by exact HC.out) ?_
            rotate_left
            · intro w hSw; (try dsimp only at hSw); obtain ⟨⟨r0, r1, r2, r3, r4, r5⟩, q0, q1, q2, q3, q4, q5⟩ := hSw; (try simp only at r0 r1 r2 r3 r4 r5 q0 q1 q2 q3 q4 q5); go_simp; try (with_reducible rfl)
            repeat (first | simp only [Act.put] | simp only [List.setIfInBounds_toArray] | simp only [List.set_cons_zero] | simp only [List.set_cons_succ])
            refine wpAnyE_take [7] (i := 7) (oi := { dst := some 52, op := Op.load 33 (Operand.tmp 51), type := 33, pos := "outright.go:23", after := #[{ on := 6, ground := Ground.data }], guard := none }) (v := ?_) rfl (by kernel_rfl) (by kernel_rfl) (by kernel_rfl) (by kernel_rfl) rfl rfl (by kernel_rfl) (by kernel_rfl) (fun _ _ _ h => h) (Or.inl ⟨by rfl, ?_⟩) (by exact HC.out) ?_
            rotate_left
            · intro w hSw; (try dsimp only at hSw); obtain ⟨⟨r0, r1, r2, r3, r4, r5⟩, q0, q1, q2, q3, q4, q5⟩ := hSw; (try simp only at r0 r1 r2 r3 r4 r5 q0 q1 q2 q3 q4 q5); go_simp; try (with_reducible rfl)
            repeat (first | simp only [Act.put] | simp only [List.setIfInBounds_toArray] | simp only [List.set_cons_zero] | simp only [List.set_cons_succ])
            refine wpAnyE_one (i := 8) (o := { dst := some 53, op := Op.call { callee := Callee.value (Operand.func 20), args := #[Operand.tmp 48, Operand.tmp 52], argTypes := #[29, 33] }, type := 4, pos := "outright.go:23", after := #[{ on := 3, ground := Ground.data }, { on := 7, ground := Ground.data }], guard := none }) (by kernel_rfl) rfl (fun K hK => ?_)
            go_simp
            refine (HTO.out).mono ?_
            rintro e w5 ⟨rfl, hb5⟩
            refine hK.out _ _ (fun hL => absurd hL (by decide)) ?_
            clear hK K
            repeat (first | simp only [Act.put] | simp only [List.setIfInBounds_toArray] | simp only [List.set_cons_zero] | simp only [List.set_cons_succ])
            refine wpAnyE_one (i := 9) (o := { dst := some 54, op := Op.unOp UnOp.not 4 (Operand.tmp 53), type := 4, pos := "outright.go:23", after := #[{ on := 8, ground := Ground.data }], guard := none }) (by kernel_rfl) rfl (fun K hK => ?_)
            go_simp
            refine hK.out _ _ (fun hL => absurd hL (by decide)) ?_
            clear hK K
            repeat (first | simp only [Act.put] | simp only [List.setIfInBounds_toArray] | simp only [List.set_cons_zero] | simp only [List.set_cons_succ])
            refine wpAnyE_done (by kernel_rfl) ?_ _
            go_wp2_with fail
            go_roundw
            case rel => exact ⟨k + 1, by go_num, by omega, HBR.out.drew.trans (hb5.mono HBR.out.size)⟩
            case measure => simp [intOf]; omega
        · obtain rfl : k = l.length := by omega
          have HB4 := Lib.hid (HB3.out.trans (hbr.mono HB3.out.size))
          go_wp2_with (go_at_call 17; refine (gawake_any (HT.out.below HB4.out)).mono ?_; rintro e w5 ⟨rfl, hb5⟩)
          go_ret
          exact ⟨rfl, HB4.out.trans (hb5.mono HB4.out.size)⟩
#print axioms gback_walk
end Go.Proofs.YtocfkkppalpamaaDoor
