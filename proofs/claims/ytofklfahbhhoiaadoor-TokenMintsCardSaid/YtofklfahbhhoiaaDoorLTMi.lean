/- TokenMints, for every input. -/
import Derived.Test.YtofklfahbhhoiaaDoorKAwk
namespace Go.Proofs.YtofklfahbhhoiaaDoor.TokenMints
open Go Go.RowKit

theorem bk {v v' : World} {k : Nat} {o : Obj} (hb : Below v.heap.size v v') (h : v.heap[k]? = some o) : v'.heap[k]? = some o := (hb.block _ (blkLt h)).trans h
theorem rightE_is (a t ad now life : Int) : rightE a t ad now life = 0 ∨ rightE a t ad now life ≠ 0 := Decidable.em _
set_option maxRecDepth 20000 in
set_option maxHeartbeats 4000000 in
theorem walk {w : World} {ao : Option Addr} {cap : Nat} {nm : List Int} {l : Bool} {a t ad now life : Int} (hr : Rd w (.slice ao nm.length cap) nm) (ht : Tab w) (hw : 1 < w.heap.size) (hnow : -9223372036854775808 ≤ now ∧ now ≤ 9223372036854775807) :
    Calls Tryd.prog 3 #[.agg #[.bool l, .int .i64 a, .int .i64 t, .slice ao nm.length cap], .agg #[.int .i64 ad, .int .i64 now, .int .i64 life]] w fun e w' => e = .returned (.bool true) ∧ Below w.heap.size w w' := by
  obtain ⟨X, hX⟩ : ∃ X, (w.alloc (.cells #[.bool l, .int .i64 a, .int .i64 t, .slice ao nm.length cap] 24)).alloc (.cells #[.int .i64 ad, .int .i64 now, .int .i64 life] 26) = X := ⟨_, rfl⟩
  have hbX : Below w.heap.size w X := by rw [← hX]; exact ((Below.refl _ _).alloc (Nat.le_refl _) _).alloc (by simp) _
  have hA : X.heap[w.heap.size]? = some (.cells #[.bool l, .int .i64 a, .int .i64 t, .slice ao nm.length cap] 24 (0, 0)) := by rw [← hX]; exact bk (below_alloc _ _) (heap_alloc_new w _)
  have hB : X.heap[w.heap.size + 1]? = some (.cells #[.int .i64 ad, .int .i64 now, .int .i64 life] 26 (0, 0)) := by
    rw [← hX]
    have := heap_alloc_new (w.alloc (.cells #[.bool l, .int .i64 a, .int .i64 t, .slice ao nm.length cap] 24)) (.cells #[.int .i64 ad, .int .i64 now, .int .i64 life] 26)
    rw [World.size_alloc] at this
    exact this
  have tX := ht.below hbX
  have wX : 1 < X.heap.size := by have := hbX.size; omega
  have rX := hr.below hbX
  have H := Lib.hid (And.intro hbX (And.intro hA (And.intro hB (And.intro tX (And.intro wX (And.intro rX hnow))))))
  obtain ⟨x0, x1, x2, x3, -⟩ := cells4 hA
  clear hr ht hw hbX hA hB tX wX rX hnow
  by_cases hlen : 50 < nm.length
  · have hl : 50 < (nm.length : Int) := by omega
    go_enter Tryd.func3, Tryd.ntmps3
    go_wp2_with fail
    go_ret
    exact ⟨rfl, H.out.1⟩
  · have hl : ¬ 50 < (nm.length : Int) := by omega
    have HL := Lib.hid hlen
    clear hlen
    go_enter Tryd.func3, Tryd.ntmps3
    go_wp2_with fail
    refine (T.St.new X).mono ?_
    rintro e w1 ⟨tb, mb, rfl, s1⟩
    have g1 : T.Gd X w1 tb mb [] 0 [] := ⟨T.Sg.of_st s1, T.good_nil, Nat.le_refl _⟩
    have c1 := g1.secretG (by omega)
    clear s1 g1 x0 x1 x2 x3
    go_wp2_with fail
    refine c1.mono ?_
    rintro e w2 ⟨N2, k, rfl, g2, -, f2, -⟩
    obtain ⟨x0, x1, x2, x3, -⟩ := cells4 (bk g2.st.bel H.out.2.1)
    have c2 := of_any (l := l) (a := a) (t := t) (H.out.2.2.2.2.2.1.below g2.st.bel) (by have := HL.out; omega)
    have G2 := Lib.hid (And.intro g2 f2)
    clear c1 g2 f2
    go_wp2_with fail
    refine c2.mono ?_
    rintro e w3 ⟨v3, rfl, r3, b3⟩
    obtain ⟨a3, p3, rfl⟩ := r3.shape'
    clear c2 x0 x1 x2 x3
    have g3 := G2.out.1.keep b3
    cases hok : tokOk a t nm.length with
    | false =>
      have c3 := mint_no (k := k) (l := l) (ao := a3) (cap := p3) g3 hok
      have HO := Lib.hid hok
      clear g3 b3 r3 hok
      go_wp2_with fail
      refine c3.mono ?_
      rintro e w4 ⟨rfl, g4, -⟩
      obtain ⟨x0, x1, x2, x3, -⟩ := cells4 (bk g4.st.bel H.out.2.1)
      have c4 := rtext_any (l := l) (a := a) (t := t) (H.out.2.2.2.2.2.1.below g4.st.bel) (by have := HL.out; omega)
      rw [textB_no HO.out] at c4
      have B4 := Lib.hid g4.st.bel
      clear c3 g4
      go_wp2_with fail
      refine c4.mono ?_
      rintro e w5 ⟨v5, rfl, o5, b5⟩
      obtain ⟨a5, p5, rfl⟩ := (Rd.of_own o5 Byt.nil).1.shape'
      have B5 := Lib.hid (B4.out.trans (b5.mono B4.out.size))
      clear c4 o5 b5 x0 x1 x2 x3
      go_wp2_with fail
      refine (awake16_any (H.out.2.2.2.1.below B5.out) (by have := B5.out.size; have := H.out.2.2.2.2.1; omega)).mono ?_
      rintro e w6 ⟨rfl, b6⟩
      have B6 := Lib.hid (B5.out.trans (b6.mono B5.out.size))
      clear b6
      go_wp2_with fail
      go_ret
      exact ⟨rfl, H.out.1.trans (B6.out.mono H.out.1.size)⟩
    | true =>
      have c3 := mint_yes (l := l) g3 hok G2.out.2.2 r3 H.out.2.2.2.1 H.out.2.2.2.2.1 (by omega)
      have HO := Lib.hid hok
      clear g3 b3 r3 hok
      go_wp2_with fail
      refine c3.mono ?_
      rintro e w4 ⟨N4, c, rfl, g4, -, f4⟩
      obtain ⟨x0, x1, x2, x3, -⟩ := cells4 (bk g4.st.bel H.out.2.1)
      have c4 := rtext_any (l := l) (a := a) (t := t) (H.out.2.2.2.2.2.1.below g4.st.bel) (by have := HL.out; omega)
      rw [textB_ok HO.out] at c4
      have G4 := Lib.hid (And.intro g4 f4)
      clear c3 g4 f4
      go_wp2_with fail
      refine c4.mono ?_
      rintro e w5 ⟨v5, rfl, o5, b5⟩
      have r5 := (Rd.of_own o5 (tokB_byt l a t H.out.2.2.2.2.2.1.byt)).1
      obtain ⟨a5, p5, rfl⟩ := r5.shape'
      have g5 := G4.out.1.keep b5
      have G5 := Lib.hid (And.intro g5 (And.intro G4.out.2 r5))
      have hpos : (((tokB l a t nm).length : Int) == 0) = false := by rw [beq_eq_false_iff_ne]; simp [tokB]; omega
      obtain ⟨y0, y1, y2, -⟩ := cells3 (bk g5.st.bel H.out.2.2.1)
      have HNM := Lib.hid (tokB_len l a t nm)
      generalize hTB : tokB l a t nm = TB at *
      have HTB := Lib.hid hTB
      clear c4 o5 b5 r5 g5 G4 x0 x1 x2 x3 hTB
      by_cases q1 : now < 0
      · go_wp2_with fail
        go_ret
        exact ⟨rfl, H.out.1.trans (G5.out.1.st.bel.mono H.out.1.size)⟩
      · by_cases q2 : 4611686018427387903 < now
        · go_wp2_with fail
          go_ret
          exact ⟨rfl, H.out.1.trans (G5.out.1.st.bel.mono H.out.1.size)⟩
        · have hcv := T.conv_const
          have b7 := below_alloc w5 (.cells (T.cs .u8 tokH).toArray 5 ((T.cs .u8 tokH).toArray.size, (T.cs .u8 tokH).toArray.size + 1))
          have g7 := G5.out.1.keep b7
          obtain ⟨x, hx, hs⟩ : ∃ x, T.Has N4 x (1, T.bstr TB, []) ∧ T.IsSeal N4 c k (T.bstr tokH) x := G5.out.2.1
          have c7 := g7.openG hs k (T.Rd.litM w5 tokH 5 rfl (by simp))
          have e2 : T.openB k k (T.bstr tokH) (T.bstr tokH) = true := by simp [T.openB]
          rw [e2] at c7
          simp only [if_true] at c7
          have HX := Lib.hid (And.intro hx (G5.out.2.2.below b7))
          have HQ := Lib.hid (And.intro q1 q2)
          clear b7 g7 hx hs e2
          go_wp2_with fail
          refine c7.mono ?_
          rintro e w8 ⟨rfl, g8, b8⟩
          have c8 := g8.st.look1 HX.out.1
          have G8 := Lib.hid (And.intro g8 (HX.out.2.below b8))
          clear c7 b8 hcv y0 y1 y2 g8
          go_wp2_with fail
          refine c8.mono ?_
          rintro e w9 ⟨an, cn, rfl, -, b9⟩
          have g9 := G8.out.1.keep b9
          have g10 : T.Gd X (w9.alloc (.cells #[.int .i64 1, .string (T.bstr TB), .slice an 0 cn] 40)) tb mb N4 (0 + 1 + 3) ((w9.heap.size, (.cells #[.int .i64 1, .string (T.bstr TB), .slice an 0 cn] 40)) :: []) := ⟨g9.st.guest _ _ rfl, g9.good, g9.len⟩
          have f5 : T.IsTok N4 c k (T.bstr (tokB l a t nm)) := by rw [HTB.out]; exact G5.out.2.1
          have F5 := Lib.hid f5
          have c10 := look_tok g10 f5 HO.out H.out.2.2.2.2.2.1.byt
          have R10 := Lib.hid ((G8.out.2.below b9).below (below_alloc w9 (.cells #[.int .i64 1, .string (T.bstr TB), .slice an 0 cn] 40)))
          clear c8 b9 g9 g10 f5 G8
          go_wp2_with fail
          refine c10.mono ?_
          rintro e w11 ⟨⟨v11, rfl, r11⟩, g11, b11⟩
          obtain ⟨a11, p11, rfl⟩ := r11.shape
          have g12 : T.Gd X (w11.alloc (.cells #[.bool l, .int .i64 a, .int .i64 t, .slice a11 nm.length p11] 32)) tb mb N4 (0 + 1 + 3) ((w11.heap.size, (.cells #[.bool l, .int .i64 a, .int .i64 t, .slice a11 nm.length p11] 32)) :: (w9.heap.size, (.cells #[.int .i64 1, .string (T.bstr TB), .slice an 0 cn] 40)) :: []) := ⟨g11.st.guest _ _ rfl, g11.good, g11.len⟩
          have c12 := check_any g12 (r := some (l, a, t, nm)) (fun w1 g => look_tok g F5.out HO.out H.out.2.2.2.2.2.1.byt) ad (life := life) H.out.2.2.2.2.2.2 (fun x hx => by cases hx; exact (tokOk_num HO.out).2.1)
          have b12 := below_alloc w11 (.cells #[.bool l, .int .i64 a, .int .i64 t, .slice a11 nm.length p11] 32)
          have R12 := Lib.hid (And.intro ((R10.out.below b11).below b12) (r11.below b12))
          obtain ⟨y0, y1, y2, -⟩ := cells3 (bk g12.st.bel H.out.2.2.1)
          clear c10 g11 b11 r11 g12 b12 R10
          by_cases qE : rightE a t ad now life = 0
          · rw [show chk (some (l, a, t, nm)) ad now life = (0, some (l, a, t, nm)) by unfold chk; exact if_pos qE] at c12
            have QE := Lib.hid qE
            clear qE
            go_wp2_with fail
            refine c12.mono ?_
            rintro e w13 ⟨⟨v13, rfl, r13⟩, g13, b13⟩
            obtain ⟨a13, p13, rfl⟩ := r13.shape
            have g14 : T.Gd X (w13.alloc (.cells #[.bool l, .int .i64 a, .int .i64 t, .slice a13 nm.length p13] 32)) tb mb N4 (0 + 1 + 3) ((w13.heap.size, (.cells #[.bool l, .int .i64 a, .int .i64 t, .slice a13 nm.length p13] 32)) :: (w11.heap.size, (.cells #[.bool l, .int .i64 a, .int .i64 t, .slice a11 nm.length p11] 32)) :: (w9.heap.size, (.cells #[.int .i64 1, .string (T.bstr TB), .slice an 0 cn] 40)) :: []) := ⟨g13.st.guest _ _ rfl, g13.good, g13.len⟩
            have b14 := below_alloc w13 (.cells #[.bool l, .int .i64 a, .int .i64 t, .slice a13 nm.length p13] 32)
            obtain ⟨z0, z1, z2, -⟩ := cells3 (bk g14.st.bel H.out.2.2.1)
            obtain ⟨x0, x1, x2, x3, -⟩ := cells4 (bk g14.st.bel H.out.2.1)
            have c15 := rright_any (w := w13.alloc (.cells #[.bool l, .int .i64 a, .int .i64 t, .slice a13 nm.length p13] 32)) (v := .slice ao nm.length cap) (l := l) (a := a) (t := t) (address := ad) (life := life) H.out.2.2.2.2.2.2 (tokOk_num HO.out).2.1
            rw [QE.out] at c15
            have R14 := Lib.hid (And.intro ((R12.out.1.below b13).below b14) (And.intro ((R12.out.2.below b13).below b14) (And.intro g14 (r13.below b14))))
            clear c12 g13 b13 g14 b14 y0 y1 y2 r13
            go_wp2_with fail
            refine c15.mono ?_
            rintro e w15 ⟨rfl, b15⟩
            have g15 := R14.out.2.2.1.keep b15
            have k15 := g15.st.own _ (List.mem_cons_of_mem _ (List.mem_cons_of_mem _ List.mem_cons_self))
            have t15 := g15.st.own _ (List.mem_cons_of_mem _ List.mem_cons_self)
            simp only at k15 t15
            clear x0 x1 x2 x3 z0 z1 z2
            obtain ⟨x0, x1, x2, x3, -⟩ := cells4 (bk g15.st.bel H.out.2.1)
            obtain ⟨k0, k1, -, -⟩ := cells3 k15
            obtain ⟨t0, t1, t2, t3, -⟩ := cells4 t15
            have cv := T.conv_any (R14.out.1.below b15).toT
            have p4 : ((T.bstr TB).toList == (T.bstr TB).toList) = true := by simp
            have c16 := told_any (l := l) (a := a) (t := t) (l' := l) (a' := a) (t' := t) (R14.out.2.1.below b15) (H.out.2.2.2.2.2.1.below g15.st.bel)
            rw [toldB_iff.2 ⟨rfl, rfl, rfl, rfl⟩] at c16
            have R15 := Lib.hid (And.intro g15 (R14.out.2.2.2.below b15))
            clear c15 g15 b15 k15 t15
            go_wp2_with fail
            refine c16.mono ?_
            rintro e w16 ⟨rfl, b16⟩
            clear c16 x0 x1 x2 x3 k0 k1 t0 t1 t2 t3 cv
            have g16 := R15.out.1.keep b16
            have u16 := g16.st.own _ List.mem_cons_self
            simp only at u16
            obtain ⟨x0, x1, x2, x3, -⟩ := cells4 (bk g16.st.bel H.out.2.1)
            obtain ⟨u0, u1, u2, u3, -⟩ := cells4 u16
            have c17 := told_any (l := l) (a := a) (t := t) (l' := l) (a' := a) (t' := t) (R15.out.2.below b16) (H.out.2.2.2.2.2.1.below g16.st.bel)
            rw [toldB_iff.2 ⟨rfl, rfl, rfl, rfl⟩] at c17
            have B16 := Lib.hid g16.st.bel
            clear g16 b16 u16
            go_wp2_with fail
            refine c17.mono ?_
            rintro e w17 ⟨rfl, b17⟩
            have B17 := Lib.hid (B16.out.trans (b17.mono B16.out.size))
            clear c17 b17 x0 x1 x2 x3 u0 u1 u2 u3
            go_wp2_with fail
            refine (awake16_any (H.out.2.2.2.1.below B17.out) (by have := B17.out.size; have := H.out.2.2.2.2.1; omega)).mono ?_
            rintro e w18 ⟨rfl, b18⟩
            have B18 := Lib.hid (B17.out.trans (b18.mono B17.out.size))
            clear b18
            go_wp2_with fail
            go_ret
            exact ⟨rfl, H.out.1.trans (B18.out.mono H.out.1.size)⟩
          · rw [show chk (some (l, a, t, nm)) ad now life = (rightE a t ad now life, none) by unfold chk; exact if_neg qE] at c12
            have QE := Lib.hid qE
            have e1 : (rightE a t ad now life == 0) = false := by simp [qE]
            have e2 : (rightE a t ad now life != 0) = true := by simp [qE]
            have e3 : (rightE a t ad now life == rightE a t ad now life) = true := by simp
            clear qE
            go_wp2_with fail
            refine c12.mono ?_
            rintro e w13 ⟨rfl, g13, b13⟩
            have g14 : T.Gd X (w13.alloc (.cells #[.bool false, .int .i64 0, .int .i64 0, .slice none 0 0] 32)) tb mb N4 (0 + 1 + 3) ((w13.heap.size, (.cells #[.bool false, .int .i64 0, .int .i64 0, .slice none 0 0] 32)) :: (w11.heap.size, (.cells #[.bool l, .int .i64 a, .int .i64 t, .slice a11 nm.length p11] 32)) :: (w9.heap.size, (.cells #[.int .i64 1, .string (T.bstr TB), .slice an 0 cn] 40)) :: []) := ⟨g13.st.guest _ _ rfl, g13.good, g13.len⟩
            have b14 := below_alloc w13 (.cells #[.bool false, .int .i64 0, .int .i64 0, .slice none 0 0] 32)
            obtain ⟨z0, z1, z2, -⟩ := cells3 (bk g14.st.bel H.out.2.2.1)
            obtain ⟨x0, x1, x2, x3, -⟩ := cells4 (bk g14.st.bel H.out.2.1)
            have c15 := rright_any (w := w13.alloc (.cells #[.bool false, .int .i64 0, .int .i64 0, .slice none 0 0] 32)) (v := .slice ao nm.length cap) (l := l) (a := a) (t := t) (address := ad) (life := life) H.out.2.2.2.2.2.2 (tokOk_num HO.out).2.1
            have R14 := Lib.hid (And.intro ((R12.out.1.below b13).below b14) (And.intro ((R12.out.2.below b13).below b14) (And.intro g14 trivial)))
            clear c12 g13 b13 g14 b14 y0 y1 y2 
            go_wp2_with fail
            refine c15.mono ?_
            rintro e w15 ⟨rfl, b15⟩
            have g15 := R14.out.2.2.1.keep b15
            have k15 := g15.st.own _ (List.mem_cons_of_mem _ (List.mem_cons_of_mem _ List.mem_cons_self))
            have t15 := g15.st.own _ (List.mem_cons_of_mem _ List.mem_cons_self)
            simp only at k15 t15
            clear x0 x1 x2 x3 z0 z1 z2
            obtain ⟨x0, x1, x2, x3, -⟩ := cells4 (bk g15.st.bel H.out.2.1)
            obtain ⟨k0, k1, -, -⟩ := cells3 k15
            obtain ⟨t0, t1, t2, t3, -⟩ := cells4 t15
            have cv := T.conv_any (R14.out.1.below b15).toT
            have p4 : ((T.bstr TB).toList == (T.bstr TB).toList) = true := by simp
            have c16 := told_any (l := l) (a := a) (t := t) (l' := l) (a' := a) (t' := t) (R14.out.2.1.below b15) (H.out.2.2.2.2.2.1.below g15.st.bel)
            rw [toldB_iff.2 ⟨rfl, rfl, rfl, rfl⟩] at c16
            have R15 := Lib.hid (And.intro g15 trivial)
            clear c15 g15 b15 k15 t15
            go_wp2_with fail
            refine c16.mono ?_
            rintro e w16 ⟨rfl, b16⟩
            clear c16 x0 x1 x2 x3 k0 k1 t0 t1 t2 t3 cv
            have g16 := R15.out.1.keep b16
            have u16 := g16.st.own _ List.mem_cons_self
            simp only at u16
            obtain ⟨x0, x1, x2, x3, -⟩ := cells4 (bk g16.st.bel H.out.2.1)
            obtain ⟨u0, u1, u2, u3, -⟩ := cells4 u16
            have c17 := told_any (w := w16) (l := false) (a := 0) (t := 0) (l' := false) (a' := 0) (t' := 0) (Rd.nil _) (Rd.nil _)
            rw [show toldB false 0 0 [] false 0 0 [] = true from rfl] at c17
            have B16 := Lib.hid g16.st.bel
            clear g16 b16 u16
            go_wp2_with fail
            refine c17.mono ?_
            rintro e w17 ⟨rfl, b17⟩
            have B17 := Lib.hid (B16.out.trans (b17.mono B16.out.size))
            clear c17 b17 x0 x1 x2 x3 u0 u1 u2 u3
            go_wp2_with fail
            refine (awake16_any (H.out.2.2.2.1.below B17.out) (by have := B17.out.size; have := H.out.2.2.2.2.1; omega)).mono ?_
            rintro e w18 ⟨rfl, b18⟩
            have B18 := Lib.hid (B17.out.trans (b18.mono B17.out.size))
            clear b18
            go_wp2_with fail
            go_ret
            exact ⟨rfl, H.out.1.trans (B18.out.mono H.out.1.size)⟩
#print axioms walk
end Go.Proofs.YtofklfahbhhoiaaDoor.TokenMints
