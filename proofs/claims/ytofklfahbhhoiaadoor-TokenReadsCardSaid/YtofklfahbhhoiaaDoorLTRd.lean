/- TokenReads, for every input. -/
import Derived.Test.YtofklfahbhhoiaaDoorKAwk
import Derived.Test.YtofklfahbhhoiaaDoorKRRd
namespace Go.Proofs.YtofklfahbhhoiaaDoor.TokenReads
open Go Go.RowKit

set_option maxRecDepth 20000 in
set_option maxHeartbeats 2000000 in
theorem walk {w : World} {ao : Option Addr} {cap : Nat} {zs : List Int} (hr : Rd w (.slice ao zs.length cap) zs) (hp : Plain (.slice ao zs.length cap)) (ht : Tab w) (hw : 1 < w.heap.size) :
    Calls Tryd.prog 4 #[.slice ao zs.length cap] w fun e w' => e = .returned (.bool true) ∧ Below w.heap.size w w' := by
  by_cases hlen : 200 < zs.length
  · have hl : 200 < (zs.length : Int) := by omega
    clear hr hp ht hw
    go_enter Tryd.func4, Tryd.ntmps4
    go_wp2_with fail
    go_ret
    exact ⟨rfl, Below.refl _ _⟩
  · have hl : ¬ 200 < (zs.length : Int) := by omega
    obtain ⟨r, hq⟩ : ∃ r, tokR zs = r := ⟨_, rfl⟩
    have HQ := Lib.hid (And.intro hq ((tok_eq hr.byt).trans hq))
    have H := Lib.hid (And.intro hr (And.intro hp (And.intro ht (And.intro hw hlen))))
    have hcv := T.conv_const
    clear hr hp ht hw hlen hq
    go_enter Tryd.func4, Tryd.ntmps4
    go_wp2_with fail
    refine (T.St.new w).mono ?_
    rintro e w1 ⟨tb, mb, rfl, s1⟩
    have g1 : T.Gd w w1 tb mb [] 0 [] := ⟨T.Sg.of_st s1, T.good_nil, Nat.le_refl _⟩
    have c1 := g1.secretG (by omega)
    clear s1 g1
    go_wp2_with fail
    refine c1.mono ?_
    rintro e w2 ⟨N2, k, rfl, g2, -, f2, -⟩
    have G2 : T.Gd w (w2.alloc (.cells (T.cs .u8 tokH).toArray 5 ((T.cs .u8 tokH).toArray.size, (T.cs .u8 tokH).toArray.size + 1))) tb mb N2 1 ((w2.heap.size, (.cells (T.cs .u8 tokH).toArray 5 ((T.cs .u8 tokH).toArray.size, (T.cs .u8 tokH).toArray.size + 1))) :: []) := ⟨g2.st.guest _ _ rfl, g2.good, g2.len⟩
    have R2 := Lib.hid (And.intro (T.Rd.litM w2 tokH 5 rfl (by simp)) (heap_alloc_new w2 (.cells (T.cs .u8 tokH).toArray 5 ((T.cs .u8 tokH).toArray.size, (T.cs .u8 tokH).toArray.size + 1))))
    have c2 := G2.textG (H.out.1.below G2.st.bel).toT (by have := H.out.2.2.2.2; omega) (by omega)
    have H2 := Lib.hid f2
    clear c1 g2 f2 G2
    go_wp2_with fail
    refine c2.mono ?_
    rintro e w3 ⟨N3, x, rfl, g3, p3, f3⟩
    have r3 := TRd.same R2.out.1 ((g3.st.own _ List.mem_cons_self).trans R2.out.2.symm)
    have c3 := g3.sealG (H2.out.ext p3).2 ⟨f3.pos, f3.le⟩ r3 (by simp) (by omega)
    have H3 := Lib.hid f3
    clear c2 g3 p3 f3 r3 hcv
    go_wp2_with fail
    refine c3.mono ?_
    rintro e w4 ⟨N4, m, rfl, g4, p4, f4⟩
    have c4 := look_yes g4 f4 (H3.out.ext p4) (by rw [T.bstr_size]; have := H.out.2.2.2.2; omega)
    rw [sbytes_bstr H.out.1.byt, HQ.out.2] at c4
    clear c3 g4 p4 f4
    go_wp2_with fail
    refine c4.mono ?_
    rintro e w5 ⟨hp5, g5, -⟩
    clear c4
    have b5 := g5.st.bel
    clear g5
    cases r with
    | none =>
      obtain rfl := hp5
      have B5 := fun o => b5.trans ((below_alloc w5 o).mono b5.size)
      have c6 := fun o => rread_any (H.out.1.below (B5 o)) H.out.2.1 (by have := H.out.2.2.2.2; omega)
      rw [HQ.out.1] at c6
      have M5 := Lib.hid (And.intro (heap_alloc_new w5 (.cells #[.bool false, .int .i64 0, .int .i64 0, .slice none 0 0] 32)) (B5 (.cells #[.bool false, .int .i64 0, .int .i64 0, .slice none 0 0] 32)))
      clear b5 B5
      go_wp2_with fail
      refine (c6 _).mono ?_
      rintro e w6 ⟨rfl, b6⟩
      have m6 := (b6.block _ (blkLt M5.out.1)).trans M5.out.1
      have m7 := ((below_alloc w6 (.cells #[.bool false, .int .i64 0, .int .i64 0, .slice none 0 0] 24)).block _ (blkLt m6)).trans m6
      have n7 := heap_alloc_new w6 (.cells #[.bool false, .int .i64 0, .int .i64 0, .slice none 0 0] 24)
      obtain ⟨m0, m1, m2, m3, -⟩ := cells4 m7
      obtain ⟨n0, n1, n2, n3, -⟩ := cells4 n7
      have B6 := M5.out.2.trans (b6.mono M5.out.2.size)
      have B7 := Lib.hid (B6.trans ((below_alloc w6 (.cells #[.bool false, .int .i64 0, .int .i64 0, .slice none 0 0] 24)).mono B6.size))
      have c7 := told_any (w := w6.alloc (.cells #[.bool false, .int .i64 0, .int .i64 0, .slice none 0 0] 24)) (l := false) (a := 0) (t := 0) (l' := false) (a' := 0) (t' := 0) (Rd.nil _) (Rd.nil _)
      rw [show toldB false 0 0 [] false 0 0 [] = true from rfl] at c7
      clear c6 b6 m6 m7 n7 B6
      go_wp2_with fail
      refine c7.mono ?_
      rintro e w8 ⟨rfl, b8⟩
      have B8 := Lib.hid (B7.out.trans (b8.mono B7.out.size))
      clear c7 b8
      go_wp2_with fail
      refine (awake16_any (H.out.2.2.1.below B8.out) (by have := B8.out.size; have := H.out.2.2.2.1; omega)).mono ?_
      rintro e w9 ⟨rfl, b9⟩
      have B9 := Lib.hid (B8.out.trans (b9.mono B8.out.size))
      clear b9
      go_wp2_with fail
      go_ret
      exact ⟨rfl, B9.out⟩
    | some q =>
      obtain ⟨l, a, t, nm⟩ := q
      obtain ⟨v5, rfl, r5⟩ := hp5
      obtain ⟨a5, p5, rfl⟩ := r5.shape
      have B5 := fun o => b5.trans ((below_alloc w5 o).mono b5.size)
      have c6 := fun o => rread_any (H.out.1.below (B5 o)) H.out.2.1 (by have := H.out.2.2.2.2; omega)
      rw [HQ.out.1] at c6
      have M5 := Lib.hid (And.intro (heap_alloc_new w5 (.cells #[.bool l, .int .i64 a, .int .i64 t, .slice a5 nm.length p5] 32)) (And.intro (B5 (.cells #[.bool l, .int .i64 a, .int .i64 t, .slice a5 nm.length p5] 32)) (r5.below (below_alloc w5 (.cells #[.bool l, .int .i64 a, .int .i64 t, .slice a5 nm.length p5] 32)))))
      clear b5 B5 r5
      go_wp2_with fail
      refine (c6 _).mono ?_
      rintro e w6 ⟨v6, rfl, r6, b6⟩
      obtain ⟨a6, p6, rfl⟩ := r6.shape
      have m6 := (b6.block _ (blkLt M5.out.1)).trans M5.out.1
      have b7 := below_alloc w6 (.cells #[.bool l, .int .i64 a, .int .i64 t, .slice a6 nm.length p6] 24)
      have m7 := (b7.block _ (blkLt m6)).trans m6
      have n7 := heap_alloc_new w6 (.cells #[.bool l, .int .i64 a, .int .i64 t, .slice a6 nm.length p6] 24)
      obtain ⟨m0, m1, m2, m3, -⟩ := cells4 m7
      obtain ⟨n0, n1, n2, n3, -⟩ := cells4 n7
      have B6 := M5.out.2.1.trans (b6.mono M5.out.2.1.size)
      have B7 := Lib.hid (B6.trans (b7.mono B6.size))
      have c7 := told_any (l := l) (a := a) (t := t) (l' := l) (a' := a) (t' := t) ((M5.out.2.2.below b6).below b7) (r6.below b7)
      rw [toldB_iff.2 ⟨rfl, rfl, rfl, rfl⟩] at c7
      clear c6 b6 m6 m7 n7 B6 b7 r6
      go_wp2_with fail
      refine c7.mono ?_
      rintro e w8 ⟨rfl, b8⟩
      have B8 := Lib.hid (B7.out.trans (b8.mono B7.out.size))
      clear c7 b8
      go_wp2_with fail
      refine (awake16_any (H.out.2.2.1.below B8.out) (by have := B8.out.size; have := H.out.2.2.2.1; omega)).mono ?_
      rintro e w9 ⟨rfl, b9⟩
      have B9 := Lib.hid (B8.out.trans (b9.mono B8.out.size))
      clear b9
      go_wp2_with fail
      go_ret
      exact ⟨rfl, B9.out⟩
#print axioms walk
end Go.Proofs.YtofklfahbhhoiaaDoor.TokenReads
