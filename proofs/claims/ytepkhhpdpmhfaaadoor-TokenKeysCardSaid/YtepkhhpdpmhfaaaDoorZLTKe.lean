/- TokenKeys, for every input. -/
import Derived.Test.YtepkhhpdpmhfaaaDoorZLTMt
import Derived.Test.YtepkhhpdpmhfaaaDoorZTTc
namespace Go.Proofs.YtepkhhpdpmhfaaaDoor.TokenKeys
open Go Go.RowKit

theorem sec2 {M : List T.Nd} {c : Int} (h : T.IsSec M c) : T.kindN M c = 2 := by
  unfold T.kindN
  rw [if_neg (by have := h.2.1; omega), h.1]
  rfl
theorem no {M : List T.Nd} {k j c : Int} {b : ByteArray} (hk : T.IsSec M k) (hj : T.IsSec M j) (hne : k ≠ j) (h : T.IsTok M c k b) : ¬ T.Der M (fun y => y ∈ [j]) false c := by
  obtain ⟨x, _, hd, _, h2⟩ := h
  have k10 : T.kindN M c = 10 := h2.kind
  have j2 := sec2 hj
  refine T.der_shut (fun y hy => ?_) (by omega) (fun e => ?_) (k := k) (by rw [h2.parts]; simp) (sec2 hk) (by simpa using hne)
  · rw [List.mem_singleton] at hy; subst hy; omega
  · rw [List.mem_singleton] at e; subst e; omega
theorem yes {M : List T.Nd} {k c : Int} {b : ByteArray} (hk : T.IsSec M k) (h : T.IsTok M c k b) : T.Der M (fun y => y ∈ [k]) false c := by
  obtain ⟨x, h0, hd, h1, h2⟩ := h
  refine T.der_parts h2 (by decide) (by decide) fun y hy => ?_
  simp only [List.mem_cons, List.not_mem_nil, or_false] at hy
  rcases hy with rfl | rfl | rfl
  · exact .fo (.base (by simp) hk.2.1 hk.2.2)
  · exact T.der_text h1
  · exact T.der_text h0
theorem bk {v v' : World} {k : Nat} {o : Obj} (hb : Below v.heap.size v v') (h : v.heap[k]? = some o) : v'.heap[k]? = some o := (hb.block _ (blkLt h)).trans h

set_option maxRecDepth 20000 in
set_option maxHeartbeats 4000000 in
theorem walk {w : World} {ao : Option Addr} {cap : Nat} {nm : List Int} {l : Bool} {a t : Int} (hr : Rd w (.slice ao nm.length cap) nm) (ht : Tab w) (hw : 1 < w.heap.size) :
    Calls Tryd.prog 3 #[.agg #[.bool l, .int .i64 a, .int .i64 t, .slice ao nm.length cap]] w fun e w' => e = .returned (.bool true) ∧ Below w.heap.size w w' := by
  obtain ⟨X, hX⟩ : ∃ X, w.alloc (.cells #[.bool l, .int .i64 a, .int .i64 t, .slice ao nm.length cap] 24) = X := ⟨_, rfl⟩
  have hbX : Below w.heap.size w X := by rw [← hX]; exact (Below.refl _ _).alloc (Nat.le_refl _) _
  have hA : X.heap[w.heap.size]? = some (.cells #[.bool l, .int .i64 a, .int .i64 t, .slice ao nm.length cap] 24 (0, 0)) := by rw [← hX]; exact heap_alloc_new w _
  have tX := ht.below hbX
  have wX : 1 < X.heap.size := by have := hbX.size; omega
  have rX := hr.below hbX
  have H := Lib.hid (And.intro hbX (And.intro hA (And.intro tX (And.intro wX rX))))
  obtain ⟨x0, x1, x2, x3, -⟩ := cells4 hA
  clear hr ht hw hbX hA tX wX rX
  by_cases hlen : 50 < nm.length
  · have hl : 50 < (nm.length : Int) := by omega
    go_enter Tryd.func3, Tryd.ntmps3
    go_wp2_with fail
    go_ret
    exact ⟨rfl, H.out.1⟩
  · have hl : ¬ 50 < (nm.length : Int) := by omega
    have HL := Lib.hid hlen
    clear hlen
    go_enter Tryd.func3, Tryd.ntmps3
    go_wp2_with fail
    refine (T.St.new X).mono ?_
    rintro e w1 ⟨tb, mb, rfl, s1⟩
    have g1 : T.Gd X w1 tb mb [] 0 [] := ⟨T.Sg.of_st s1, T.good_nil, Nat.le_refl _⟩
    have c1 := g1.secretG (by omega)
    clear s1 g1
    go_wp2_with fail
    refine c1.mono ?_
    rintro e w2 ⟨N2, k, rfl, g2, -, f2, -⟩
    have c2 := g2.secretG (by omega)
    have F2 := Lib.hid f2
    clear c1 g2 f2
    go_wp2_with fail
    refine c2.mono ?_
    rintro e w3 ⟨N3, j, rfl, g3, p3, f3, j3⟩
    have F3 := Lib.hid (And.intro (F2.out.ext p3) (And.intro f3 (show k ≠ j by have := F2.out.2.2; omega)))
    obtain ⟨y0, y1, y2, y3, y4⟩ := cells4 (bk g3.st.bel H.out.2.1)
    have cof := of_any (l := l) (a := a) (t := t) (H.out.2.2.2.2.below g3.st.bel) (by have := HL.out; omega)
    have G3 := Lib.hid g3
    clear c2 g3 p3 f3 j3 F2 x0 x1 x2 x3
    go_wp2_with fail
    refine cof.mono ?_
    clear cof
    rintro e w4 ⟨v4, rfl, r4, b4⟩
    obtain ⟨a4, p4, rfl⟩ := r4.shape'
    have hmint := TokenUnlike.mint_any (l := l) (a := a) (t := t) (G3.out.keep b4) F3.out.1.2 r4 H.out.2.2.1 H.out.2.2.2.1 (by omega)
    clear r4 b4
    go_wp2_with fail
    refine hmint.mono ?_
    clear hmint
    rintro e w5 ⟨N5, c, rfl, g5, p5, f5⟩
    have G5 := Lib.hid g5
    rcases f5 with hc | ⟨hc, ok5, tk5⟩
    · have q1 : (c == 0) = true := by simp [hc]
      clear hc g5 p5
      go_wp2_with fail
      refine (awake16_any (H.out.2.2.1.below G5.out.st.bel) (by have := G5.out.st.bel.size; have := H.out.2.2.2.1; omega)).mono ?_
      rintro e w7 ⟨rfl, b7⟩
      have B7 := Lib.hid (G5.out.st.bel.trans (b7.mono G5.out.st.bel.size))
      clear b7
      go_wp2_with fail
      go_ret
      exact ⟨rfl, H.out.1.trans (B7.out.mono H.out.1.size)⟩
    · have q1 : (c == 0) = false := by simp [hc]
      have hk5 := F3.out.1.ext p5
      have hj5 := F3.out.2.1.ext p5
      have NO := Lib.hid (no hk5 hj5 F3.out.2.2 tk5)
      have YES := Lib.hid (yes hk5 tk5)
      have hlook := look_shut (w0 := X) g5 (k := j) (m := c) (by
        obtain ⟨x, _, hs⟩ := tk5
        exact Shut.seal hs fun e => F3.out.2.2 e.1)
      have hcr : 1 ≤ c ∧ c ≤ (N5.length : Int) := by
        obtain ⟨x, _, hs⟩ := tk5
        exact hs.rng
      have HW := Lib.hid (And.intro (T.wfN hcr.1 hcr.2 g5.len (by omega)) (And.intro (T.wfN hj5.2.1 hj5.2.2 g5.len (by omega)) (T.wfN hk5.2.1 hk5.2.2 g5.len (by omega))))
      clear hc g5 p5 tk5 hk5 hj5 hcr
      go_wp2_with fail
      refine hlook.mono ?_
      clear hlook
      rintro e w6 ⟨he, g6, b6⟩
      have he' : e = .returned (.tuple #[.agg #[.bool false, .int .i64 0, .int .i64 0, .slice none 0 0], .int .i64 14]) := he
      subst he'
      clear he
      have G6 := Lib.hid g6
      clear g6 b6
      obtain ⟨z0, z1, z2, z3, -⟩ := cells4 (heap_alloc_new w6 (.cells #[.bool false, .int .i64 0, .int .i64 0, .slice none 0 0] 30))
      have htold := told_any (w := w6.alloc (.cells #[.bool false, .int .i64 0, .int .i64 0, .slice none 0 0] 30)) (l := false) (a := 0) (t := 0) (l' := false) (a' := 0) (t' := 0) (Rd.nil _) (Rd.nil _)
      go_wp2_with fail
      refine htold.mono ?_
      clear htold
      rintro e w7 ⟨rfl, b7⟩
      have hT : toldB false 0 0 [] false 0 0 [] = true := rfl
      rw [hT]
      have g7 := G6.out.keep ((below_alloc w6 (.cells #[.bool false, .int .i64 0, .int .i64 0, .slice none 0 0] 30)).trans (b7.mono (by simp)))
      have hcan1 := (g7.keep (below_alloc w7 (.cells (T.cs .i64 [j]).toArray 27))).canG (by omega) (T.Rd.lit .i64 27 w7 [j] (by simp)) (fun y hy => by rw [List.mem_singleton] at hy; rw [hy]; exact HW.out.2.1) HW.out.1
      clear b7 g7 z0 z1 z2 z3 hT
      go_wp2_with fail
      refine hcan1.mono ?_
      clear hcan1
      rintro e w8 ⟨b8, rfl, hb8, g8⟩
      obtain rfl : b8 = false := by rw [← Bool.not_eq_true, hb8]; exact NO.out
      have hcan2 := (g8.keep (below_alloc w8 (.cells (T.cs .i64 [k]).toArray 27))).canG (by omega) (T.Rd.lit .i64 27 w8 [k] (by simp)) (fun y hy => by rw [List.mem_singleton] at hy; rw [hy]; exact HW.out.2.2) HW.out.1
      clear hb8 g8
      go_wp2_with fail
      refine hcan2.mono ?_
      clear hcan2
      rintro e w9 ⟨b9, rfl, hb9, g9⟩
      obtain rfl : b9 = true := hb9.2 YES.out
      have B9 := Lib.hid g9.st.bel
      clear hb9 g9
      go_wp2_with fail
      refine (awake16_any (H.out.2.2.1.below B9.out) (by have := B9.out.size; have := H.out.2.2.2.1; omega)).mono ?_
      rintro e w10 ⟨rfl, b10⟩
      have B10 := Lib.hid (B9.out.trans (b10.mono B9.out.size))
      clear b10
      go_wp2_with fail
      go_ret
      exact ⟨rfl, H.out.1.trans (B10.out.mono H.out.1.size)⟩
#print axioms walk
end Go.Proofs.YtepkhhpdpmhfaaaDoor.TokenKeys
