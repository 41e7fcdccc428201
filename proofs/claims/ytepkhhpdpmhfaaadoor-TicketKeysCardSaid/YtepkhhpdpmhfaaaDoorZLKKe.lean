/- TicketKeys, for every input. -/
import Derived.Test.YtepkhhpdpmhfaaaDoorZKRdm
import Derived.Test.YtepkhhpdpmhfaaaDoorZTTc
namespace Go.Proofs.YtepkhhpdpmhfaaaDoor.TicketKeys
open Go Go.RowKit

theorem sec2 {M : List T.Nd} {c : Int} (h : T.IsSec M c) : T.kindN M c = 2 := by
  unfold T.kindN
  rw [if_neg (by have := h.2.1; omega), h.1]
  rfl
theorem no_s {M : List T.Nd} {k j s c : Int} {b : ByteArray} (hk : T.IsSec M k) (hj : T.IsSec M j) (hs : T.IsSec M s) (hkj : k ≠ j) (hjs : j ≠ s) (h : T.IsTick M c k b s) : ¬ T.Der M (fun y => y ∈ [c, j]) false s := by
  obtain ⟨x, r, _, _, hd, _, h2⟩ := h
  have k10 : T.kindN M c = 10 := h2.kind
  refine T.der_sealed_no (h := c) (k := k) (by rw [h2.parts]; rfl) (sec2 hk) (fun y hy => ?_) (sec2 hs) (fun e => ?_) k10
  · simp only [List.mem_cons, List.not_mem_nil, or_false] at hy
    rcases hy with rfl | rfl
    · exact .inl rfl
    · exact .inr ⟨sec2 hj, fun e => hkj e.symm⟩
  · simp only [List.mem_cons, List.not_mem_nil, or_false] at e
    rcases e with rfl | rfl
    · have := sec2 hs; omega
    · exact hjs rfl
theorem no_c {M : List T.Nd} {k j s c : Int} {b : ByteArray} (hk : T.IsSec M k) (hj : T.IsSec M j) (hs : T.IsSec M s) (hkj : k ≠ j) (hks : k ≠ s) (h : T.IsTick M c k b s) : ¬ T.Der M (fun y => y ∈ [s, j]) false c := by
  obtain ⟨x, r, _, _, hd, _, h2⟩ := h
  have k10 : T.kindN M c = 10 := h2.kind
  have j2 := sec2 hj
  have s2 := sec2 hs
  refine T.der_shut (fun y hy => ?_) (by omega) (fun e => ?_) (k := k) (by rw [h2.parts]; simp) (sec2 hk) (fun e => ?_)
  · simp only [List.mem_cons, List.not_mem_nil, or_false] at hy
    rcases hy with rfl | rfl <;> omega
  · simp only [List.mem_cons, List.not_mem_nil, or_false] at e
    rcases e with rfl | rfl <;> omega
  · simp only [List.mem_cons, List.not_mem_nil, or_false] at e
    rcases e with rfl | rfl
    · exact hks rfl
    · exact hkj rfl
theorem yes_s {M : List T.Nd} {k s c : Int} {b : ByteArray} (hk : T.IsSec M k) (h : T.IsTick M c k b s) : T.Der M (fun y => y ∈ [c, k]) false s := by
  obtain ⟨x, r, h0, hr, hd, h1, h2⟩ := h
  have k10 : T.kindN M c = 10 := h2.kind
  have k3 : T.kindN M r = 3 := hr.kind
  have hc : T.Der M (fun y => y ∈ [c, k]) true c := .base (by simp) h2.pos h2.le
  have hkk : T.Der M (fun y => y ∈ [c, k]) false k := .fo (.base (by simp) hk.2.1 hk.2.2)
  have e0 : (T.partsN M c).getD 0 0 = k := by rw [h2.parts]; rfl
  have e2 : (T.partsN M c).getD 2 0 = r := by rw [h2.parts]; rfl
  have hrr : T.Der M (fun y => y ∈ [c, k]) true r := e2 ▸ .sealed hc k10 (e0.symm ▸ hkk)
  exact .fo (.row hrr k3 (by rw [hr.parts]; simp))
theorem bk {v v' : World} {k : Nat} {o : Obj} (hb : Below v.heap.size v v') (h : v.heap[k]? = some o) : v'.heap[k]? = some o := (hb.block _ (blkLt h)).trans h

set_option maxRecDepth 20000 in
set_option maxHeartbeats 4000000 in
theorem walk {w : World} {v t l : Int} (ht64 : -9223372036854775808 ≤ t ∧ t ≤ 9223372036854775807) (ht : Tab w) (hw : 1 < w.heap.size) :
    Calls Tryd.prog 4 #[.agg #[.int .i64 v, .int .i64 t, .int .i64 l]] w fun e w' => e = .returned (.bool true) ∧ Below w.heap.size w w' := by
  obtain ⟨X, hX⟩ : ∃ X, w.alloc (.cells #[.int .i64 v, .int .i64 t, .int .i64 l] 41) = X := ⟨_, rfl⟩
  have hbX : Below w.heap.size w X := by rw [← hX]; exact below_alloc w _
  have hA : X.heap[w.heap.size]? = some (.cells #[.int .i64 v, .int .i64 t, .int .i64 l] 41 (0, 0)) := by rw [← hX]; exact heap_alloc_new w _
  have H := Lib.hid (And.intro hbX (And.intro hA (And.intro (ht.below hbX) (And.intro (show 1 < X.heap.size by have := hbX.size; omega) ht64))))
  clear ht hw hbX hA ht64
  go_enter Tryd.func4, Tryd.ntmps4
  go_wp2_with fail
  refine (T.St.new X).mono ?_
  rintro e w1 ⟨tb, mb, rfl, s1⟩
  have g1 : T.Gd X w1 tb mb [] 0 [] := ⟨T.Sg.of_st s1, T.good_nil, Nat.le_refl _⟩
  have c1 := g1.secretG (by omega)
  clear s1 g1
  go_wp2_with fail
  refine c1.mono ?_
  rintro e w2 ⟨N2, k, rfl, g2, -, f2, -⟩
  have c2 := g2.secretG (by omega)
  have H2 := Lib.hid f2
  clear c1 g2 f2
  go_wp2_with fail
  refine c2.mono ?_
  rintro e w3 ⟨N3, j, rfl, g3, p3, f3, j3⟩
  have c3 := g3.secretG (by omega)
  have H3 := Lib.hid (And.intro (H2.out.ext p3) (And.intro f3 (show k < j by have := H2.out.2.2; omega)))
  clear c2 g3 p3 f3 j3 H2
  go_wp2_with fail
  refine c3.mono ?_
  rintro e w4 ⟨N4, s, rfl, g4, p4, f4, j4⟩
  have H4 := Lib.hid (And.intro (H3.out.1.ext p4) (And.intro (H3.out.2.1.ext p4) (And.intro f4 (And.intro H3.out.2.2 (show j < s by have := H3.out.2.1.2.2; omega)))))
  obtain ⟨x0, x1, x2, -⟩ := cells3 (bk g4.st.bel H.out.2.1)
  clear c3 p4 f4 j4 H3
  cases hok : tickOk v t l with
  | false =>
    have c4 := issue_no (k := k) (s := s) g4 hok H.out.2.2.1 H.out.2.2.2.1
    clear g4 hok
    go_wp2_with fail
    refine c4.mono ?_
    rintro e w5 ⟨rfl, g5, -⟩
    have B5 := Lib.hid g5.st.bel
    clear c4 g5 x0 x1 x2
    go_wp2_with fail
    refine (awake17_any (H.out.2.2.1.below B5.out) (Nat.lt_of_lt_of_le H.out.2.2.2.1 B5.out.size)).mono ?_
    rintro e w7 ⟨rfl, b7⟩
    have B7 := Lib.hid (B5.out.trans (b7.mono B5.out.size))
    clear b7
    go_wp2_with fail
    go_ret
    exact ⟨rfl, H.out.1.trans (B7.out.mono H.out.1.size)⟩
  | true =>
    have c4 := issue_yes g4 hok H4.out.1.2 H4.out.2.2.1.2 H.out.2.2.1 H.out.2.2.2.1 (by omega)
    clear g4 hok
    go_wp2_with fail
    refine c4.mono ?_
    rintro e w5 ⟨N5, c, rfl, g5, p5, f5⟩
    have hk5 := H4.out.1.ext p5
    have hj5 := H4.out.2.1.ext p5
    have hs5 := H4.out.2.2.1.ext p5
    have hkj : k ≠ j := by have := H4.out.2.2.2.1; omega
    have hjs : j ≠ s := by have := H4.out.2.2.2.2; omega
    have hks : k ≠ s := by have := H4.out.2.2.2.1; have := H4.out.2.2.2.2; omega
    have NO1 := Lib.hid (no_s hk5 hj5 hs5 hkj hjs f5)
    have NO2 := Lib.hid (no_c hk5 hj5 hs5 hkj hks f5)
    have YES := Lib.hid (yes_s hk5 f5)
    have q1 : (c == 0) = false := beq_eq_false_iff_ne.2 f5.ne
    have hcr : 1 ≤ c ∧ c ≤ (N5.length : Int) := by
      obtain ⟨x, r, _, _, hsl⟩ := f5
      exact hsl.rng
    obtain ⟨_, r, _, _, hsl⟩ := f5
    have hred := redeem_any g5 (k := j) (m := c) (r := none) (fun w1 g => klook_shut g (Shut.seal hsl fun e => hkj e.1)) H.out.2.2.2.2 (fun x hx => by cases hx)
    rw [show rdm none t = (14, none) from rfl] at hred
    have HW := Lib.hid (And.intro (T.wfN hcr.1 hcr.2 g5.len (by omega)) (And.intro (T.wfN hj5.2.1 hj5.2.2 g5.len (by omega)) (And.intro (T.wfN hk5.2.1 hk5.2.2 g5.len (by omega)) (T.wfN hs5.2.1 hs5.2.2 g5.len (by omega)))))
    obtain ⟨y0, y1, y2, -⟩ := cells3 (bk g5.st.bel H.out.2.1)
    clear c4 g5 p5 hsl hk5 hj5 hs5 hcr x0 x1 x2 hkj hjs hks
    go_wp2_with fail
    refine hred.mono ?_
    clear hred
    rintro e w6 ⟨he, g6, b6⟩
    have he' : e = .returned (.tuple #[.agg #[.int .i64 0, .int .i64 0, .int .i64 0, .int .i64 0], .int .i64 14]) := he
    subst he'
    clear he b6 y0 y1 y2
    have hcan1 := ((g6.keep (below_alloc w6 zTk)).keep (below_alloc (w6.alloc zTk) (.cells (T.cs .i64 [c, j]).toArray 27))).canG (by omega) (T.Rd.lit .i64 27 (w6.alloc zTk) [c, j] (by simp)) (fun y hy => by simp only [List.mem_cons, List.not_mem_nil, or_false] at hy; rcases hy with rfl | rfl; exact HW.out.1; exact HW.out.2.1) HW.out.2.2.2
    rw [World.size_alloc] at hcan1
    clear g6
    go_wp2_with fail
    refine hcan1.mono ?_
    clear hcan1
    rintro e w8 ⟨b8, rfl, hb8, g8⟩
    obtain rfl : b8 = false := by rw [← Bool.not_eq_true, hb8]; exact NO1.out
    have hcan2 := (g8.keep (below_alloc w8 (.cells (T.cs .i64 [c, k]).toArray 27))).canG (by omega) (T.Rd.lit .i64 27 w8 [c, k] (by simp)) (fun y hy => by simp only [List.mem_cons, List.not_mem_nil, or_false] at hy; rcases hy with rfl | rfl; exact HW.out.1; exact HW.out.2.2.1) HW.out.2.2.2
    clear hb8 g8
    go_wp2_with fail
    refine hcan2.mono ?_
    clear hcan2
    rintro e w9 ⟨b9, rfl, hb9, g9⟩
    obtain rfl : b9 = true := hb9.2 YES.out
    have hcan3 := (g9.keep (below_alloc w9 (.cells (T.cs .i64 [s, j]).toArray 27))).canG (by omega) (T.Rd.lit .i64 27 w9 [s, j] (by simp)) (fun y hy => by simp only [List.mem_cons, List.not_mem_nil, or_false] at hy; rcases hy with rfl | rfl; exact HW.out.2.2.2; exact HW.out.2.1) HW.out.1
    clear hb9 g9
    go_wp2_with fail
    refine hcan3.mono ?_
    clear hcan3
    rintro e w10 ⟨b10, rfl, hb10, g10⟩
    obtain rfl : b10 = false := by rw [← Bool.not_eq_true, hb10]; exact NO2.out
    have B9 := Lib.hid g10.st.bel
    clear hb10 g10
    go_wp2_with fail
    refine (awake17_any (H.out.2.2.1.below B9.out) (Nat.lt_of_lt_of_le H.out.2.2.2.1 B9.out.size)).mono ?_
    rintro e w11 ⟨rfl, b11⟩
    have B10 := Lib.hid (B9.out.trans (b11.mono B9.out.size))
    clear b11
    go_wp2_with fail
    go_ret
    exact ⟨rfl, H.out.1.trans (B10.out.mono H.out.1.size)⟩
#print axioms walk
end Go.Proofs.YtepkhhpdpmhfaaaDoor.TicketKeys
