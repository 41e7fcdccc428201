/- SpecialAsks' walk. -/
import Derived.Test.YtkmjdpnbakcgcaaQRa
namespace Go.Proofs.Ytkmjdpnbakcgcaa
open Go Go.RowKit

theorem cells5 {w : World} {M : Nat} {T : TypeId} {c0 c1 c2 c3 c4 : Value} (h : w.heap[M]? = some (.cells #[c0, c1, c2, c3, c4] T (0, 0))) :
    w.cell? ⟨M, 0, none⟩ = some c0 ∧ w.cell? ⟨M, 1, none⟩ = some c1 ∧ w.cell? ⟨M, 2, none⟩ = some c2 ∧ w.cell? ⟨M, 3, none⟩ = some c3 ∧ w.cell? ⟨M, 4, none⟩ = some c4 ∧ ∀ j, w.frozen? ⟨M, j, none⟩ = false :=
  ⟨(cell_of_row w M 0 _ _ (0, 0) h).trans rfl, (cell_of_row w M 1 _ _ (0, 0) h).trans rfl, (cell_of_row w M 2 _ _ (0, 0) h).trans rfl, (cell_of_row w M 3 _ _ (0, 0) h).trans rfl, (cell_of_row w M 4 _ _ (0, 0) h).trans rfl, fun j => by simp [World.frozen?, h]⟩
variable {w0 w : World} {tb mb n : Nat} {N : List T.Nd} {rs : List (Nat × Obj)}
/-- A guest's box is written. -/
theorem gd_set {g : Nat} {c : Array Value} {e : TypeId} {us : List (Nat × Obj)} (h : T.Gd w0 w tb mb N n ((g, .cells c e (0, 0)) :: us)) (hne : ∀ u ∈ us, u.1 ≠ g) (he : e ≠ 29) (hlo : w0.heap.size ≤ g) (i : Nat) (v : Value) :
    T.Gd w0 (w.setCell ⟨g, i, none⟩ v) tb mb N n ((g, .cells (c.setIfInBounds i v) e (0, 0)) :: us) := by
  obtain ⟨nv, ht, hr⟩ := h.st.tab
  obtain ⟨L, hL, e1, e2⟩ := ht.ex
  obtain ⟨x1, x2, x3⟩ := hr _ List.mem_cons_self
  have hg := h.st.own _ List.mem_cons_self
  have hblk : ∀ k, k ≠ g → (w.setCell ⟨g, i, none⟩ v).heap[k]? = w.heap[k]? := fun k hk => Below.heap_setCell w ⟨g, i, none⟩ v k hk
  refine ⟨⟨⟨nv, ⟨L, hL.same fun k hk => hblk k ?_, e1, fun _ hv => by cases hv⟩, fun r hm => ?_⟩, fun r hm => ?_, h.st.bel.setCell hlo v⟩, h.good, h.len⟩
  · rcases hk with rfl | rfl | hk | ⟨p, hp, hk⟩
    · exact fun e => x1 e.symm
    · exact fun e => x2 e.symm
    · rintro rfl; exact x3 hk.symm
    · rintro rfl
      obtain ⟨cur, hc⟩ := T.own_blk (hL.parts p hp) hk
      simp only at hg
      rw [hg] at hc; cases hc; exact he rfl
  · rcases List.mem_cons.1 hm with rfl | hm
    · exact ⟨x1, x2, x3⟩
    · exact hr r (List.mem_cons_of_mem _ hm)
  · rcases List.mem_cons.1 hm with rfl | hm
    · exact heap_setCell_same w g i c e v hg
    · show (w.setCell ⟨g, i, none⟩ v).heap[r.1]? = some r.2
      rw [hblk r.1 (hne r hm)]; exact h.st.own r (List.mem_cons_of_mem _ hm)
theorem untB_nil {ver tok : Int} {to fr : List Int} : untB ver to fr tok = [] ↔ retryB ver to fr tok 1 = false := by
  unfold untB
  cases hb : retryB ver to fr tok 1 with
  | false => simp
  | true => simp [headBs]
theorem untB_byt {ver tok : Int} {to fr : List Int} (h2 : Byt to) (h3 : Byt fr) : Byt (untB ver to fr tok) := by
  unfold untB
  split
  · rename_i h
    simp only [retryB, Bool.and_eq_true, decide_eq_true_eq] at h
    exact (headBs_byt (by omega) h2 h3 (by omega) (by omega)).app (numB_byt _)
  · exact Byt.nil
/-- Of another version the bytes are others. -/
theorem untB_ver {ver ver' tok : Int} {to fr : List Int} (h : retryB ver to fr tok 1 = true) (h' : retryB ver' to fr tok 1 = true) (hv : ver' ≠ ver) : untB ver to fr tok ≠ untB ver' to fr tok := by
  intro e
  unfold untB at e
  rw [h, h'] at e
  simp only [if_true] at e
  have e1 := List.append_cancel_right e
  unfold headBs at e1
  simp only [List.append_assoc] at e1
  have e2 := List.append_cancel_left e1
  have e3 := List.append_inj_left e2 (by rw [big_len, big_len])
  simp only [retryB, verB, Bool.and_eq_true, decide_eq_true_eq] at h h'
  simp only [big, List.cons.injEq, and_true] at e3
  omega
theorem tagged_self (g : ByteArray) {u : List Int} (hu : u ≠ []) : taggedB g (T.bstr u) g u = true := by
  unfold taggedB
  rw [T.seq_eq, T.seq_eq, decide_eq_true hu]; simp
theorem tagged_goal {zg zo u : List Int} (hg : Byt zg) (ho : Byt zo) (hu : u ≠ []) : taggedB (T.bstr zg) (T.bstr u) (T.bstr zo) u = decide (zg = zo) := by
  unfold taggedB
  rw [T.seq_eq, T.seq_eq, decide_eq_true hu]
  by_cases h : zg = zo
  · subst h; simp
  · rw [decide_eq_false h, decide_eq_false (fun e => h (bstr_inj hg ho e))]; simp
theorem tagged_other (g g' : ByteArray) {u u' : List Int} (h1 : Byt u) (h2 : Byt u') (h : u ≠ u') : taggedB g (T.bstr u) g' u' = false := by
  unfold taggedB
  rw [T.seq_eq, T.seq_eq, decide_eq_false (fun e => h (bstr_inj h1 h2 e))]; simp

set_option maxRecDepth 20000 in
set_option maxHeartbeats 4000000 in
theorem asks_ok {w : World} {a2 a3 b2 b3 ga oa : Option Addr} {c2 c3 d2 d3 gc oc : Nat} {to fr tp fp zg zo : List Int} {ver tok tag vr tk tg : Int} {gz : Int}
    (h2 : Rd w (.slice a2 to.length c2) to) (h3 : Rd w (.slice a3 fr.length c3) fr) (hg : Rd w (.slice ga zg.length gc) zg) (ho : Rd w (.slice oa zo.length oc) zo)
    (l2 : to.length ≤ 50) (l3 : fr.length ≤ 50) (lg : zg.length ≤ 50) (lo : zo.length ≤ 50) (hz : 0 ≤ gz ∧ gz ≤ 255) :
    Calls Try.prog 4 #[.agg #[.int .i64 ver, .slice a2 to.length c2, .slice a3 fr.length c3, .int .i64 tok, .int .i64 tag, .int .i64 vr, .slice b2 tp.length d2, .slice b3 fp.length d3, .int .i64 tk, .int .i64 tg, .slice ga zg.length gc, .slice oa zo.length oc], .int .u8 gz] w fun e w' => e = .returned (.bool true) ∧ Below w.heap.size w w' := by
  have t2 : decide ((50 : Int) < (to.length : Int)) = false := decide_eq_false (by omega)
  have t3 : decide ((50 : Int) < (fr.length : Int)) = false := decide_eq_false (by omega)
  have tg' : decide ((50 : Int) < (zg.length : Int)) = false := decide_eq_false (by omega)
  have to' : decide ((50 : Int) < (zo.length : Int)) = false := decide_eq_false (by omega)
  obtain ⟨R, hR⟩ : ∃ R : Int, gz.tmod 20 = R := ⟨_, rfl⟩
  have hR0 : 0 ≤ R ∧ R < 20 := by
    rw [← hR, Int.tmod_eq_emod_of_nonneg hz.1]
    omega
  have hz0 := hz.1
  have hz1 := hz.2
  have H := Lib.hid (And.intro h2 (And.intro h3 (And.intro hg (And.intro ho (And.intro l2 (And.intro l3 (And.intro lg lo)))))))
  clear h2 h3 hg ho l2 l3 lg lo hz
  go_enter Try.func4, Try.ntmps4
  go_wp2_with fail
  go_region
  obtain ⟨X, hX⟩ : ∃ X, X = ((w.alloc (.cells #[.int .i64 ver, .slice a2 to.length c2, .slice a3 fr.length c3, .int .i64 tok, .int .i64 tag, .int .i64 vr, .slice b2 tp.length d2, .slice b3 fp.length d3, .int .i64 tk, .int .i64 tg, .slice ga zg.length gc, .slice oa zo.length oc] 26)).alloc (.cells #[.int .i64 ver, .slice a2 to.length c2, .slice a3 fr.length c3, .int .i64 tok, .int .i64 tag] 24)).drew := ⟨_, rfl⟩
  have hbX : Below w.heap.size w X := by rw [hX]; exact ((below_alloc w _).trans ((below_alloc _ _).mono (below_alloc w _).size)).drew
  have hA : X.heap[w.heap.size + 1]? = some (.cells #[.int .i64 ver, .slice a2 to.length c2, .slice a3 fr.length c3, .int .i64 tok, .int .i64 tag] 24 (0, 0)) := by
    rw [hX]
    have := heap_alloc_new (w.alloc (.cells #[.int .i64 ver, .slice a2 to.length c2, .slice a3 fr.length c3, .int .i64 tok, .int .i64 tag, .int .i64 vr, .slice b2 tp.length d2, .slice b3 fp.length d3, .int .i64 tk, .int .i64 tg, .slice ga zg.length gc, .slice oa zo.length oc] 26)) (.cells #[.int .i64 ver, .slice a2 to.length c2, .slice a3 fr.length c3, .int .i64 tok, .int .i64 tag] 24)
    rw [World.size_alloc] at this
    exact this
  rw [← hX]
  obtain ⟨x0, x1, x2, x3, x4, _⟩ := cells5 hA
  have HX := Lib.hid (And.intro hbX hA)
  clear hX hbX hA
  go_wp2_with fail
  refine (T.St.new X).mono ?_
  rintro e w1 ⟨tb, mb, rfl, s1⟩
  have g1 : T.Gd X w1 tb mb [] 0 [] := ⟨T.Sg.of_st s1, T.good_nil, Nat.le_refl _⟩
  have hb1 := s1.bel
  have hA1 := (hb1.block _ (blk_lt' HX.out.2)).trans HX.out.2
  obtain ⟨y0, y1, y2, y3, y4, _⟩ := cells5 hA1
  have c3 := retry_ra (ver := ver) (tok := tok) (tag := tag) ((H.out.1.below HX.out.1).below hb1) ((H.out.2.1.below HX.out.1).below hb1) (by have := H.out.2.2.2.2.1; omega) (by have := H.out.2.2.2.2.2.1; omega)
  have HG1 := Lib.hid g1
  clear x0 x1 x2 x3 x4 s1 g1 hb1 hA1
  go_wp2_with fail
  refine c3.mono ?_
  rintro e w3 ⟨u2, u3, rfl, ⟨r2, r3⟩, hb3⟩
  obtain ⟨v1, k1, k2, k3, k4⟩ := gd_row HG1.out hb3 (HG1.out.keep hb3) (fun u hu => by cases hu) r2
  obtain ⟨v2, m1, m2, m3, m4⟩ := gd_row HG1.out hb3 k1 (fun u hu => by
    rcases k4 u hu with h | h
    · cases h
    · exact .inr h) r3
  obtain ⟨p2, e2, rfl⟩ := r2.rd.shape
  obtain ⟨p3, e3, rfl⟩ := r3.rd.shape
  have hw3 : X.heap.size ≤ w3.heap.size := m1.st.bel.size
  have G3 := Lib.hid (And.intro m1 (And.intro (k3.sub m2) (And.intro m3 (And.intro r2.rd (And.intro r3.rd hw3)))))
  clear c3 y0 y1 y2 y3 y4 HG1 k1 k2 k3 k4 m1 m2 m3 m4 r2 r3 hb3 hw3
  -- the box of x
  have gY : T.Gd X (w3.alloc (.cells #[.int .i64 ver, .slice p2 to.length e2, .slice p3 fr.length e3, .int .i64 tok, .int .i64 (R + 1)] 32)) tb mb [] 0 ((w3.heap.size, .cells #[.int .i64 ver, .slice p2 to.length e2, .slice p3 fr.length e3, .int .i64 tok, .int .i64 (R + 1)] 32) :: v2) := ⟨G3.out.1.st.guest _ _ rfl, G3.out.1.good, G3.out.1.len⟩
  have hbY := below_alloc w3 (.cells #[.int .i64 ver, .slice p2 to.length e2, .slice p3 fr.length e3, .int .i64 tok, .int .i64 (R + 1)] 32)
  have c4 := tagged_none (gv := .slice ga zg.length gc) (ver := ver) (tok := tok) gY (G3.out.2.2.2.1.below hbY) (G3.out.2.2.2.2.1.below hbY) (tag := R + 1) (.inr (by simp only [List.length_nil]; omega))
  have GY := Lib.hid (And.intro gY hbY)
  clear gY hbY
  go_wp2_with fail
  refine c4.mono ?_
  rintro e w4 ⟨rfl, hb4⟩
  have g4 := GY.out.1.keep hb4
  have c5 := g4.sizeG
  clear c4
  go_wp2_with fail
  refine c5.mono ?_
  rintro e w5 ⟨rfl, rfl⟩
  have hbx := g4.st.own _ List.mem_cons_self
  simp only at hbx
  obtain ⟨x0, x1, x2, x3, x4, xf⟩ := cells5 hbx
  have hs2 : ∀ r ∈ v2, w4.heap[r.1]? = some r.2 := fun r hr => g4.st.own r (List.mem_cons_of_mem _ hr)
  have q2 := G3.out.2.2.2.1.guest G3.out.2.1 (fun r hr => G3.out.1.st.own r hr) hs2
  have q3 := G3.out.2.2.2.2.1.guest G3.out.2.2.1 (fun r hr => G3.out.1.st.own r hr) hs2
  have hne : ∀ u ∈ v2, u.1 ≠ w3.heap.size := fun u hu => by have := blk_lt' (G3.out.1.st.own u hu); omega
  have G4 := Lib.hid (And.intro g4 (And.intro q2 (And.intro q3 hne)))
  clear c5 hb4 hbx hs2 hne
  by_cases hu : untB ver to fr tok = []
  · have c6 := tag_no (tag := R + 1) g4 (H.out.2.2.1.below HX.out.1) q2 q3 hu
    clear g4 q2 q3 hu
    go_wp2_with fail
    refine c6.mono ?_
    rintro e w6 ⟨rfl, g6⟩
    have hbx := g6.st.own _ List.mem_cons_self
    simp only at hbx
    clear x0 x1 x2 x3 x4 xf
    obtain ⟨x0, x1, x2, x3, x4, xf⟩ := cells5 hbx
    have gs := gd_set g6 G4.out.2.2.2 (by decide) G3.out.2.2.2.2.2 4 (.int .i64 0)
    have HB := Lib.hid (HX.out.1.trans (gs.st.bel.mono HX.out.1.size))
    have hgs := gs.st.own _ List.mem_cons_self
    simp only at hgs
    obtain ⟨z0, z1, z2, z3, z4, zf⟩ := cells5 hgs
    clear c6 g6 gs hbx hgs
    go_wp2_with fail
    refine (qawake_any _).mono ?_
    rintro e w7 ⟨rfl, hb7⟩
    go_wp2_with fail
    go_ret
    exact ⟨rfl, HB.out.trans (hb7.mono HB.out.size)⟩
  · have c6 := tag_yes (tag := R + 1) g4 (H.out.2.2.1.below HX.out.1) H.out.2.2.2.2.2.2.1 q2 q3 hu (by omega)
    have HU := Lib.hid hu
    clear g4 q2 q3 hu
    go_wp2_with fail
    refine c6.mono ?_
    rintro e w6 ⟨N6, c, rfl, g6, _, f6⟩
    have hbx := g6.st.own _ List.mem_cons_self
    simp only at hbx
    clear x0 x1 x2 x3 x4 xf
    obtain ⟨x0, x1, x2, x3, x4, xf⟩ := cells5 hbx
    have gs := gd_set g6 G4.out.2.2.2 (by decide) G3.out.2.2.2.2.2 4 (.int .i64 c)
    have hgs := gs.st.own _ List.mem_cons_self
    simp only at hgs
    obtain ⟨z0, z1, z2, z3, z4, zf⟩ := cells5 hgs
    have hc0 : (c == 0) = false := by rw [beq_eq_false_iff_ne]; have := f6.rng; omega
    have c7 := gs.sizeG
    have GS := Lib.hid (And.intro gs f6)
    clear c6 g6 gs hbx hgs f6
    go_wp2_with fail
    refine c7.mono ?_
    rintro e w7 ⟨rfl, rfl⟩
    obtain ⟨W, hW⟩ : ∃ W, W = w6.setCell ⟨w3.heap.size, 4, none⟩ (.int .i64 c) := ⟨_, rfl⟩
    rw [← hW] at GS z0 z1 z2 z3 z4 zf ⊢
    clear hW c7
    have hrb : retryB ver to fr tok 1 = true := by
      cases hh : retryB ver to fr tok 1 with
      | true => rfl
      | false => exact absurd (untB_nil.2 hh) HU.out
    have hv1 : 1 ≤ ver := by
      have := hrb
      simp only [retryB, verB, Bool.and_eq_true, decide_eq_true_eq] at this
      omega
    obtain ⟨R7, hR7⟩ : ∃ R7 : Int, ver.tmod 7 = R7 := ⟨_, rfl⟩
    have hR70 : 0 ≤ R7 ∧ R7 < 7 := by
      rw [← hR7, Int.tmod_eq_emod_of_nonneg (by omega)]
      omega
    obtain ⟨V, hV⟩ : ∃ V : Int, R7 + 8 = V := ⟨_, rfl⟩
    have hV0 : 8 ≤ V ∧ V ≤ 14 := by omega
    have hrv : retryB V to fr tok 1 = true := by
      have := hrb
      simp only [retryB, verB, Bool.and_eq_true, decide_eq_true_eq] at this ⊢
      refine ⟨⟨⟨⟨by omega, by omega⟩, this.1.1.2⟩, this.1.2⟩, this.2⟩
    have HP := Lib.hid (And.intro hrb (And.intro hrv hV0))
    have hver9 : ver < 4294967296 := by
      have := hrb
      simp only [retryB, verB, Bool.and_eq_true, decide_eq_true_eq] at this
      omega
    -- the box of y
    have hbZ := below_alloc W (.cells #[.int .i64 V, .slice p2 to.length e2, .slice p3 fr.length e3, .int .i64 tok, .int .i64 c] 32)
    have gZ := GS.out.1.keep hbZ
    have hA11 := heap_alloc_new W (.cells #[.int .i64 V, .slice p2 to.length e2, .slice p3 fr.length e3, .int .i64 tok, .int .i64 c] 32)
    have hsZ : ∀ r ∈ v2, (W.alloc (.cells #[.int .i64 V, .slice p2 to.length e2, .slice p3 fr.length e3, .int .i64 tok, .int .i64 c] 32)).heap[r.1]? = some r.2 := fun r hr => gZ.st.own r (List.mem_cons_of_mem _ hr)
    have hs4 : ∀ r ∈ v2, w4.heap[r.1]? = some r.2 := fun r hr => G4.out.1.st.own r (List.mem_cons_of_mem _ hr)
    have q2 := G4.out.2.1.guest G3.out.2.1 hs4 hsZ
    have q3 := G4.out.2.2.1.guest G3.out.2.2.1 hs4 hsZ
    have qg := (H.out.2.2.1.below HX.out.1).below gZ.st.bel
    have qo := (H.out.2.2.2.1.below HX.out.1).below gZ.st.bel
    have c8 := tagged_is (ver := ver) (tok := tok) (tag := c) gZ qg q2 q3 GS.out.2
    rw [tagged_self _ HU.out] at c8
    have QZ := Lib.hid (And.intro gZ (And.intro q2 (And.intro q3 (And.intro qg (And.intro qo hA11)))))
    have hWl : w3.heap.size < W.heap.size := by have := blk_lt' (GS.out.1.st.own _ List.mem_cons_self); simp only at this; omega
    clear hbZ gZ hA11 hsZ hs4 q2 q3 qg qo hrb hrv x0 x1 x2 x3 x4 xf
    go_wp2_with fail
    refine c8.mono ?_
    rintro e w8 ⟨rfl, hb8⟩
    have B8 := Lib.hid hb8
    clear c8 hb8 z0 z1 z2 z3 z4 zf
    obtain ⟨z0, z1, z2, z3, z4, zf⟩ := cells5 ((QZ.out.1.keep B8.out).st.own _ List.mem_cons_self)
    simp only at z0 z1 z2 z3 z4
    have c9 := tagged_is (ver := ver) (tok := tok) (tag := c) (QZ.out.1.keep B8.out) (QZ.out.2.2.2.2.1.below B8.out) (QZ.out.2.1.below B8.out) (QZ.out.2.2.1.below B8.out) GS.out.2
    rw [tagged_goal H.out.2.2.1.byt H.out.2.2.2.1.byt HU.out] at c9
    have c10 := fun (w9 : World) (hb9 : Below w8.heap.size w8 w9) => same_any ((QZ.out.2.2.2.1.below B8.out).below hb9) ((QZ.out.2.2.2.2.1.below B8.out).below hb9)
    generalize decide (zg = zo) = q at *
    have hqq : (q == q) = true := by simp
    go_wp2_with fail
    refine c9.mono ?_
    rintro e w9 ⟨rfl, hb9⟩
    have c10' := c10 w9 hb9
    have B9 := Lib.hid (B8.out.trans (hb9.mono B8.out.size))
    clear c9 c10 hb9 z0 z1 z2 z3 z4 zf
    go_wp2_with fail
    refine c10'.mono ?_
    rintro e w10 ⟨rfl, hb10⟩
    have B10 := Lib.hid (B9.out.trans (hb10.mono B9.out.size))
    clear c10' hb10
    obtain ⟨z0, z1, z2, z3, z4, zf⟩ := cells5 ((QZ.out.1.keep B10.out).st.own _ List.mem_cons_self)
    simp only at z0 z1 z2 z3 z4
    obtain ⟨y0, y1, y2, y3, y4, yf⟩ := cells5 ((B10.out.block _ (blk_lt' QZ.out.2.2.2.2.2)).trans QZ.out.2.2.2.2.2)
    have hBX := Lib.hid (HX.out.1.trans (QZ.out.1.st.bel.mono HX.out.1.size))
    have hll : ((N6.length : Int) == (N6.length : Int)) = true := by simp
    by_cases hvv : V = ver
    · have hvt : (V == ver) = true := by rw [hvv]; simp
      have c11 := (QZ.out.1.keep B10.out).sizeG
      clear hvv
      go_wp2_with fail
      refine c11.mono ?_
      rintro e w11 ⟨rfl, rfl⟩
      have HB := Lib.hid (hBX.out.trans (B10.out.mono hBX.out.size))
      clear c11
      go_wp2_with fail
      refine (qawake_any _).mono ?_
      rintro e w12 ⟨rfl, hb12⟩
      go_wp2_with fail
      go_ret
      exact ⟨rfl, HB.out.trans (hb12.mono HB.out.size)⟩
    · have hvt : (V == ver) = false := beq_eq_false_iff_ne.2 hvv
      have c11 := tagged_is (ver := V) (tok := tok) (tag := c) (QZ.out.1.keep B10.out) (QZ.out.2.2.2.1.below B10.out) (QZ.out.2.1.below B10.out) (QZ.out.2.2.1.below B10.out) GS.out.2
      rw [tagged_other _ _ (untB_byt H.out.1.byt H.out.2.1.byt) (untB_byt H.out.1.byt H.out.2.1.byt) (untB_ver HP.out.1 HP.out.2.1 hvv)] at c11
      clear hvv
      go_wp2_with fail
      refine c11.mono ?_
      rintro e w11 ⟨rfl, hb11⟩
      have B11 := Lib.hid (B10.out.trans (hb11.mono B10.out.size))
      have c12 := (QZ.out.1.keep B11.out).sizeG
      clear c11 hb11
      go_wp2_with fail
      refine c12.mono ?_
      rintro e w12 ⟨rfl, rfl⟩
      have HB := Lib.hid (hBX.out.trans (B11.out.mono hBX.out.size))
      clear c12
      go_wp2_with fail
      refine (qawake_any _).mono ?_
      rintro e w13 ⟨rfl, hb13⟩
      go_wp2_with fail
      go_ret
      exact ⟨rfl, HB.out.trans (hb13.mono HB.out.size)⟩
#print axioms asks_ok
end Go.Proofs.Ytkmjdpnbakcgcaa
