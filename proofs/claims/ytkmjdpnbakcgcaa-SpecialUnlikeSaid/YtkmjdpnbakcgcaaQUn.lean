/- SpecialUnlike's walk. -/
import Derived.Test.YtkmjdpnbakcgcaaQUn0
namespace Go.Proofs.Ytkmjdpnbakcgcaa
open Go Go.RowKit

theorem keepT {X w' : World} {gA gB : Nat} {va v2 v3 vb vc wa v2' v3' wb wc : Value} {T : TypeId} (hA : X.heap[gA]? = some (.cells #[va, v2, v3, vb, vc] T (0, 0))) (hB : X.heap[gB]? = some (.cells #[wa, v2', v3', wb, wc] T (0, 0))) (hb : Below X.heap.size X w') :
    w'.cell? ⟨gA, 0, none⟩ = some va ∧ w'.cell? ⟨gA, 1, none⟩ = some v2 ∧ w'.cell? ⟨gA, 2, none⟩ = some v3 ∧ w'.cell? ⟨gA, 3, none⟩ = some vb ∧ w'.cell? ⟨gA, 4, none⟩ = some vc ∧ w'.cell? ⟨gB, 0, none⟩ = some wa ∧ w'.cell? ⟨gB, 1, none⟩ = some v2' ∧ w'.cell? ⟨gB, 2, none⟩ = some v3' ∧ w'.cell? ⟨gB, 3, none⟩ = some wb ∧ w'.cell? ⟨gB, 4, none⟩ = some wc := by
  obtain ⟨a0, a1, a2, a3, a4, _⟩ := cells5 ((hb.block _ (blk_lt' hA)).trans hA)
  obtain ⟨b0, b1, b2, b3, b4, _⟩ := cells5 ((hb.block _ (blk_lt' hB)).trans hB)
  exact ⟨a0, a1, a2, a3, a4, b0, b1, b2, b3, b4⟩
set_option maxRecDepth 20000 in
set_option maxHeartbeats 4000000 in
theorem unlike_ok {w : World} {a2 a3 b2 b3 ga oa : Option Addr} {c2 c3 d2 d3 gc oc : Nat} {to fr tp fp zg zo : List Int} {ver tok tag vr tk tg : Int}
    (h : Rd w (.slice a2 to.length c2) to ∧ Rd w (.slice a3 fr.length c3) fr ∧ Rd w (.slice b2 tp.length d2) tp ∧ Rd w (.slice b3 fp.length d3) fp ∧ Rd w (.slice ga zg.length gc) zg ∧ Rd w (.slice oa zo.length oc) zo)
    (l2 : to.length ≤ 50) (l3 : fr.length ≤ 50) (m2 : tp.length ≤ 50) (m3 : fp.length ≤ 50) (lg : zg.length ≤ 50) (lo : zo.length ≤ 50) :
    Calls Try.prog 3 #[.agg #[.int .i64 ver, .slice a2 to.length c2, .slice a3 fr.length c3, .int .i64 tok, .int .i64 tag, .int .i64 vr, .slice b2 tp.length d2, .slice b3 fp.length d3, .int .i64 tk, .int .i64 tg, .slice ga zg.length gc, .slice oa zo.length oc]] w fun e w' => e = .returned (.bool true) ∧ Below w.heap.size w w' := by
  have t2 : decide ((50 : Int) < (to.length : Int)) = false := decide_eq_false (by omega)
  have t3 : decide ((50 : Int) < (fr.length : Int)) = false := decide_eq_false (by omega)
  have t4 : decide ((50 : Int) < (tp.length : Int)) = false := decide_eq_false (by omega)
  have t5 : decide ((50 : Int) < (fp.length : Int)) = false := decide_eq_false (by omega)
  have tg' : decide ((50 : Int) < (zg.length : Int)) = false := decide_eq_false (by omega)
  have to' : decide ((50 : Int) < (zo.length : Int)) = false := decide_eq_false (by omega)
  have H := Lib.hid h
  have HL := Lib.hid (And.intro l2 (And.intro l3 (And.intro m2 (And.intro m3 (And.intro lg lo)))))
  clear h l2 l3 m2 m3 lg lo
  go_enter Try.func3, Try.ntmps3
  go_wp2_with fail
  rename_i Q' K hK
  have tail : ∀ (X : World) (gA gB : Nat), Below w.heap.size w X → X.heap[gA]? = some (.cells #[.int .i64 ver, .slice a2 to.length c2, .slice a3 fr.length c3, .int .i64 tok, .int .i64 tag] 24 (0, 0)) → X.heap[gB]? = some (.cells #[.int .i64 vr, .slice b2 tp.length d2, .slice b3 fp.length d3, .int .i64 tk, .int .i64 tg] 24 (0, 0)) → gA ≠ gB → w.heap.size ≤ gB → Exit.then K Q' Exit.normal ⟨#[.agg #[.int .i64 ver, .slice a2 to.length c2, .slice a3 fr.length c3, .int .i64 tok, .int .i64 tag, .int .i64 vr, .slice b2 tp.length d2, .slice b3 fp.length d3, .int .i64 tk, .int .i64 tg, .slice ga zg.length gc, .slice oa zo.length oc], .pointer (some ⟨w.heap.size, 0, none⟩), .bool false, .pointer (some ⟨gA, 0, none⟩), .pointer (some ⟨gB, 0, none⟩), .slice ga zg.length gc, .slice oa zo.length oc, undef, undef, undef, .pointer (some ⟨w.heap.size, 0, none⟩), .agg #[.int .i64 ver, .slice a2 to.length c2, .slice a3 fr.length c3, .int .i64 tok, .int .i64 tag], .pointer (some ⟨w.heap.size, 5, none⟩), .agg #[.int .i64 vr, .slice b2 tp.length d2, .slice b3 fp.length d3, .int .i64 tk, .int .i64 tg], .pointer (some ⟨w.heap.size, 10, none⟩), .slice ga zg.length gc, .pointer (some ⟨w.heap.size, 11, none⟩), .slice oa zo.length oc, undef, undef, undef, undef, undef, undef, undef, undef, undef, undef, undef, undef, undef, undef, undef, undef, undef, undef, undef, undef, undef, undef, undef, undef, undef, undef, undef, undef, undef, undef, undef, undef, undef, undef, undef, undef, undef, undef, undef, undef, undef, undef, undef, undef, undef, undef, undef, undef, undef, undef, undef, undef, undef, undef, undef, undef, undef, undef, undef, undef, undef, undef, undef, undef, undef, undef, undef, undef, undef], []⟩ X := by
    intro X gA gB hbX hA1 hA2 hAB hgB
    obtain ⟨x0, x1, x2, x3, x4, _⟩ := cells5 hA1
    obtain ⟨y0, y1, y2, y3, y4, _⟩ := cells5 hA2
    have HX := Lib.hid (And.intro hbX (And.intro hA1 hA2))
    clear hbX hA1 hA2
    go_wp2_with fail
    refine (T.St.new X).mono ?_
    rintro e w1 ⟨tb, mb, rfl, s1⟩
    have HS := Lib.hid (show T.Gd X w1.drew tb mb [] 0 [] from (T.Gd.mk (T.Sg.of_st s1) T.good_nil (Nat.le_refl _)).keep (below_drewN w1 1))
    have hbK1 := HS.out.st.bel
    have HRd := Lib.hid (And.intro (H.out.1.below HX.out.1) (And.intro (H.out.2.1.below HX.out.1) (And.intro (H.out.2.2.1.below HX.out.1) (And.intro (H.out.2.2.2.1.below HX.out.1) (And.intro (H.out.2.2.2.2.1.below HX.out.1) (H.out.2.2.2.2.2.below HX.out.1))))))
    clear x0 x1 x2 x3 x4 y0 y1 y2 y3 y4 s1
    go_wp2_with fail
    go_region_held3 (fun w' => w'.cell? ⟨gA, 0, none⟩ = some (.int .i64 ver) ∧ w'.cell? ⟨gA, 1, none⟩ = some (.slice a2 to.length c2) ∧ w'.cell? ⟨gA, 2, none⟩ = some (.slice a3 fr.length c3) ∧ w'.cell? ⟨gA, 3, none⟩ = some (.int .i64 tok) ∧ w'.cell? ⟨gA, 4, none⟩ = some (.int .i64 tag) ∧ w'.cell? ⟨gB, 0, none⟩ = some (.int .i64 vr) ∧ w'.cell? ⟨gB, 1, none⟩ = some (.slice b2 tp.length d2) ∧ w'.cell? ⟨gB, 2, none⟩ = some (.slice b3 fp.length d3) ∧ w'.cell? ⟨gB, 3, none⟩ = some (.int .i64 tk) ∧ w'.cell? ⟨gB, 4, none⟩ = some (.int .i64 tg)) (with_reducible exact keepT HX.out.2.1 HX.out.2.2 (by assumption))
      (first
        | (go_at_call 6; have ct := tag_any (ver := vr) (tok := tk) (tag := tg) G5.out HRd.out.2.2.2.2.2 (by have := HL.out; omega) R5.out.1 R5.out.2 (by omega); refine ct.mono ?_; rintro e w6 ⟨N6, y, rfl, g6, p6, f6⟩; have G6 := Lib.hid g6; have F6 := Lib.hid (And.intro p6 f6); have hbK6 := g6.st.bel; clear g6 f6 p6 ct)
        | (go_at_call 7; have ct := retry_ra (ver := vr) (tok := tk) (tag := tg) (HRd.out.2.2.1.below hbK4) (HRd.out.2.2.2.1.below hbK4) (by have := HL.out; omega) (by have := HL.out; omega); refine ct.mono ?_; rintro e w5 ⟨u4, u5, rfl, ⟨r4, r5⟩, hb5⟩; obtain ⟨p4, e4, rfl⟩ := r4.rd.shape; obtain ⟨p5, e5, rfl⟩ := r5.rd.shape; have G5 := Lib.hid (G4.out.keep hb5); have hbK5 := G5.out.st.bel; have R5 := Lib.hid (And.intro r4.rd r5.rd); clear r4 r5 hb5 ct)
        | (go_at_call 6; have ct := tag_any (ver := ver) (tok := tok) (tag := tag) G3.out HRd.out.2.2.2.2.1 (by have := HL.out; omega) R3.out.1 R3.out.2 (by omega); refine ct.mono ?_; rintro e w4 ⟨N4, x, rfl, g4, p4, f4⟩; have G4 := Lib.hid g4; have F4 := Lib.hid f4; have hbK4 := g4.st.bel; clear g4 f4 p4 ct)
        | (go_at_call 7; have ct := retry_ra (ver := ver) (tok := tok) (tag := tag) (HRd.out.1.below hbK1) (HRd.out.2.1.below hbK1) (by have := HL.out; omega) (by have := HL.out; omega); refine ct.mono ?_; rintro e w3 ⟨u2, u3, rfl, ⟨r2, r3⟩, hb3⟩; obtain ⟨p2, e2, rfl⟩ := r2.rd.shape; obtain ⟨p3, e3, rfl⟩ := r3.rd.shape; have G3 := Lib.hid (HS.out.keep hb3); have hbK3 := G3.out.st.bel; have R3 := Lib.hid (And.intro r2.rd r3.rd); clear r2 r3 hb3 ct))
    have hbW6 := HX.out.1.trans (hbK6.mono HX.out.1.size)
    have hxx : ∀ {u : List Int} {g : ByteArray} {M : List T.Nd} {c : Int}, TagK u g M c → u ≠ [] → (c == 0) = false ∧ T.IsTag M c g (T.bstr u) := fun {u g M c} h hu => by
      rcases h with ⟨h1, _⟩ | ⟨_, h2⟩
      · exact absurd h1 hu
      · refine ⟨?_, h2⟩
        rw [beq_eq_false_iff_ne]; have := h2.rng; omega
    have hx0 : ∀ {u : List Int} {g : ByteArray} {M : List T.Nd} {c : Int}, TagK u g M c → u = [] → c = 0 := fun {u g M c} h hu => by
      rcases h with ⟨_, h1⟩ | ⟨h1, _⟩
      · exact h1
      · exact absurd hu h1
    by_cases hua : untB ver to fr tok = []
    · have hx := hx0 F4.out hua
      subst hx
      clear hbK1 hbK3 hbK4 hbK5 hbK6 hua hxx hx0
      have HBW := Lib.hid hbW6
      clear hbW6
      go_wp2_with fail
      refine (qawake_any _).mono ?_
      rintro e w7 ⟨rfl, hb7⟩
      go_wp2_with fail
      go_ret
      exact ⟨rfl, HBW.out.trans (hb7.mono HBW.out.size)⟩
    · obtain ⟨hxf, hxt⟩ := hxx F4.out hua
      by_cases hub : untB vr tp fp tk = []
      · have hy := hx0 F6.out.2 hub
        subst hy
        clear hbK1 hbK3 hbK4 hbK5 hbK6 hua hub hxx hx0 hxt
        have HBW := Lib.hid hbW6
        clear hbW6
        go_wp2_with fail
        refine (qawake_any _).mono ?_
        rintro e w7 ⟨rfl, hb7⟩
        go_wp2_with fail
        go_ret
        exact ⟨rfl, HBW.out.trans (hb7.mono HBW.out.size)⟩
      · obtain ⟨hyf, hyt⟩ := hxx F6.out.2 hub
        have hra : retryB ver to fr tok 1 = true := by
          cases hh : retryB ver to fr tok 1 with
          | true => rfl
          | false => exact absurd (untB_nil.2 hh) hua
        have hrb : retryB vr tp fp tk 1 = true := by
          cases hh : retryB vr tp fp tk 1 with
          | true => rfl
          | false => exact absurd (untB_nil.2 hh) hub
        have hiff := (hxt.ext F6.out.1).iff hyt
        have hub2 := untB_byt (ver := ver) (tok := tok) H.out.1.byt H.out.2.1.byt
        have hub3 := untB_byt (ver := vr) (tok := tk) H.out.2.2.1.byt H.out.2.2.2.1.byt
        -- are they alike?
        have hlike : (zg = zo → (x == y) = likeB ver vr tok tk to tp fr fp) ∧ (zg ≠ zo → (x == y) = false) := by
          refine ⟨fun hz => ?_, fun hz => ?_⟩
          · unfold likeB
            by_cases hall : ver = vr ∧ to = tp ∧ fr = fp ∧ tok = tk
            · have hxy : x = y := hiff.2 ⟨by rw [hz], by obtain ⟨rfl, rfl, rfl, rfl⟩ := hall; rfl⟩
              obtain ⟨rfl, rfl, rfl, rfl⟩ := hall
              simp [hxy]
            · have hxy : ¬ x = y := fun e => hall (untB_inj hra hrb (bstr_inj hub2 hub3 (hiff.1 e).2))
              rw [beq_eq_false_iff_ne.2 hxy]
              symm
              simp only [Bool.and_eq_false_iff, beq_eq_false_iff_ne, decide_eq_false_iff_not]
              by_cases g1 : ver = vr
              · by_cases g2 : to = tp
                · by_cases g3 : fr = fp
                  · exact .inr (.inr (.inr fun g4 => hall ⟨g1, g2, g3, g4⟩))
                  · exact .inr (.inr (.inl g3))
                · exact .inr (.inl g2)
              · exact .inl g1
          · exact beq_eq_false_iff_ne.2 fun e => hz (bstr_inj H.out.2.2.2.2.1.byt H.out.2.2.2.2.2.byt (hiff.1 e).1)
        have HLK := Lib.hid hlike
        have hA6 := (hbK6.block _ (blk_lt' HX.out.2.1)).trans HX.out.2.1
        have hB6 := (hbK6.block _ (blk_lt' HX.out.2.2)).trans HX.out.2.2
        obtain ⟨x0, x1, x2, x3, x4, _⟩ := cells5 hA6
        obtain ⟨y0, y1, y2, y3, y4, yf⟩ := cells5 hB6
        have HA6 := Lib.hid (And.intro hA6 (And.intro hB6 hbW6))
        clear hbK1 hbK3 hbK4 hbK5 hbK6 hua hub hxx hx0 hxt hyt hiff hub2 hub3 hra hrb hlike hA6 hB6 hbW6
        go_wp2_with fail
        obtain ⟨Y, hY⟩ : ∃ Y, Y = w6.setCell ⟨gB, 4, none⟩ (.int .i64 tag) := ⟨_, rfl⟩
        rw [← hY]
        have HYA : Y.heap[gA]? = some (.cells #[.int .i64 ver, .slice a2 to.length c2, .slice a3 fr.length c3, .int .i64 tok, .int .i64 tag] 24 (0, 0)) := by rw [hY, Below.heap_setCell w6 ⟨gB, 4, none⟩ _ gA hAB]; exact HA6.out.1
        have HYB : Y.heap[gB]? = some (.cells #[.int .i64 vr, .slice b2 tp.length d2, .slice b3 fp.length d3, .int .i64 tk, .int .i64 tag] 24 (0, 0)) := by rw [hY]; exact heap_setCell_same w6 (gB) 4 _ _ (.int .i64 tag) HA6.out.2.1
        have hbWY : Below w.heap.size w Y := by rw [hY]; exact HA6.out.2.2.setCell (show w.heap.size ≤ gB by omega) _
        have HY := Lib.hid (And.intro HYA (And.intro HYB hbWY))
        have hbY0 : Below Y.heap.size Y Y.drew := below_drewN Y 1
        have hyy := Lib.hid (And.intro (H.out.1.below hbWY) (And.intro (H.out.2.1.below hbWY) (And.intro (H.out.2.2.1.below hbWY) (And.intro (H.out.2.2.2.1.below hbWY) (And.intro (H.out.2.2.2.2.1.below hbWY) (H.out.2.2.2.2.2.below hbWY))))))
        clear x0 x1 x2 x3 x4 y0 y1 y2 y3 y4 yf hY HYA HYB hbWY
        by_cases hq : zg = zo
        · have hxl := HLK.out.1 hq
          obtain ⟨lk, hlk⟩ : ∃ lk, lk = likeB ver vr tok tk to tp fr fp := ⟨_, rfl⟩
          rw [← hlk] at hxl
          have hqd : decide (zg = zo) = true := decide_eq_true hq
          have HLQ := Lib.hid (And.intro hlk hqd)
          clear hq hlk hqd
          have hll : (lk == lk) = true := by simp
          go_region_held3 (fun w' => w'.cell? ⟨gA, 0, none⟩ = some (.int .i64 ver) ∧ w'.cell? ⟨gA, 1, none⟩ = some (.slice a2 to.length c2) ∧ w'.cell? ⟨gA, 2, none⟩ = some (.slice a3 fr.length c3) ∧ w'.cell? ⟨gA, 3, none⟩ = some (.int .i64 tok) ∧ w'.cell? ⟨gA, 4, none⟩ = some (.int .i64 tag) ∧ w'.cell? ⟨gB, 0, none⟩ = some (.int .i64 vr) ∧ w'.cell? ⟨gB, 1, none⟩ = some (.slice b2 tp.length d2) ∧ w'.cell? ⟨gB, 2, none⟩ = some (.slice b3 fp.length d3) ∧ w'.cell? ⟨gB, 3, none⟩ = some (.int .i64 tk) ∧ w'.cell? ⟨gB, 4, none⟩ = some (.int .i64 tag)) (with_reducible exact keepT HY.out.1 HY.out.2.1 (by assumption))
            (first
              | (go_at_call 8; have ct := qawake_any w9; refine ct.mono ?_; rintro e w10 ⟨rfl, hb10⟩; have hbA := hbT.trans (hb10.mono hbT.size); clear ct hb10)
              | (go_at_call 10; have ct := retried_gen ver vr tok tk tag RR.out.1 RR.out.2 (hyy.out.2.2.1.below hbR) (hyy.out.2.2.2.1.below hbR); rw [← HLQ.out.1] at ct; refine ct.mono ?_; rintro e w9 ⟨rfl, hb9⟩; have hbT := hbR.trans (hb9.mono hbR.size); clear ct hb9)
              | (go_at_call 7; have ct := retry_ra (ver := ver) (tok := tok) (tag := tag) (hyy.out.1.below hbS) (hyy.out.2.1.below hbS) (by have := HL.out; omega) (by have := HL.out; omega); refine ct.mono ?_; rintro e w8 ⟨u7, u8, rfl, ⟨r7, r8⟩, hb8⟩; obtain ⟨p7, e7, rfl⟩ := r7.rd.shape; obtain ⟨p8, e8, rfl⟩ := r8.rd.shape; have RR := Lib.hid (And.intro r7.rd r8.rd); have hbR := hbS.trans (hb8.mono hbS.size); clear ct r7 r8 hb8)
              | (go_at_call 9; have ct := same_any (hyy.out.2.2.2.2.1.below hbY0) (hyy.out.2.2.2.2.2.below hbY0); rw [HLQ.out.2] at ct; refine ct.mono ?_; rintro e w7 ⟨rfl, hb7⟩; have hbS := hbY0.trans (hb7.mono hbY0.size); clear ct hb7))
          all_goals
            have HBE := Lib.hid (HY.out.2.2.trans (hbA.mono HY.out.2.2.size))
            go_wp2_with fail
            go_ret
            exact ⟨rfl, HBE.out⟩
        · have hxl := HLK.out.2 hq
          have hqd : decide (zg = zo) = false := decide_eq_false hq
          have HLQ := Lib.hid hqd
          clear hq hqd
          go_region_with (first
              | (go_at_call 8; have ct := qawake_any w7; refine ct.mono ?_; rintro e w10 ⟨rfl, hb10⟩; have hbA := hbS.trans (hb10.mono hbS.size); clear ct hb10)
              | (go_at_call 9; have ct := same_any (hyy.out.2.2.2.2.1.below hbY0) (hyy.out.2.2.2.2.2.below hbY0); rw [HLQ.out] at ct; refine ct.mono ?_; rintro e w7 ⟨rfl, hb7⟩; have hbS := hbY0.trans (hb7.mono hbY0.size); clear ct hb7))
          all_goals
            have HBE := Lib.hid (HY.out.2.2.trans (hbA.mono HY.out.2.2.size))
            go_wp2_with fail
            go_ret
            exact ⟨rfl, HBE.out⟩
  have HTL := Lib.hid tail
  clear tail
  go_region
  · obtain ⟨X, hX⟩ : ∃ X, X = (((w.alloc (.cells #[.int .i64 ver, .slice a2 to.length c2, .slice a3 fr.length c3, .int .i64 tok, .int .i64 tag, .int .i64 vr, .slice b2 tp.length d2, .slice b3 fp.length d3, .int .i64 tk, .int .i64 tg, .slice ga zg.length gc, .slice oa zo.length oc] 26)).alloc (.cells #[.int .i64 ver, .slice a2 to.length c2, .slice a3 fr.length c3, .int .i64 tok, .int .i64 tag] 24)).alloc (.cells #[.int .i64 vr, .slice b2 tp.length d2, .slice b3 fp.length d3, .int .i64 tk, .int .i64 tg] 24)).drew := ⟨_, rfl⟩
    have hbX : Below w.heap.size w X := by rw [hX]; exact (((below_alloc w _).trans ((below_alloc _ _).mono (below_alloc w _).size)).trans ((below_alloc _ _).mono (Nat.le_trans (below_alloc w _).size (below_alloc _ _).size))).drew
    have hA2 : X.heap[w.heap.size + 1 + 1]? = some (.cells #[.int .i64 vr, .slice b2 tp.length d2, .slice b3 fp.length d3, .int .i64 tk, .int .i64 tg] 24 (0, 0)) := by
      rw [hX]
      have := heap_alloc_new ((w.alloc (.cells #[.int .i64 ver, .slice a2 to.length c2, .slice a3 fr.length c3, .int .i64 tok, .int .i64 tag, .int .i64 vr, .slice b2 tp.length d2, .slice b3 fp.length d3, .int .i64 tk, .int .i64 tg, .slice ga zg.length gc, .slice oa zo.length oc] 26)).alloc (.cells #[.int .i64 ver, .slice a2 to.length c2, .slice a3 fr.length c3, .int .i64 tok, .int .i64 tag] 24)) (.cells #[.int .i64 vr, .slice b2 tp.length d2, .slice b3 fp.length d3, .int .i64 tk, .int .i64 tg] 24)
      rw [World.size_alloc, World.size_alloc] at this
      exact this
    have hA1 : X.heap[w.heap.size + 1]? = some (.cells #[.int .i64 ver, .slice a2 to.length c2, .slice a3 fr.length c3, .int .i64 tok, .int .i64 tag] 24 (0, 0)) := by
      rw [hX]
      have := heap_alloc_new (w.alloc (.cells #[.int .i64 ver, .slice a2 to.length c2, .slice a3 fr.length c3, .int .i64 tok, .int .i64 tag, .int .i64 vr, .slice b2 tp.length d2, .slice b3 fp.length d3, .int .i64 tk, .int .i64 tg, .slice ga zg.length gc, .slice oa zo.length oc] 26)) (.cells #[.int .i64 ver, .slice a2 to.length c2, .slice a3 fr.length c3, .int .i64 tok, .int .i64 tag] 24)
      rw [World.size_alloc] at this
      exact ((below_alloc ((w.alloc (.cells #[.int .i64 ver, .slice a2 to.length c2, .slice a3 fr.length c3, .int .i64 tok, .int .i64 tag, .int .i64 vr, .slice b2 tp.length d2, .slice b3 fp.length d3, .int .i64 tk, .int .i64 tg, .slice ga zg.length gc, .slice oa zo.length oc] 26)).alloc (.cells #[.int .i64 ver, .slice a2 to.length c2, .slice a3 fr.length c3, .int .i64 tok, .int .i64 tag] 24)) (.cells #[.int .i64 vr, .slice b2 tp.length d2, .slice b3 fp.length d3, .int .i64 tk, .int .i64 tg] 24)).block _ (by simp)).trans this
    rw [← hX]
    exact HTL.out X _ _ hbX hA1 hA2 (by omega) (by omega)
  · obtain ⟨X, hX⟩ : ∃ X, X = (((w.alloc (.cells #[.int .i64 ver, .slice a2 to.length c2, .slice a3 fr.length c3, .int .i64 tok, .int .i64 tag, .int .i64 vr, .slice b2 tp.length d2, .slice b3 fp.length d3, .int .i64 tk, .int .i64 tg, .slice ga zg.length gc, .slice oa zo.length oc] 26)).alloc (.cells #[.int .i64 vr, .slice b2 tp.length d2, .slice b3 fp.length d3, .int .i64 tk, .int .i64 tg] 24)).alloc (.cells #[.int .i64 ver, .slice a2 to.length c2, .slice a3 fr.length c3, .int .i64 tok, .int .i64 tag] 24)).drew := ⟨_, rfl⟩
    have hbX : Below w.heap.size w X := by rw [hX]; exact (((below_alloc w _).trans ((below_alloc _ _).mono (below_alloc w _).size)).trans ((below_alloc _ _).mono (Nat.le_trans (below_alloc w _).size (below_alloc _ _).size))).drew
    have hA2 : X.heap[w.heap.size + 1 + 1]? = some (.cells #[.int .i64 ver, .slice a2 to.length c2, .slice a3 fr.length c3, .int .i64 tok, .int .i64 tag] 24 (0, 0)) := by
      rw [hX]
      have := heap_alloc_new ((w.alloc (.cells #[.int .i64 ver, .slice a2 to.length c2, .slice a3 fr.length c3, .int .i64 tok, .int .i64 tag, .int .i64 vr, .slice b2 tp.length d2, .slice b3 fp.length d3, .int .i64 tk, .int .i64 tg, .slice ga zg.length gc, .slice oa zo.length oc] 26)).alloc (.cells #[.int .i64 vr, .slice b2 tp.length d2, .slice b3 fp.length d3, .int .i64 tk, .int .i64 tg] 24)) (.cells #[.int .i64 ver, .slice a2 to.length c2, .slice a3 fr.length c3, .int .i64 tok, .int .i64 tag] 24)
      rw [World.size_alloc, World.size_alloc] at this
      exact this
    have hA1 : X.heap[w.heap.size + 1]? = some (.cells #[.int .i64 vr, .slice b2 tp.length d2, .slice b3 fp.length d3, .int .i64 tk, .int .i64 tg] 24 (0, 0)) := by
      rw [hX]
      have := heap_alloc_new (w.alloc (.cells #[.int .i64 ver, .slice a2 to.length c2, .slice a3 fr.length c3, .int .i64 tok, .int .i64 tag, .int .i64 vr, .slice b2 tp.length d2, .slice b3 fp.length d3, .int .i64 tk, .int .i64 tg, .slice ga zg.length gc, .slice oa zo.length oc] 26)) (.cells #[.int .i64 vr, .slice b2 tp.length d2, .slice b3 fp.length d3, .int .i64 tk, .int .i64 tg] 24)
      rw [World.size_alloc] at this
      exact ((below_alloc ((w.alloc (.cells #[.int .i64 ver, .slice a2 to.length c2, .slice a3 fr.length c3, .int .i64 tok, .int .i64 tag, .int .i64 vr, .slice b2 tp.length d2, .slice b3 fp.length d3, .int .i64 tk, .int .i64 tg, .slice ga zg.length gc, .slice oa zo.length oc] 26)).alloc (.cells #[.int .i64 vr, .slice b2 tp.length d2, .slice b3 fp.length d3, .int .i64 tk, .int .i64 tg] 24)) (.cells #[.int .i64 ver, .slice a2 to.length c2, .slice a3 fr.length c3, .int .i64 tok, .int .i64 tag] 24)).block _ (by simp)).trans this
    rw [← hX]
    exact HTL.out X _ _ hbX hA2 hA1 (by omega) (by omega)
#print axioms unlike_ok
end Go.Proofs.Ytkmjdpnbakcgcaa
