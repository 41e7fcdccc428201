/- special: Tag over a table. -/
import Derived.Test.YtkmjdpnbakcgcaaQTag
import Derived.Test.YtkmjdpnbakcgcaaTTag
namespace Go.Proofs.Ytkmjdpnbakcgcaa
open Go Go.RowKit

variable {w0 w : World} {tb mb n : Nat} {N : List T.Nd} {rs : List (Nat × Obj)}
theorem Rd.same {w w' : World} {ad : Addr} {n cap : Nat} {zs : List Int} (h : Rd w (.slice (some ad) n cap) zs) (hb : w'.heap[ad.block]? = w.heap[ad.block]?) : Rd w' (.slice (some ad) n cap) zs := by
  obtain ⟨a2, c2, h1, h2, h3, h4, h5, h6⟩ := h
  simp only [Value.slice.injEq] at h1
  obtain ⟨rfl, rfl, rfl⟩ := h1
  refine ⟨some ad, cap, rfl, h2, h3, h4, h5, fun a ha j hj => ?_⟩
  cases ha
  rw [← h6 ad rfl j hj]
  have e : (ad.add j).block = ad.block := by unfold Addr.add; split <;> rfl
  unfold World.cell?
  rw [e, hb]
set_option maxRecDepth 20000 in
set_option maxHeartbeats 2000000 in
theorem tag_no (h : T.Gd w0 w tb mb N n rs) {gv : Value} {a2 a3 : Option Addr} {c2 c3 : Nat} {to fr zg : List Int} {ver tok tag : Int} (hg : Rd w0 gv zg) (h2 : Rd w (.slice a2 to.length c2) to) (h3 : Rd w (.slice a3 fr.length c3) fr) (hu : untB ver to fr tok = []) :
    Calls Try.prog 6 #[.pointer (some ⟨tb, 0, none⟩), gv, .agg #[.int .i64 ver, .slice a2 to.length c2, .slice a3 fr.length c3, .int .i64 tok, .int .i64 tag]] w fun e w' => e = .returned (.int .i64 0) ∧ T.Gd w0 w' tb mb N n rs := by
  have hb := below_alloc w (.cells #[.int .i64 ver, .slice a2 to.length c2, .slice a3 fr.length c3, .int .i64 tok, .int .i64 tag] 32)
  have c1 := untagged_any (ver := ver) (tok := tok) (tag := tag) (h2.below hb) (h3.below hb)
  rw [hu] at c1
  have H := Lib.hid (And.intro h hb)
  obtain ⟨ga, gc, rfl⟩ := hg.shape
  clear h h2 h3 hu hb hg
  go_enter Try.func6, Try.ntmps6
  go_wp2_with fail
  refine c1.mono ?_
  rintro e w1 ⟨v, rfl, hr, hb1, ho⟩
  obtain ⟨ao, cap, rfl⟩ := hr.shape
  have H2 := Lib.hid ((H.out.1.keep H.out.2).keep hb1)
  clear c1 hr hb1
  simp only [List.length_nil]
  go_wp2_with fail
  go_ret
  exact ⟨rfl, H2.out⟩
set_option maxRecDepth 20000 in
set_option maxHeartbeats 2000000 in
theorem tag_yes (h : T.Gd w0 w tb mb N n rs) {gv : Value} {a2 a3 : Option Addr} {c2 c3 : Nat} {to fr zg : List Int} {ver tok tag : Int} (hg : Rd w0 gv zg) (hlg : zg.length ≤ 50) (h2 : Rd w (.slice a2 to.length c2) to) (h3 : Rd w (.slice a3 fr.length c3) fr) (hu : untB ver to fr tok ≠ []) (hn : n ≤ 50000) :
    Calls Try.prog 6 #[.pointer (some ⟨tb, 0, none⟩), gv, .agg #[.int .i64 ver, .slice a2 to.length c2, .slice a3 fr.length c3, .int .i64 tok, .int .i64 tag]] w fun e w' => T.Tells w0 w' tb mb (n + 5) N rs e fun M c => T.IsTag M c (T.bstr zg) (T.bstr (untB ver to fr tok)) := by
  have hb := below_alloc w (.cells #[.int .i64 ver, .slice a2 to.length c2, .slice a3 fr.length c3, .int .i64 tok, .int .i64 tag] 32)
  have c1 := untagged_any (ver := ver) (tok := tok) (tag := tag) (h2.below hb) (h3.below hb)
  have hul := untB_len (ver := ver) (tok := tok) (to := to) (fr := fr)
  generalize untB ver to fr tok = u at *
  have hu0 : ((u.length : Int) == 0) = false := by
    rw [beq_eq_false_iff_ne]
    intro e
    exact hu (List.eq_nil_of_length_eq_zero (by omega))
  have H := Lib.hid (And.intro h (And.intro hb (And.intro hg (And.intro hlg (And.intro hul hn)))))
  have hcv := T.conv_const
  obtain ⟨ga, gc, rfl⟩ := hg.shape
  clear h h2 h3 hu hb hg hul hlg hn
  go_enter Try.func6, Try.ntmps6
  go_wp2_with fail
  refine c1.mono ?_
  rintro e w1 ⟨v, rfl, hr, hb1, ho⟩
  obtain ⟨ao, cap, rfl⟩ := hr.shape
  obtain ⟨ad, rfl⟩ : ∃ ad, ao = some ad := by
    obtain ⟨_, _, h1, h2, _, h4, _⟩ := hr
    simp only [Value.slice.injEq] at h1
    obtain ⟨rfl, _, rfl⟩ := h1
    cases ao with
    | none => have := h4 rfl; rw [beq_eq_false_iff_ne] at hu0; omega
    | some ad => exact ⟨ad, rfl⟩
  obtain ⟨cc, hcc⟩ := ho ad _ _ rfl
  have g0 := (H.out.1.keep H.out.2.1).keep hb1
  have g0' : T.Gd w0 w1 tb mb N n ((ad.block, .cells cc 5 (0, 0)) :: rs) := ⟨g0.st.other hcc (by decide) (by decide), g0.good, g0.len⟩
  have g1 := g0'.keep (below_alloc w1 (.cells (T.cs .u8 [114, 101, 116, 114, 121]).toArray 5 ((T.cs .u8 [114, 101, 116, 114, 121]).toArray.size, (T.cs .u8 [114, 101, 116, 114, 121]).toArray.size + 1)))
  have HR := Lib.hid (And.intro hr hcc)
  have c2 := g1.textG (T.Rd.litM w1 [114, 101, 116, 114, 121] 5 rfl (by simp)) (by simp) (by have := H.out.2.2.2.2.2; omega)
  clear c1 hr hb1 g1 g0 g0' ho hcc
  go_wp2_with fail
  refine c2.mono ?_
  rintro e w2 ⟨N2, k, rfl, g2, p2, f2⟩
  have c3 := g2.textG (H.out.2.2.1.below g2.st.bel).toT (by have := H.out.2.2.2.1; omega) (by have := H.out.2.2.2.2.2; omega)
  have H2 := Lib.hid (And.intro p2 f2)
  clear c2 g2 p2 f2
  go_wp2_with fail
  refine c3.mono ?_
  rintro e w3 ⟨N3, f, rfl, g3, p3, f3⟩
  have c4 := g3.textG (HR.out.1.same ((g3.st.own _ List.mem_cons_self).trans HR.out.2.symm)).toT (by have := H.out.2.2.2.2.1; omega) (by have := H.out.2.2.2.2.2; omega)
  have H3 := Lib.hid (And.intro p3 f3)
  clear c3 g3 p3 f3
  go_wp2_with fail
  refine c4.mono ?_
  rintro e w4 ⟨N4, s, rfl, g4, p4, f4⟩
  have F4 := H3.out.2.ext p4
  have g4' := g4.keep (below_alloc w4 (.cells (T.cs .i64 [f, s]).toArray 29))
  have c5 := g4'.pair (k := 3) (.inl rfl) ⟨F4.pos, F4.le⟩ ⟨f4.pos, f4.le⟩ (T.Rd.lit .i64 29 w4 [f, s] (by simp)) (by have := H.out.2.2.2.2.2; omega)
  have H4 := Lib.hid (And.intro p4 (And.intro f4 F4))
  clear c4 g4 g4' p4 f4 F4
  go_wp2_with fail
  refine c5.mono ?_
  rintro e w5 ⟨N5, r, rfl, g5, p5, f5⟩
  have K5 := H2.out.2.ext (H3.out.1.trans (H4.out.1.trans p5))
  have g5' := g5.keep (below_alloc w5 (.cells (T.cs .i64 [k, r]).toArray 29))
  have c6 := g5'.pair (k := 5) (.inr rfl) ⟨K5.pos, K5.le⟩ ⟨f5.pos, f5.le⟩ (T.Rd.lit .i64 29 w5 [k, r] (by simp)) (by have := H.out.2.2.2.2.2; omega)
  have H5 := Lib.hid (And.intro p5 (And.intro f5 K5))
  clear c5 g5 g5' p5 f5 K5
  go_wp2_with fail
  refine c6.mono ?_
  rintro e w6 ⟨N6, c, rfl, g6, p6, f6⟩
  have H6 : Hid (T.Gd w0 w6 tb mb N6 (n + 5) rs ∧ N <+: N6 ∧ T.IsTag N6 c (T.bstr zg) (T.bstr u)) := Lib.hid ⟨⟨g6.st.sub fun x hx => List.mem_cons_of_mem _ hx, g6.good, g6.len⟩, H2.out.1.trans (H3.out.1.trans (H4.out.1.trans (H5.out.1.trans p6))), k, f, s, r, H5.out.2.2.ext p6, H4.out.2.2.ext (H5.out.1.trans p6), H4.out.2.1.ext (H5.out.1.trans p6), H5.out.2.1.ext p6, f6⟩
  clear c6 g6 p6 f6
  go_wp2_with fail
  go_ret
  exact ⟨N6, c, rfl, H6.out⟩
#print axioms tag_yes
end Go.Proofs.Ytkmjdpnbakcgcaa
