/- special: Tagged over a table. -/
import Derived.Test.YtkmjdpnbakcgcaaQTag2
namespace Go.Proofs.Ytkmjdpnbakcgcaa
open Go Go.RowKit

variable {w0 w : World} {tb mb n : Nat} {N : List T.Nd} {rs : List (Nat × Obj)}
set_option maxRecDepth 20000 in
set_option maxHeartbeats 2000000 in
theorem stext_any (h : T.St w0 w tb mb N []) {m : Int} {s : ByteArray} (hm : T.Has N m (1, s, [])) {bv : Value} {zb : List Int} (hb : T.Rd .u8 w bv zb) :
    Calls Try.prog 18 #[.pointer (some ⟨tb, 0, none⟩), .int .i64 m, bv] w fun e w' => e = .returned (.bool (T.seq s (T.bstr zb))) ∧ Below w.heap.size w w' := by
  have c1 := h.look1 hm
  have HB := Lib.hid hb
  obtain ⟨ba, bc, rfl, _⟩ := hb
  unfold T.seq
  clear h hm
  go_enter Try.func18, Try.ntmps18
  go_wp2_with fail
  refine c1.mono ?_
  rintro e w1 ⟨ao, cap, rfl, h1, hb1⟩
  have hb2 := hb1.trans ((below_alloc w1 (.cells #[.int .i64 1, .string s, .slice ao 0 cap] 54)).mono hb1.size)
  have hcv := T.conv_any (HB.out.below hb2)
  have HS := Lib.hid hb2
  clear c1 h1 hb1 hb2
  go_wp2_with fail
  go_ret
  exact ⟨rfl, HS.out⟩
set_option maxRecDepth 20000 in
set_option maxHeartbeats 2000000 in
theorem tagged_none (h : T.Gd w0 w tb mb N n rs) {gv : Value} {a2 a3 : Option Addr} {c2 c3 : Nat} {to fr : List Int} {ver tok tag : Int} (h2 : Rd w (.slice a2 to.length c2) to) (h3 : Rd w (.slice a3 fr.length c3) fr) (ht : tag < 1 ∨ (N.length : Int) < tag) :
    Calls Try.prog 11 #[.pointer (some ⟨tb, 0, none⟩), gv, .agg #[.int .i64 ver, .slice a2 to.length c2, .slice a3 fr.length c3, .int .i64 tok, .int .i64 tag]] w fun e w' => e = .returned (.bool false) ∧ Below w.heap.size w w' := by
  have hb := below_alloc w (.cells #[.int .i64 ver, .slice a2 to.length c2, .slice a3 fr.length c3, .int .i64 tok, .int .i64 tag] 32)
  have c1 := untagged_any (ver := ver) (tok := tok) (tag := tag) (h2.below hb) (h3.below hb)
  generalize untB ver to fr tok = u at *
  have H := Lib.hid (And.intro h (And.intro hb ht))
  have hA := Lib.hid (heap_alloc_new w (.cells #[.int .i64 ver, .slice a2 to.length c2, .slice a3 fr.length c3, .int .i64 tok, .int .i64 tag] 32))
  clear h h2 h3 hb ht
  go_enter Try.func11, Try.ntmps11
  go_wp2_with fail
  refine c1.mono ?_
  rintro e w1 ⟨v, rfl, hr, hb1, _⟩
  obtain ⟨ao, cap, rfl⟩ := hr.shape
  have x4 : w1.cell? ⟨w.heap.size, 4, none⟩ = some (.int .i64 tag) := (cell_of_row _ w.heap.size 4 _ 32 (0, 0) ((hb1.block _ (blk_lt' hA.out)).trans hA.out)).trans rfl
  have c2 := ((H.out.1.keep H.out.2.1).keep hb1).st.st.look0 tag H.out.2.2
  have HB := Lib.hid (H.out.2.1.trans (hb1.mono H.out.2.1.size))
  have c2 : Calls Try.prog 17 #[.pointer (some ⟨tb, 0, none⟩), .int .i64 tag] w1 fun e w' => e = .returned (.tuple #[.agg #[.int .i64 0, .string ByteArray.empty, .slice none 0 0], .bool false]) ∧ Below w1.heap.size w1 w' := by
    obtain ⟨nv, ht, _⟩ := ((H.out.1.keep H.out.2.1).keep hb1).st.tab
    exact T.Tab.look_no ht.at tag H.out.2.2
  clear c1 hr hb1
  go_wp2_with fail
  refine c2.mono ?_
  rintro e w2 ⟨rfl, hb2⟩
  have HB2 := Lib.hid ((HB.out.trans (hb2.mono HB.out.size)).trans ((below_alloc w2 (.cells #[.int .i64 0, .string ByteArray.empty, .slice none 0 0] 54)).mono (Nat.le_trans HB.out.size hb2.size)))
  clear c2 hb2 x4
  cases u with
  | nil =>
    simp only [List.length_nil]
    go_wp2_with fail
    go_ret
    exact ⟨rfl, HB2.out⟩
  | cons z u =>
    have hne : (((z :: u).length : Int) == 0) = false := by
      rw [beq_eq_false_iff_ne]; simp only [List.length_cons]; omega
    go_wp2_with fail
    go_ret
    exact ⟨rfl, HB2.out⟩
/-- What Tagged tells of a tag that was made. -/
def taggedB (g b g' : ByteArray) (u : List Int) : Bool := decide (u ≠ []) && (T.seq g g' && T.seq b (T.bstr u))
set_option maxRecDepth 20000 in
set_option maxHeartbeats 4000000 in
theorem tagged_is (h : T.Gd w0 w tb mb N n rs) {gv : Value} {a2 a3 : Option Addr} {c2 c3 : Nat} {to fr zg : List Int} {ver tok tag : Int} {g b : ByteArray} (hg : Rd w gv zg) (h2 : Rd w (.slice a2 to.length c2) to) (h3 : Rd w (.slice a3 fr.length c3) fr) (ht : T.IsTag N tag g b) :
    Calls Try.prog 11 #[.pointer (some ⟨tb, 0, none⟩), gv, .agg #[.int .i64 ver, .slice a2 to.length c2, .slice a3 fr.length c3, .int .i64 tok, .int .i64 tag]] w fun e w' => e = .returned (.bool (taggedB g b (T.bstr zg) (untB ver to fr tok))) ∧ Below w.heap.size w w' := by
  have hb := below_alloc w (.cells #[.int .i64 ver, .slice a2 to.length c2, .slice a3 fr.length c3, .int .i64 tok, .int .i64 tag] 32)
  have c1 := untagged_any (ver := ver) (tok := tok) (tag := tag) (h2.below hb) (h3.below hb)
  generalize untB ver to fr tok = u at *
  obtain ⟨k, f, s, r, t1, t2, t3, t4, t5⟩ := ht
  have H := Lib.hid (And.intro h (And.intro hb (And.intro hg (And.intro t1 (And.intro t2 (And.intro t3 (And.intro t4 t5)))))))
  have hA := Lib.hid (heap_alloc_new w (.cells #[.int .i64 ver, .slice a2 to.length c2, .slice a3 fr.length c3, .int .i64 tok, .int .i64 tag] 32))
  obtain ⟨ga, gc, rfl⟩ := hg.shape
  have hcv : ∀ (w : World) (o : Obj) (C : Array Value) (n c : Nat), (convert 22 22 (.slice (some ⟨w.heap.size + 1, 0, none⟩) n c)).run Try.prog ((w.alloc o).alloc (.cells C 5)) = .ok (.slice (some ⟨w.heap.size + 1, 0, none⟩) n c) ((w.alloc o).alloc (.cells C 5 (C.size, C.size + 1))) := fun w o C n c => by
    have := T.conv_const (w.alloc o) C n c
    simpa only [World.size_alloc] using this
  have hu : u = [] ∨ u ≠ [] := by cases u <;> simp
  clear h h2 h3 hb hg t1 t2 t3 t4 t5
  rcases hu with rfl | hu
  · go_enter Try.func11, Try.ntmps11
    go_wp2_with fail
    refine c1.mono ?_
    rintro e w1 ⟨v, rfl, hr, hb1, _⟩
    obtain ⟨ao, cap, rfl⟩ := hr.shape
    have x4 : w1.cell? ⟨w.heap.size, 4, none⟩ = some (.int .i64 tag) := (cell_of_row _ w.heap.size 4 _ 32 (0, 0) ((hb1.block _ (blk_lt' hA.out)).trans hA.out)).trans rfl
    have c2 := ((H.out.1.keep H.out.2.1).keep hb1).st.st.look2 H.out.2.2.2.2.2.2.2
    have HB := Lib.hid (H.out.2.1.trans (hb1.mono H.out.2.1.size))
    clear c1 hr hb1
    go_wp2_with fail
    refine c2.mono ?_
    rintro e w2 ⟨gM, capM, rfl, cm1, cm2, cm3, m0, m1, _, hb2⟩
    have HB2 := Lib.hid ((HB.out.trans (hb2.mono HB.out.size)).trans ((below_alloc w2 (.cells #[.int .i64 5, .string ByteArray.empty, .slice (some ⟨gM, 0, none⟩) 2 capM] 54)).mono (Nat.le_trans HB.out.size hb2.size)))
    clear c2 hb2 x4
    go_wp2_with fail
    go_ret
    exact ⟨rfl, HB2.out⟩
  · have hu0 : ((u.length : Int) == 0) = false := by
      rw [beq_eq_false_iff_ne]
      intro e
      exact hu (List.eq_nil_of_length_eq_zero (by omega))
    rw [show taggedB g b (T.bstr zg) u = (T.seq g (T.bstr zg) && T.seq b (T.bstr u)) by unfold taggedB; rw [decide_eq_true hu, Bool.true_and]]
    clear hu
    obtain ⟨q1, hq1⟩ : ∃ q, q = T.seq g (T.bstr zg) := ⟨_, rfl⟩
    obtain ⟨q2, hq2⟩ : ∃ q, q = T.seq b (T.bstr u) := ⟨_, rfl⟩
    rw [← hq1, ← hq2]
    have HQ := Lib.hid (And.intro hq1 hq2)
    clear hq1 hq2
    go_enter Try.func11, Try.ntmps11
    go_wp2_with fail
    refine c1.mono ?_
    rintro e w1 ⟨v, rfl, hr, hb1, _⟩
    obtain ⟨ao, cap, rfl⟩ := hr.shape
    have x4 : w1.cell? ⟨w.heap.size, 4, none⟩ = some (.int .i64 tag) := (cell_of_row _ w.heap.size 4 _ 32 (0, 0) ((hb1.block _ (blk_lt' hA.out)).trans hA.out)).trans rfl
    have g1 := (H.out.1.keep H.out.2.1).keep hb1
    have c2 := g1.st.st.look2 H.out.2.2.2.2.2.2.2
    have HB := Lib.hid (And.intro (H.out.2.1.trans (hb1.mono H.out.2.1.size)) (And.intro g1 hr))
    clear c1 hr hb1 g1
    go_wp2_with fail
    refine c2.mono ?_
    rintro e w2 ⟨gM, capM, rfl, cm1, cm2, cm3, m0, m1, _, hb2⟩
    obtain ⟨X2, hX2⟩ : ∃ X, X = w2.alloc (.cells #[.int .i64 5, .string ByteArray.empty, .slice (some ⟨gM, 0, none⟩) 2 capM] 54) := ⟨_, rfl⟩
    have hbX : Below w2.heap.size w2 X2 := by rw [hX2]; exact below_alloc _ _
    have hb2X : Below w1.heap.size w1 X2 := hb2.trans (hbX.mono hb2.size)
    have c3 := (HB.out.2.1.keep hb2X).st.st.look2 H.out.2.2.2.2.2.2.1
    have hA8 : X2.heap[w2.heap.size]? = some (.cells #[.int .i64 5, .string ByteArray.empty, .slice (some ⟨gM, 0, none⟩) 2 capM] 54 (0, 0)) := by rw [hX2]; exact heap_alloc_new _ _
    have H2 := Lib.hid (And.intro hb2X (And.intro hA8 (And.intro (show X2.cell? ⟨gM, 0, none⟩ = some (.int .i64 k) by rw [hbX.cell (cell_lt m0)]; exact m0) (Nat.lt_of_lt_of_le cm3 hbX.size))))
    clear c2 x4 hb2 hbX hb2X hA8 m0
    rw [hX2] at c3
    go_wp2_with fail
    refine c3.mono ?_
    rintro e w3 ⟨gR, capR, rfl, cr1, cr2, cr3, r0, r1, _, hb3⟩
    rw [← hX2] at hb3
    have y2 : w3.cell? ⟨w2.heap.size, 2, none⟩ = some (.slice (some ⟨gM, 0, none⟩) 2 capM) := (cell_of_row _ w2.heap.size 2 _ 54 (0, 0) ((hb3.block _ (blk_lt' H2.out.2.1)).trans H2.out.2.1)).trans rfl
    have y0 : w3.cell? ⟨gM, 0, none⟩ = some (.int .i64 k) := by rw [hb3.cell (cell_lt H2.out.2.2.1)]; exact H2.out.2.2.1
    have yl : w2.heap.size < w3.heap.size := Nat.lt_of_lt_of_le (blk_lt' H2.out.2.1) hb3.size
    have yg : gM < w3.heap.size := Nat.lt_of_lt_of_le H2.out.2.2.2 hb3.size
    have hb13 : Below w1.heap.size w1 w3 := H2.out.1.trans (hb3.mono H2.out.1.size)
    have H3 := Lib.hid hb13
    clear c3 hX2 hb3 hb13
    have b10 := below_alloc w3 (.cells #[.int .i64 3, .string ByteArray.empty, .slice (some ⟨gR, 0, none⟩) 2 capR] 54)
    have bl5 := below_alloc (w3.alloc (.cells #[.int .i64 3, .string ByteArray.empty, .slice (some ⟨gR, 0, none⟩) 2 capR] 54)) (.cells (T.cs .u8 [114, 101, 116, 114, 121]).toArray 5 ((T.cs .u8 [114, 101, 116, 114, 121]).toArray.size, (T.cs .u8 [114, 101, 116, 114, 121]).toArray.size + 1))
    have bX5 := b10.trans (bl5.mono b10.size)
    have rl5 := T.Rd.litM (w3.alloc (.cells #[.int .i64 3, .string ByteArray.empty, .slice (some ⟨gR, 0, none⟩) 2 capR] 54)) [114, 101, 116, 114, 121] 5 rfl (by simp)
    rw [World.size_alloc] at rl5
    have c4 := stext_any ((HB.out.2.1.keep H3.out).keep bX5).st.st H.out.2.2.2.1 rl5
    rw [show T.seq T.lRetry (T.bstr [114, 101, 116, 114, 121]) = true by rw [T.seq_eq]; exact decide_eq_true rfl] at c4
    have H5 := Lib.hid bX5
    have HA10 := Lib.hid (heap_alloc_new w3 (.cells #[.int .i64 3, .string ByteArray.empty, .slice (some ⟨gR, 0, none⟩) 2 capR] 54))
    have HRR := Lib.hid (And.intro r0 (And.intro r1 cr3))
    clear b10 bl5 bX5 rl5
    go_wp2_with fail
    refine c4.mono ?_
    rintro e w4 ⟨rfl, hb4⟩
    have hb34 : Below w3.heap.size w3 w4 := H5.out.trans (hb4.mono H5.out.size)
    have z2 : w4.cell? ⟨w3.heap.size, 2, none⟩ = some (.slice (some ⟨gR, 0, none⟩) 2 capR) := (cell_of_row _ w3.heap.size 2 _ 54 (0, 0) ((hb4.block _ (by rw [World.size_alloc, World.size_alloc]; omega)).trans (((below_alloc (w3.alloc _) _).block _ (by rw [World.size_alloc]; omega)).trans HA10.out))).trans rfl
    have z0 : w4.cell? ⟨gR, 0, none⟩ = some (.int .i64 f) := by rw [hb34.cell HRR.out.2.2]; exact HRR.out.1
    have z1 : w4.cell? ⟨gR, 1, none⟩ = some (.int .i64 s) := by rw [hb34.cell HRR.out.2.2]; exact HRR.out.2.1
    have hb14 : Below w1.heap.size w1 w4 := H3.out.trans (hb34.mono H3.out.size)
    have hbw4 := HB.out.1.trans (hb14.mono HB.out.1.size)
    have c5 := stext_any (HB.out.2.1.keep hb14).st.st H.out.2.2.2.2.1 (H.out.2.2.1.below hbw4).toT
    rw [← HQ.out.1] at c5
    have zl : w3.heap.size < w4.heap.size := by have := hb4.size; simp at this; omega
    have H4 := Lib.hid (And.intro hb14 hbw4)
    clear c4 hb34 hb14 hbw4 y2 y0 yl yg r0 r1
    cases q1 with
    | false =>
      go_wp2_with fail
      refine c5.mono ?_
      rintro e w5 ⟨rfl, hb5⟩
      have H6 := Lib.hid (H4.out.2.trans (hb5.mono H4.out.2.size))
      clear c5 hb5
      go_wp2_with fail
      go_ret
      exact ⟨rfl, H6.out⟩
    | true =>
      go_wp2_with fail
      refine c5.mono ?_
      rintro e w5 ⟨rfl, hb5⟩
      have v2 : w5.cell? ⟨w3.heap.size, 2, none⟩ = some (.slice (some ⟨gR, 0, none⟩) 2 capR) := by rw [hb5.cell (cell_lt z2)]; exact z2
      have v1 : w5.cell? ⟨gR, 1, none⟩ = some (.int .i64 s) := by rw [hb5.cell (cell_lt z1)]; exact z1
      have hb15 := H4.out.1.trans (hb5.mono H4.out.1.size)
      have c6 := stext_any (HB.out.2.1.keep hb15).st.st H.out.2.2.2.2.2.1 (HB.out.2.2.below hb15).toT
      rw [← HQ.out.2] at c6
      have H6 := Lib.hid (H4.out.2.trans (hb5.mono H4.out.2.size))
      clear c5 hb5 z0 z1 z2 hb15
      go_wp2_with fail
      refine c6.mono ?_
      rintro e w6 ⟨rfl, hb6⟩
      have H7 := Lib.hid (H6.out.trans (hb6.mono H6.out.size))
      clear c6 hb6
      go_wp2_with fail
      go_ret
      exact ⟨rfl, H7.out⟩
#print axioms tagged_is
end Go.Proofs.Ytkmjdpnbakcgcaa
