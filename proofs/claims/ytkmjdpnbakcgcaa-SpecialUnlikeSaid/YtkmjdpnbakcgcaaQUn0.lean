/- SpecialUnlike: what its walk needs. -/
import Derived.Test.YtkmjdpnbakcgcaaQAsk2
namespace Go.Proofs.Ytkmjdpnbakcgcaa
open Go Go.RowKit

theorem big4_inj {v v' : Int} (h0 : 0 < v) (h1 : v < 4294967296) (h0' : 0 < v') (h1' : v' < 4294967296) (h : big v 4 = big v' 4) : v = v' := by
  simp only [big, List.cons.injEq, and_true] at h
  omega
theorem numB_inj {t t' : Int} (h : termB t = true) (h' : termB t' = true) (e : numB t = numB t') : t = t' := by
  simp only [termB, Bool.and_eq_true, decide_eq_true_eq] at h h'
  rw [numB_yes h, numB_yes h'] at e
  simp only [List.cons.injEq, and_true, true_and] at e
  omega
/-- Bytes of a retry tell its fields. -/
theorem untB_inj {ver vr tok tk : Int} {to fr tp fp : List Int} (h : retryB ver to fr tok 1 = true) (h' : retryB vr tp fp tk 1 = true) (e : untB ver to fr tok = untB vr tp fp tk) : ver = vr ∧ to = tp ∧ fr = fp ∧ tok = tk := by
  unfold untB at e
  rw [h, h'] at e
  simp only [if_true] at e
  unfold headBs at e
  simp only [List.append_assoc] at e
  have e1 := List.append_cancel_left e
  have b := List.append_inj e1 (by rw [big_len, big_len])
  simp only [retryB, verB, Bool.and_eq_true, decide_eq_true_eq] at h h'
  have hv := big4_inj h.1.1.1.1 h.1.1.1.2 h'.1.1.1.1 h'.1.1.1.2 b.1
  have e2 := b.2
  simp only [List.singleton_append, List.cons.injEq] at e2
  have hl : to.length = tp.length := by omega
  have c := List.append_inj e2.2 hl
  have e3 := c.2
  simp only [List.cons.injEq] at e3
  have hl2 : fr.length = fp.length := by omega
  have d := List.append_inj e3.2 hl2
  exact ⟨hv, c.1, d.1, numB_inj h.1.2 h'.1.2 d.2⟩
/-- What Tag tells. -/
def TagK (u : List Int) (g : ByteArray) (M : List T.Nd) (c : Int) : Prop := (u = [] ∧ c = 0) ∨ (u ≠ [] ∧ T.IsTag M c g (T.bstr u))
theorem TagK.ext {u : List Int} {g : ByteArray} {M M' : List T.Nd} {c : Int} (h : TagK u g M c) (hp : M <+: M') : TagK u g M' c := by
  rcases h with h | ⟨h1, h2⟩
  · exact .inl h
  · exact .inr ⟨h1, h2.ext hp⟩
variable {w0 w : World} {tb mb n : Nat} {N : List T.Nd} {rs : List (Nat × Obj)}
theorem tag_any (h : T.Gd w0 w tb mb N n rs) {gv : Value} {a2 a3 : Option Addr} {c2 c3 : Nat} {to fr zg : List Int} {ver tok tag : Int} (hg : Rd w0 gv zg) (hlg : zg.length ≤ 50) (h2 : Rd w (.slice a2 to.length c2) to) (h3 : Rd w (.slice a3 fr.length c3) fr) (hn : n ≤ 50000) :
    Calls Try.prog 6 #[.pointer (some ⟨tb, 0, none⟩), gv, .agg #[.int .i64 ver, .slice a2 to.length c2, .slice a3 fr.length c3, .int .i64 tok, .int .i64 tag]] w fun e w' => T.Tells w0 w' tb mb (n + 5) N rs e (TagK (untB ver to fr tok) (T.bstr zg)) := by
  by_cases hu : untB ver to fr tok = []
  · exact (tag_no h hg h2 h3 hu).mono fun e w' ⟨h1, h2⟩ => ⟨N, 0, h1, ⟨h2.st, h2.good, Nat.le_add_right_of_le h2.len⟩, List.prefix_rfl, .inl ⟨hu, rfl⟩⟩
  · exact (tag_yes h hg hlg h2 h3 hu hn).mono fun e w' ⟨N', c, h1, h2, h3, h4⟩ => ⟨N', c, h1, h2, h3, .inr ⟨hu, h4⟩⟩
/-- Are two retries with one tag alike? -/
def likeB (ver vr tok tk : Int) (to tp fr fp : List Int) : Bool := (ver == vr) && (decide (to = tp) && (decide (fr = fp) && (tok == tk)))
set_option maxRecDepth 20000 in
set_option maxHeartbeats 2000000 in
theorem retried_gen {w : World} {a2 a3 b2 b3 : Option Addr} {c2 c3 d2 d3 : Nat} {to fr tp fp : List Int} (ver vr tok tk tag : Int) (h2 : Rd w (.slice a2 to.length c2) to) (h3 : Rd w (.slice a3 fr.length c3) fr) (k2 : Rd w (.slice b2 tp.length d2) tp) (k3 : Rd w (.slice b3 fp.length d3) fp) :
    Calls Try.prog 10 #[.agg #[.int .i64 ver, .slice a2 to.length c2, .slice a3 fr.length c3, .int .i64 tok, .int .i64 tag], .agg #[.int .i64 vr, .slice b2 tp.length d2, .slice b3 fp.length d3, .int .i64 tk, .int .i64 tag]] w fun e w' => e = .returned (.bool (likeB ver vr tok tk to tp fr fp)) ∧ Below w.heap.size w w' := by
  obtain ⟨W, hW⟩ : ∃ W, (w.alloc (.cells #[.int .i64 ver, .slice a2 to.length c2, .slice a3 fr.length c3, .int .i64 tok, .int .i64 tag] 32)).alloc (.cells #[.int .i64 vr, .slice b2 tp.length d2, .slice b3 fp.length d3, .int .i64 tk, .int .i64 tag] 24) = W := ⟨_, rfl⟩
  have hB : Below w.heap.size w W := by rw [← hW]; exact (below_alloc w _).trans ((below_alloc _ _).mono (by simp))
  have hL : W.heap[w.heap.size]? = some (.cells #[.int .i64 ver, .slice a2 to.length c2, .slice a3 fr.length c3, .int .i64 tok, .int .i64 tag] 32 (0, 0)) := by
    rw [← hW]; exact (Below.heap_alloc _ _ _ (by simp)).trans (heap_alloc_new w _)
  have hR : W.heap[w.heap.size + 1]? = some (.cells #[.int .i64 vr, .slice b2 tp.length d2, .slice b3 fp.length d3, .int .i64 tk, .int .i64 tag] 24 (0, 0)) := by
    rw [← hW]
    have := heap_alloc_new (w.alloc (.cells #[.int .i64 ver, .slice a2 to.length c2, .slice a3 fr.length c3, .int .i64 tok, .int .i64 tag] 32)) (.cells #[.int .i64 vr, .slice b2 tp.length d2, .slice b3 fp.length d3, .int .i64 tk, .int .i64 tag] 24)
    rw [World.size_alloc] at this
    exact this
  have HL := Lib.hid hL
  have HR := Lib.hid hR
  have HB := Lib.hid hB
  have c1 := same_any (h2.below hB) (k2.below hB)
  have c2' := fun (w1 : World) (hb : Below W.heap.size W w1) => same_any ((h3.below hB).below hb) ((k3.below hB).below hb)
  have hvv : ∀ x y : Int, (x == y) = decide (x = y) := fun x y => by by_cases h : x = y <;> simp [h]
  obtain ⟨g0, g1, g2, g3, g4, gf⟩ := cells5 hL
  obtain ⟨m0, m1, m2, m3, m4, mf⟩ := cells5 hR
  have htt : (tag == tag) = true := by simp
  unfold likeB
  generalize decide (to = tp) = q1 at *
  generalize decide (fr = fp) = q2 at *
  obtain ⟨q0, hq0⟩ : ∃ q, (ver == vr) = q := ⟨_, rfl⟩
  obtain ⟨q3, hq3⟩ : ∃ q, (tok == tk) = q := ⟨_, rfl⟩
  rw [hq0, hq3]
  clear h2 h3 k2 k3 hB hL hR hvv
  cases q0 with
  | false =>
    simp only [Bool.false_and]
    go_enter Try.func10, Try.ntmps10
    go_wp2_with fail
    go_ret
    exact ⟨rfl, HB.out⟩
  | true =>
    simp only [Bool.true_and]
    cases q1 with
    | false =>
      simp only [Bool.false_and]
      go_enter Try.func10, Try.ntmps10
      go_wp2_with fail
      refine c1.mono ?_
      rintro e w1 ⟨rfl, b1⟩
      clear hW
      go_wp2_with fail
      go_ret
      exact ⟨rfl, HB.out.trans (b1.mono HB.out.size)⟩
    | true =>
      simp only [Bool.true_and]
      go_enter Try.func10, Try.ntmps10
      go_wp2_with fail
      refine c1.mono ?_
      rintro e w1 ⟨rfl, b1⟩
      have c3 := c2' w1 b1
      have HL1 := Lib.hid ((b1.block _ (blk_lt' HL.out)).trans HL.out)
      have HR1 := Lib.hid ((b1.block _ (blk_lt' HR.out)).trans HR.out)
      have HB1 := Lib.hid (HB.out.trans (b1.mono HB.out.size))
      clear hW c1 c2' b1 g0 g1 g2 g3 g4 gf m0 m1 m2 m3 m4 mf
      obtain ⟨g0, g1, g2, g3, g4, gf⟩ := cells5 HL1.out
      obtain ⟨m0, m1, m2, m3, m4, mf⟩ := cells5 HR1.out
      go_wp2_with fail
      refine c3.mono ?_
      rintro e w2 ⟨rfl, b2⟩
      have HB2 := Lib.hid (HB1.out.trans (b2.mono HB1.out.size))
      have HL2 := Lib.hid ((b2.block _ (blk_lt' HL1.out)).trans HL1.out)
      have HR2 := Lib.hid ((b2.block _ (blk_lt' HR1.out)).trans HR1.out)
      clear c3 b2 g0 g1 g2 g3 g4 gf m0 m1 m2 m3 m4 mf
      obtain ⟨g0, g1, g2, g3, g4, gf⟩ := cells5 HL2.out
      obtain ⟨m0, m1, m2, m3, m4, mf⟩ := cells5 HR2.out
      cases q2 with
      | false =>
        go_wp2_with fail
        go_ret
        exact ⟨rfl, HB2.out⟩
      | true =>
        cases q3 with
        | false =>
          go_wp2_with fail
          go_ret
          exact ⟨rfl, HB2.out⟩
        | true =>
          go_wp2_with fail
          go_ret
          exact ⟨rfl, HB2.out⟩
#print axioms retried_gen
end Go.Proofs.Ytkmjdpnbakcgcaa
