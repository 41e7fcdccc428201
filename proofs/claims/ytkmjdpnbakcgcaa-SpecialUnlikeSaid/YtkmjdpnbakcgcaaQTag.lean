/- special: the bytes without a tag. -/
import Derived.Test.YtkmjdpnbakcgcaaQWrites
import Derived.Test.YtkmjdpnbakcgcaaTSgB
namespace Go.Proofs.Ytkmjdpnbakcgcaa
open Go Go.RowKit

theorem Rd.toT {w : World} {v : Value} {zs : List Int} (h : Rd w v zs) : T.Rd .u8 w v zs := by
  obtain ⟨ao, cap, h1, h2, h3, h4, _, h6⟩ := h
  exact ⟨ao, cap, h1, h2, h3, h4, h6⟩
/-- The bytes of a retry without its tag; none, if it may not be with any. -/
def untB (ver : Int) (to fr : List Int) (tok : Int) : List Int := if retryB ver to fr tok 1 then headBs 240 ver to fr ++ numB tok else []
theorem untB_len {ver tok : Int} {to fr : List Int} : (untB ver to fr tok).length ≤ 60 := by
  unfold untB
  split
  · rename_i h
    simp only [retryB, Bool.and_eq_true, decide_eq_true_eq] at h
    rw [List.length_append, headBs_len, numB_len]
    split <;> omega
  · simp
theorem retryW_one (ver tok : Int) (to fr : List Int) : (retryW ver to fr tok 1 = [] ∧ untB ver to fr tok = []) ∨ (retryW ver to fr tok 1 = untB ver to fr tok ++ numB 1 ∧ 4 ≤ (untB ver to fr tok).length) := by
  unfold retryW untB
  cases hb : retryB ver to fr tok 1 with
  | false => exact .inl ⟨rfl, rfl⟩
  | true =>
    refine .inr ⟨rfl, ?_⟩
    simp only [if_true]
    rw [List.length_append, headBs_len]
    omega
theorem Rd.cut {w : World} {ao : Option Addr} {cap n : Nat} {zs : List Int} (h : Rd w (.slice ao zs.length cap) zs) (hn : n ≤ zs.length) : Rd w (.slice ao n cap) (zs.take n) := by
  obtain ⟨a2, c2, h1, h2, h3, h4, h5, h6⟩ := h
  simp only [Value.slice.injEq] at h1
  obtain ⟨rfl, _, rfl⟩ := h1
  have hl : (zs.take n).length = n := by simp; omega
  refine ⟨ao, cap, by rw [hl], by omega, h3, h4, (fun z hz => h5 z (List.mem_of_mem_take hz)), fun a ha j hj => ?_⟩
  rw [hl] at hj
  rw [h6 a ha j (by omega)]
  simp [List.getD, hj]
/-- A slice of bytes of the program's own, or none. -/
def Own5 (w : World) (v : Value) : Prop := v = .slice none 0 0 ∨ ∃ base n xs, w.ownsRow base 5 1 v n xs
theorem Own5.blk {w : World} {ad : Addr} {n cap : Nat} (h : Own5 w (.slice (some ad) n cap)) : ∃ c, w.heap[ad.block]? = some (.cells c 5 (0, 0)) := by
  rcases h with h | ⟨base, m, xs, h⟩
  · cases h
  · rcases h.2 with ⟨h1, _⟩ | ⟨g, cp, cur, h1, _, hh, _⟩
    · cases h1
    · simp only [Value.slice.injEq, Option.some.injEq] at h1
      obtain ⟨rfl, _, _⟩ := h1
      exact ⟨cur, hh⟩
set_option maxRecDepth 20000 in
set_option maxHeartbeats 2000000 in
theorem writeretry_o {w : World} {a2 a3 : Option Addr} {c2 c3 : Nat} {to fr : List Int} {ver tok tag : Int} (h2 : Rd w (.slice a2 to.length c2) to) (h3 : Rd w (.slice a3 fr.length c3) fr) :
    Calls Try.prog 19 #[.agg #[.int .i64 ver, .slice a2 to.length c2, .slice a3 fr.length c3, .int .i64 tok, .int .i64 tag]] w fun e w' => ∃ v', e = .returned v' ∧ (Rd w' v' (retryW ver to fr tok tag) ∧ Own5 w' v') ∧ Below w.heap.size w w' := by
  have hB := below_alloc w (.cells #[.int .i64 ver, .slice a2 to.length c2, .slice a3 fr.length c3, .int .i64 tok, .int .i64 tag] 32)
  have x0 : (w.alloc (.cells #[.int .i64 ver, .slice a2 to.length c2, .slice a3 fr.length c3, .int .i64 tok, .int .i64 tag] 32)).heap[w.heap.size]? = some (.cells #[.int .i64 ver, .slice a2 to.length c2, .slice a3 fr.length c3, .int .i64 tok, .int .i64 tag] 32 (0, 0)) := heap_alloc_new w _
  have HX := Lib.hid x0
  have hr := rightretry_any (w := w.alloc (.cells #[.int .i64 ver, .slice a2 to.length c2, .slice a3 fr.length c3, .int .i64 tok, .int .i64 tag] 32)) (a2 := a2) (c2 := c2) (a3 := a3) (c3 := c3) (to := to) (fr := fr) (ver := ver) (tok := tok) (tag := tag)
  have hbt := retryW_byt (ver := ver) (tok := tok) (tag := tag) h2.byt h3.byt
  have HBT := Lib.hid hbt
  clear x0 hbt
  cases hb : retryB ver to fr tok tag with
  | false =>
    have HE : Hid (retryW ver to fr tok tag = []) := Lib.hid (by unfold retryW; rw [hb]; rfl)
    rw [hb] at hr
    clear hb h2 h3
    go_enter Try.func19, Try.ntmps19
    go_wp2_with (go_at_call 28; refine hr.mono ?_; rintro e w1 ⟨rfl, b1⟩)
    go_ret
    exact ⟨_, rfl, ⟨by rw [HE.out]; exact Rd.nil _, .inl rfl⟩, hB.trans (b1.mono hB.size)⟩
  | true =>
    have HE : Hid (retryW ver to fr tok tag = headBs 240 ver to fr ++ numB tok ++ numB tag) := Lib.hid (by unfold retryW; rw [hb]; rfl)
    rw [hb] at hr
    simp only [retryB, Bool.and_eq_true, decide_eq_true_eq, verB] at hb
    obtain ⟨⟨⟨⟨hv0, hv1⟩, l2, l3⟩, t1⟩, t2⟩ := hb
    have H2 := Lib.hid h2
    have H3 := Lib.hid h3
    have HL2 := Lib.hid l2
    have HL3 := Lib.hid l3
    have HN1 : Hid ((numB tok).length = 4) := Lib.hid (by rw [numB_len, t1]; rfl)
    have HN2 : Hid ((numB tag).length = 4) := Lib.hid (by rw [numB_len, t2]; rfl)
    clear h2 h3 l2 l3 t1 t2
    go_enter Try.func19, Try.ntmps19
    go_wp2_with fail
    refine hr.mono ?_
    rintro e w1 ⟨rfl, b1⟩
    have HX1 := Lib.hid ((b1.block w.heap.size (by simp)).trans HX.out)
    have B1 := Lib.hid (hB.trans (b1.mono hB.size))
    have y0 : w1.cell? ⟨w.heap.size, 0, none⟩ = some (.int .i64 ver) := (cell_of_row _ w.heap.size 0 _ _ (0, 0) HX1.out).trans rfl
    have y1 : w1.cell? ⟨w.heap.size, 1, none⟩ = some (.slice a2 to.length c2) := (cell_of_row _ w.heap.size 1 _ _ (0, 0) HX1.out).trans rfl
    have y2 : w1.cell? ⟨w.heap.size, 2, none⟩ = some (.slice a3 fr.length c3) := (cell_of_row _ w.heap.size 2 _ _ (0, 0) HX1.out).trans rfl
    have hbe := begin_any (H2.out.below B1.out) (H3.out.below B1.out) HL2.out HL3.out 240 ver (by decide) (by decide) (by omega) hv1
    have hlt1 := blk_lt' HX1.out
    clear b1 hr
    go_wp2_with fail
    refine hbe.mono ?_
    rintro e w2 ⟨v2, rfl, o2, b2⟩
    have HX2 := Lib.hid ((b2.block w.heap.size hlt1).trans HX1.out)
    have B2 := Lib.hid (B1.out.trans (b2.mono B1.out.size))
    have hlt2 := blk_lt' HX2.out
    have O2 := Lib.hid (own_mono o2 (show w.heap.size + 1 ≤ w1.heap.size from hlt1))
    have z3 : w2.cell? ⟨w.heap.size, 3, none⟩ = some (.int .i64 tok) := (cell_of_row _ w.heap.size 3 _ _ (0, 0) HX2.out).trans rfl
    have hi1 := inumber_any tok w2
    clear b2 o2 hbe y0 y1 y2
    go_wp2_with fail
    refine hi1.mono ?_
    rintro e w3 ⟨v3, rfl, r3, b3⟩
    have R3 := Lib.hid r3
    have O3 := Lib.hid (own_below O2.out b3)
    have HX3 := Lib.hid ((b3.block w.heap.size hlt2).trans HX2.out)
    have B3 := Lib.hid (B2.out.trans (b3.mono B2.out.size))
    have hlt3 := blk_lt' HX3.out
    clear hi1 b3 r3 z3
    go_wp2_with (at_builtin; refine wpList_append_bytes (.tmp 14) (.tmp 17) 22 rfl rfl info5 Try.underlying22 (w.heap.size + 1) _ _ _ rfl O3.out _ _ rfl R3.out (by rw [headBs_len, HN1.out]; have := HL2.out; have := HL3.out; omega) hlt3 ?_; intro v4 w4 o4 b4; have HX4 := Lib.hid ((b4.block w.heap.size (by omega)).trans HX3.out); have B4 := Lib.hid (B3.out.trans (b4.mono (by omega))); have z4 : w4.cell? ⟨w.heap.size, 4, none⟩ = some (.int .i64 tag) := (cell_of_row _ w.heap.size 4 _ _ (0, 0) HX4.out).trans rfl; have O4 := Lib.hid o4; have hlt4 := blk_lt' HX4.out; clear o4 b4)
    have hi2 := inumber_any tag w4
    refine hi2.mono ?_
    rintro e w5 ⟨v5, rfl, r5, b5⟩
    have R5 := Lib.hid r5
    have O5 := Lib.hid (own_below O4.out b5)
    have B5 := Lib.hid (B4.out.trans (b5.mono B4.out.size))
    have hlt5 : w.heap.size + 1 ≤ w5.heap.size := Nat.le_trans hlt4 b5.size
    clear hi2 b5 r5 z4
    go_wp2_with (at_builtin; refine wpList_append_bytes (.tmp 19) (.tmp 22) 22 rfl rfl info5 Try.underlying22 (w.heap.size + 1) _ _ _ rfl O5.out _ _ rfl R5.out (by rw [headBs_len, HN1.out, HN2.out]; have := HL2.out; have := HL3.out; omega) hlt5 ?_; intro v6 w6 o6 b6; have B6 := Lib.hid (B5.out.trans (b6.mono (by omega))); have O6 := Lib.hid o6; clear o6 b6)
    go_ret
    exact ⟨_, rfl, ⟨by rw [HE.out]; exact (Rd.of_own O6.out (by have := HBT.out; rw [HE.out] at this; exact this)).1, (.inr ⟨_, _, _, O6.out⟩)⟩, B6.out⟩
set_option maxRecDepth 20000 in
set_option maxHeartbeats 2000000 in
theorem untagged_any {w : World} {a2 a3 : Option Addr} {c2 c3 : Nat} {to fr : List Int} {ver tok tag : Int} (h2 : Rd w (.slice a2 to.length c2) to) (h3 : Rd w (.slice a3 fr.length c3) fr) :
    Calls Try.prog 13 #[.agg #[.int .i64 ver, .slice a2 to.length c2, .slice a3 fr.length c3, .int .i64 tok, .int .i64 tag]] w fun e w' => ∃ v', e = .returned v' ∧ Rd w' v' (untB ver to fr tok) ∧ Below w.heap.size w w' ∧ (∀ ad n cap, v' = .slice (some ad) n cap → ∃ c, w'.heap[ad.block]? = some (.cells c 5 (0, 0))) := by
  have c1 := fun W : World => writeretry_o (w := W) (a2 := a2) (a3 := a3) (c2 := c2) (c3 := c3) (to := to) (fr := fr) (ver := ver) (tok := tok) (tag := 1)
  have H := Lib.hid (And.intro h2 h3)
  have hl := untB_len (ver := ver) (tok := tok) (to := to) (fr := fr)
  have hcs := retryW_one ver tok to fr
  generalize untB ver to fr tok = u at *
  generalize retryW ver to fr tok 1 = W1 at *
  clear h2 h3
  rcases hcs with ⟨rfl, rfl⟩ | ⟨e1, e2⟩
  · have hw : IntKind.i64.wrap ((0 : Int) - 4) = -4 := by decide
    clear hl
    go_enter Try.func13, Try.ntmps13
    go_wp2_with fail
    have hb := below_alloc w (.cells #[.int .i64 ver, .slice a2 to.length c2, .slice a3 fr.length c3, .int .i64 tok, .int .i64 1] 32)
    refine (c1 _ (H.out.1.below hb) (H.out.2.below hb)).mono ?_
    rintro e w1 ⟨v, rfl, ⟨hr, ho⟩, hb1⟩
    have HO := Lib.hid ho
    clear ho
    have HB := Lib.hid (hb.trans (hb1.mono hb.size))
    obtain ⟨ao, cap, rfl⟩ := hr.shape
    have HR := Lib.hid hr
    obtain ⟨_, _, hv, hcap, hcm, hcn, _⟩ := hr
    simp only [Value.slice.injEq] at hv
    obtain ⟨rfl, _, rfl⟩ := hv
    unfold maxLen at hcm
    clear c1 hb hb1
    simp only [List.length_nil]
    go_wp2_with fail
    go_ret
    exact ⟨_, rfl, HR.out, HB.out, fun ad n cap h => by cases h; exact HO.out.blk⟩
  · have hn1 : (numB 1).length = 4 := by decide
    obtain ⟨m, hm⟩ : ∃ m, m = u.length := ⟨_, rfl⟩
    have hlen : W1.length = m + 4 := by rw [e1, List.length_append, hn1, hm]
    have hw : IntKind.i64.wrap (((m + 4 : Nat) : Int) - 4) = (m : Int) := by
      rw [show ((m + 4 : Nat) : Int) - 4 = (m : Int) by omega]
      exact IntWalk.i64_in _ ⟨by omega, by omega⟩
    have hm0 : (0 : Int) < (m : Int) := by omega
    have HL := Lib.hid (And.intro hlen (And.intro hm (And.intro e1 hl)))
    clear hlen e1 hl hm hn1 e2
    go_enter Try.func13, Try.ntmps13
    go_wp2_with fail
    have hb := below_alloc w (.cells #[.int .i64 ver, .slice a2 to.length c2, .slice a3 fr.length c3, .int .i64 tok, .int .i64 1] 32)
    refine (c1 _ (H.out.1.below hb) (H.out.2.below hb)).mono ?_
    rintro e w1 ⟨v, rfl, ⟨hr, ho⟩, hb1⟩
    have HO := Lib.hid ho
    clear ho
    have HB := Lib.hid (hb.trans (hb1.mono hb.size))
    obtain ⟨ao, cap, rfl⟩ := hr.shape
    have HR := Lib.hid (hr.cut (n := m) (by have := HL.out.1; omega))
    obtain ⟨_, _, hv, hcap, hcm, hcn, _⟩ := hr
    simp only [Value.slice.injEq] at hv
    obtain ⟨rfl, _, rfl⟩ := hv
    rw [HL.out.1] at hcap ⊢
    unfold maxLen at hcm
    cases ao with
    | none => have := hcn rfl; omega
    | some ad =>
      have hmc : m ≤ cap := by omega
      clear c1 hb hb1 hcn
      go_wp2_with fail
      go_ret
      refine ⟨_, rfl, ?_, HB.out, fun ad2 n cap h => by cases h; exact HO.out.blk⟩
      have := HR.out
      rw [HL.out.2.2.1, HL.out.2.1, List.take_left'] at this
      · rw [HL.out.2.1]; exact this
      · rfl
#print axioms untagged_any
end Go.Proofs.Ytkmjdpnbakcgcaa
