/- The bytes of a retry: the document's, whole. -/
import Derived.Test.YtjdlmmbkppaenaaQRRetry
import Derived.Deep.RegionHeld3
namespace Go.Proofs.Ytjdlmmbkppaenaa
open Go Go.RowKit

theorem kept {w w' : World} {b o : Nat} {v : Value} (hb : Below w.heap.size w w') (h : w.cell? ⟨b, o, none⟩ = some v) : w'.cell? ⟨b, o, none⟩ = some v := by
  rw [hb.cell (p := ⟨b, o, none⟩) (cell_lt h)]; exact h
theorem kept5 {w w' : World} {b : Nat} {v0 v1 v2 v3 v4 : Value} (hb : Below w.heap.size w w') (h : w.cell? ⟨b, 0, none⟩ = some v0 ∧ w.cell? ⟨b, 1, none⟩ = some v1 ∧ w.cell? ⟨b, 2, none⟩ = some v2 ∧ w.cell? ⟨b, 3, none⟩ = some v3 ∧ w.cell? ⟨b, 4, none⟩ = some v4) :
    w'.cell? ⟨b, 0, none⟩ = some v0 ∧ w'.cell? ⟨b, 1, none⟩ = some v1 ∧ w'.cell? ⟨b, 2, none⟩ = some v2 ∧ w'.cell? ⟨b, 3, none⟩ = some v3 ∧ w'.cell? ⟨b, 4, none⟩ = some v4 :=
  ⟨kept hb h.1, kept hb h.2.1, kept hb h.2.2.1, kept hb h.2.2.2.1, kept hb h.2.2.2.2⟩
theorem shapeO {w : World} {base : Nat} {v : Value} {zs : List Int} (h : w.ownsRow base 5 1 v zs.length (by8 zs)) (hz : Byt zs) : ∃ ao cap, v = .slice ao zs.length cap := by
  obtain ⟨ao, cap, hv, _⟩ := (Rd.of_own h hz).1
  exact ⟨ao, cap, hv⟩
set_option maxRecDepth 20000 in
set_option maxHeartbeats 4000000 in
theorem rwriteretry_any {w : World} {a2 a3 : Option Addr} {c2 c3 : Nat} {to fr : List Int} {ver tok tag : Int} (h2 : Rd w (.slice a2 to.length c2) to) (h3 : Rd w (.slice a3 fr.length c3) fr) :
    Calls Try.prog 14 #[.agg #[.int .i64 ver, .slice a2 to.length c2, .slice a3 fr.length c3, .int .i64 tok, .int .i64 tag]] w fun e w' => ∃ v', e = .returned v' ∧ Rd w' v' (retryW ver to fr tok tag) ∧ Below w.heap.size w w' := by
  obtain ⟨W, hW⟩ : ∃ W, w.alloc (.cells #[.int .i64 ver, .slice a2 to.length c2, .slice a3 fr.length c3, .int .i64 tok, .int .i64 tag] 27) = W := ⟨_, rfl⟩
  have hB : Below w.heap.size w W.drew := by rw [← hW]; exact (below_alloc w _).drew
  have x0 : W.heap[w.heap.size]? = some (.cells #[.int .i64 ver, .slice a2 to.length c2, .slice a3 fr.length c3, .int .i64 tok, .int .i64 tag] 27 (0, 0)) := by rw [← hW]; exact heap_alloc_new w _
  have hx : W.drew.cell? ⟨w.heap.size, 0, none⟩ = some (.int .i64 ver) ∧ W.drew.cell? ⟨w.heap.size, 1, none⟩ = some (.slice a2 to.length c2) ∧ W.drew.cell? ⟨w.heap.size, 2, none⟩ = some (.slice a3 fr.length c3) ∧ W.drew.cell? ⟨w.heap.size, 3, none⟩ = some (.int .i64 tok) ∧ W.drew.cell? ⟨w.heap.size, 4, none⟩ = some (.int .i64 tag) :=
    ⟨(cell_of_row _ w.heap.size 0 _ _ (0, 0) x0).trans rfl, (cell_of_row _ w.heap.size 1 _ _ (0, 0) x0).trans rfl, (cell_of_row _ w.heap.size 2 _ _ (0, 0) x0).trans rfl, (cell_of_row _ w.heap.size 3 _ _ (0, 0) x0).trans rfl, (cell_of_row _ w.heap.size 4 _ _ (0, 0) x0).trans rfl⟩
  have hbo := body_any (w := W.drew) (ver := ver) (tok := tok) (tag := tag) (h2.below hB) (h3.below hB)
  have hbb := bodyW_byt (ver := ver) (tok := tok) h2.byt h3.byt
  have HBL : Hid ((bodyW ver to fr tok).length ≤ 100000) := Lib.hid bodyW_len
  have HRW := Lib.hid (retryW_body ver to fr tok tag)
  have hrb := retryW_byt (ver := ver) (tok := tok) (tag := tag) h2.byt h3.byt
  have HNB := Lib.hid (numB_byt tag)
  have HNL : Hid ((numB tag).length ≤ 4) := Lib.hid (by rw [numB_len]; split <;> omega)
  generalize bodyW ver to fr tok = Bd at hbo hbb HBL HRW
  generalize retryW ver to fr tok tag = RW at HRW hrb
  have HBB := Lib.hid hbb
  have HRB := Lib.hid hrb
  have HB := Lib.hid hB
  have HX := Lib.hid hx
  clear h2 h3 x0 hbb hrb
  go_enter Try.func14, Try.ntmps14
  go_wp2_with fail
  clear hW
  go_region_held3 (fun w' => w'.cell? ⟨w.heap.size, 0, none⟩ = some (.int .i64 ver) ∧ w'.cell? ⟨w.heap.size, 1, none⟩ = some (.slice a2 to.length c2) ∧ w'.cell? ⟨w.heap.size, 2, none⟩ = some (.slice a3 fr.length c3) ∧ w'.cell? ⟨w.heap.size, 3, none⟩ = some (.int .i64 tok) ∧ w'.cell? ⟨w.heap.size, 4, none⟩ = some (.int .i64 tag))
    (first | with_reducible exact hx | with_reducible exact kept5 b2 (by assumption) | with_reducible exact kept5 b3 (by assumption))
    (first
      | (go_at_call 33; refine hbo.mono ?_; rintro e w2 ⟨v2, rfl, o2, b2⟩; obtain ⟨ab, cb, rfl⟩ := shapeO o2 HBB.out; have O2 := Lib.hid o2; clear o2)
      | (go_at_call 34; refine (rnumber_any tag _).mono ?_; rintro e w3 ⟨v3, rfl, o3, b3⟩; obtain ⟨an, cn, rfl⟩ := shapeO o3 HNB.out; have O3 := Lib.hid o3; clear o3))
  have B2 := Lib.hid (HB.out.trans (b2.mono HB.out.size))
  have B3 := Lib.hid (B2.out.trans (b3.mono B2.out.size))
  have O23 := Lib.hid (own_below O2.out b3)
  have s3 : W.drew.heap.size ≤ w3.heap.size := Nat.le_trans b2.size b3.size
  have hw : w.heap.size ≤ W.drew.heap.size := HB.out.size
  generalize numB tag = Nb at *
  clear hbo b2 b3 hx
  by_cases hz : Bd = []
  · have hz' : ((Bd.length : Int) == 0) = true := by rw [hz]; rfl
    have HE : Hid (RW = []) := Lib.hid (by rw [HRW.out, if_pos (Or.inl hz)])
    clear hz
    go_wp2_with fail
    go_ret
    exact ⟨_, rfl, by rw [HE.out]; exact Rd.nil _, B3.out⟩
  · have hz' : ((Bd.length : Int) == 0) = false := by
      rw [beq_eq_false_iff_ne]
      intro h
      exact hz (List.eq_nil_of_length_eq_zero (by omega))
    by_cases hy : Nb = []
    · have hy' : ((Nb.length : Int) == 0) = true := by rw [hy]; rfl
      have HE : Hid (RW = []) := Lib.hid (by rw [HRW.out, if_pos (Or.inr hy)])
      clear hz hy
      go_wp2_with fail
      go_ret
      exact ⟨_, rfl, by rw [HE.out]; exact Rd.nil _, B3.out⟩
    · have hy' : ((Nb.length : Int) == 0) = false := by
        rw [beq_eq_false_iff_ne]
        intro h
        exact hy (List.eq_nil_of_length_eq_zero (by omega))
      have HE : Hid (RW = Bd ++ Nb) := Lib.hid (by rw [HRW.out, if_neg (by intro h; rcases h with h | h; exact hz h; exact hy h)])
      clear hz hy
      go_wp2_with (at_builtin; refine wpList_append_bytes (.tmp 18) (.tmp 19) 22 rfl rfl info5 Try.underlying22 W.drew.heap.size _ _ _ rfl O23.out _ _ rfl (Rd.of_own O3.out HNB.out).1 (by have := HBL.out; have := HNL.out; omega) s3 ?_; intro v4 w4 o4 b4; have O4 := Lib.hid o4; have B4 := Lib.hid (B3.out.trans (b4.mono hw)); clear o4 b4)
      go_ret
      exact ⟨_, rfl, by rw [HE.out]; exact (Rd.of_own O4.out (HBB.out.app HNB.out)).1, B4.out⟩
end Go.Proofs.Ytjdlmmbkppaenaa
