/- How both kinds of packets begin: the program's bytes, and the document's. -/
import Derived.Test.YtkmjdpnbakcgcaaQVer
import Derived.Test.YtkmjdpnbakcgcaaQNum
namespace Go.Proofs.Ytkmjdpnbakcgcaa
open Go Go.RowKit

/-- The first bytes of a packet without a key. -/
def headBs (mk ver : Int) (to fr : List Int) : List Int := [mk] ++ big ver 4 ++ [(to.length : Int)] ++ to ++ [(fr.length : Int)] ++ fr
theorem headBs_len (mk ver : Int) (to fr : List Int) : (headBs mk ver to fr).length = 7 + to.length + fr.length := by
  unfold headBs; simp [big_len]; omega
theorem byt1 {z : Int} (h : 0 ≤ z ∧ z ≤ 255) : Byt [z] := fun x hx => by obtain rfl := List.mem_singleton.1 hx; exact h
theorem headBs_byt {mk ver : Int} {to fr : List Int} (hm : 0 ≤ mk ∧ mk ≤ 255) (ht : Byt to) (hf : Byt fr) (h1 : to.length ≤ 255) (h2 : fr.length ≤ 255) : Byt (headBs mk ver to fr) :=
  (((((byt1 hm).app (big_byt _ _)).app (byt1 (by omega))).app ht).app (byt1 (by omega))).app hf

theorem head_end {w : World} {base : Nat} {v : Value} {mk ver : Int} {to fr : List Int} (h : w.ownsRow base 5 1 v ([mk].length + 4 + [(to.length : Int)].length + to.length + [(fr.length : Int)].length + fr.length) (by8 ([mk] ++ big ver 4 ++ [(to.length : Int)] ++ to ++ [(fr.length : Int)] ++ fr))) :
    w.ownsRow base 5 1 v (headBs mk ver to fr).length (by8 (headBs mk ver to fr)) := by
  have e : (headBs mk ver to fr).length = [mk].length + 4 + [(to.length : Int)].length + to.length + [(fr.length : Int)].length + fr.length := by rw [headBs_len]; simp; omega
  rw [e]; exact h
theorem head_end2 {w : World} {base : Nat} {v : Value} {mk ver : Int} {to fr : List Int} (h : w.ownsRow base 5 1 v ([mk].length + (big ver 4).length + [(to.length : Int)].length + to.length + [(fr.length : Int)].length + fr.length) (by8 ([mk] ++ big ver 4 ++ [(to.length : Int)] ++ to ++ [(fr.length : Int)] ++ fr))) :
    w.ownsRow base 5 1 v (headBs mk ver to fr).length (by8 (headBs mk ver to fr)) := head_end (by rw [big_len] at h; exact h)
set_option maxRecDepth 20000 in
set_option maxHeartbeats 2000000 in
theorem begin_any {w : World} {v2 v3 : Value} {to fr : List Int} (h2 : Rd w v2 to) (h3 : Rd w v3 fr) (l2 : to.length ≤ 20) (l3 : fr.length ≤ 20) (mk ver : Int) (hm0 : 0 ≤ mk) (hm1 : mk ≤ 255) (hv0 : 0 ≤ ver) (hv1 : ver < 4294967296) :
    Calls Try.prog 25 #[.int .u8 mk, .int .i64 ver, v2, v3] w fun e w' => ∃ v', e = .returned v' ∧ w'.ownsRow w.heap.size 5 1 v' (headBs mk ver to fr).length (by8 (headBs mk ver to fr)) ∧ Below w.heap.size w w' := by
  have h2' := h2
  have h3' := h3
  obtain ⟨a2, c2, rfl, _⟩ := h2'
  obtain ⟨a3, c3, rfl, _⟩ := h3'
  have k2 : (to.length : Int) ≤ 20 := by omega
  have k3 : (fr.length : Int) ≤ 20 := by omega
  have hm := byt1 ⟨hm0, hm1⟩
  have o0 := own_lit w [mk] (by simp)
  have b0 := below_alloc w (.cells (by8 [mk]).toArray 5)
  have H2 := Lib.hid h2
  have H3 := Lib.hid h3
  clear h2 h3
  go_enter Try.func25, Try.ntmps25
  go_wp2_with fail
  refine (fappend_any o0 b0.size (by simp) ver hv0 hv1 4 (by decide)).mono ?_
  rintro e w1 ⟨v1, rfl, o1, b1⟩
  have B1 := Lib.hid (b0.trans b1)
  have s1 := B1.out.size
  clear b1 o0 b0
  go_wp2_with (first
    | (at_builtin; refine wpList_append_bytes (.tmp 14) (.tmp 18) 22 rfl rfl info5 Try.underlying22 w.heap.size v1 _ _ rfl (o1.alloc _) _ [(to.length : Int)] rfl (Rd.lit w1 [(to.length : Int)] (by simp) (byt1 (by omega))) (by simp <;> omega) (by simp <;> omega) ?_; intro va1 wa1 oa1 ba1; have Ba1 := Lib.hid (B1.out.trans (((below_alloc w1 (.cells (by8 [(to.length : Int)]).toArray 5)).mono B1.out.size).trans (ba1.mono (Nat.le_refl _)))); have sa1 := Ba1.out.size; clear ba1)
    | (at_builtin; refine wpList_append_bytes (.tmp 19) (.tmp 20) 22 rfl rfl info5 Try.underlying22 w.heap.size va1 _ _ rfl oa1 _ _ rfl (H2.out.below Ba1.out) (by simp <;> omega) sa1 ?_; intro vb1 wb1 ob1 bb1; have Bb1 := Lib.hid (Ba1.out.trans bb1); have sb1 := Bb1.out.size; clear bb1)
    | (at_builtin; refine wpList_append_bytes (.tmp 22) (.tmp 26) 22 rfl rfl info5 Try.underlying22 w.heap.size vb1 _ _ rfl (ob1.alloc _) _ [(fr.length : Int)] rfl (Rd.lit wb1 [(fr.length : Int)] (by simp) (byt1 (by omega))) (by simp <;> omega) (by simp <;> omega) ?_; intro va2 wa2 oa2 ba2; have Ba2 := Lib.hid (Bb1.out.trans (((below_alloc wb1 (.cells (by8 [(fr.length : Int)]).toArray 5)).mono Bb1.out.size).trans (ba2.mono (Nat.le_refl _)))); have sa2 := Ba2.out.size; clear ba2)
    | (at_builtin; refine wpList_append_bytes (.tmp 27) (.tmp 28) 22 rfl rfl info5 Try.underlying22 w.heap.size va2 _ _ rfl oa2 _ _ rfl (H3.out.below Ba2.out) (by simp <;> omega) sa2 ?_; intro vb2 wb2 ob2 bb2; have Bb2 := Lib.hid (Ba2.out.trans bb2); have sb2 := Bb2.out.size; clear bb2))
  go_ret
  exact ⟨_, rfl, head_end ob2, Bb2.out⟩
end Go.Proofs.Ytkmjdpnbakcgcaa
