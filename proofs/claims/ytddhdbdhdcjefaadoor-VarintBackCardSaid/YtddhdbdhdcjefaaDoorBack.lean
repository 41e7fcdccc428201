/- VarintBack's walk: the call tells true of every number and all bytes, and writes nothing that was there. -/
import Derived.Test.YtddhdbdhdcjefaaDoorVal
namespace Go.Proofs.YtddhdbdhdcjefaaDoor.back
open Go Go.RowKit

set_option maxHeartbeats 800000 in
theorem walk (n : Int) {w : World} {vb : Value} {zb : List Int} (hb : Rd w vb zb) (ht : Tab w) (hw : 1 < w.heap.size) :
    Calls Tryd.prog 6 #[.int .i64 n, vb] w fun e w' => e = .returned (.bool true) ∧ Below w.heap.size w w' := by
  have hb' := hb
  obtain ⟨ab, cb, rfl, hcb, hcb', _⟩ := hb'
  unfold maxLen at hcb'
  by_cases hbig : (1000 : Int) < (zb.length : Int)
  · go_enter Tryd.func6, Tryd.ntmps6
    go_wp2
    go_ret
    exact ⟨rfl, Below.refl _ _⟩
  · have hle : zb.length ≤ 1000 := by omega
    have hl8 := enc_len n
    go_enter Tryd.func6, Tryd.ntmps6
    go_wp2_with fail
    refine (append_any (Rd.nil _) (by decide) n ht hw).mono ?_
    rintro e w1 ⟨v1, rfl, hown1, hb1⟩
    have g1 := (Rd.of_own hown1 (by simpa using enc_byt n)).1
    simp only [List.nil_append] at g1
    have t1 := ht.below hb1
    have s1 := hb1.size
    have gb1 := hb.below hb1
    have g1' := g1
    obtain ⟨ao, cap, rfl, hcap, hcap', _⟩ := g1'
    unfold maxLen at hcap'
    clear hown1
    go_wp2_with (first | (at_builtin; refine wpList_append_bytes (.tmp 15) (.tmp 16) 22 rfl rfl info5 Tryd.underlying22 w1.heap.size _ 0 [] rfl (own_fresh w1 5) _ (enc n) rfl (g1.alloc _) (by omega) (by simp) ?_; intro v2 w2 hown2 hb2) | (at_builtin; refine wpList_append_bytes (.tmp 17) (.tmp 18) 22 rfl rfl info5 Tryd.underlying22 w1.heap.size _ _ ([] ++ enc n) rfl hown2 _ zb rfl (gb1.below ((below_alloc w1 _).trans hb2)) (by omega) (by have := hb2.size; simp at this; omega) ?_; intro v3 w3 hown3 hb3))
    have B3 : Below w.heap.size w w3 := hb1.trans (((below_alloc w1 _).mono (by omega)).trans ((hb2.mono (by omega)).trans (hb3.mono (by omega))))
    have t3 := t1.below ((below_alloc w1 _).trans (hb2.trans hb3))
    have s3 := B3.size
    have g3 := (Rd.of_own hown3 (by simpa using (enc_byt n).app hb.byt)).1
    simp only [List.nil_append] at g3
    have hr := read_any g3
    by_cases hv : 0 ≤ n ∧ n < 4611686018427387904
    · rw [rd_enc n hv.1 hv.2 zb] at hr
      obtain ⟨hv0, hv1⟩ := hv
      have hv2 : ¬ n < 0 := by omega
      have hv3 : ¬ 4611686018427387903 < n := by omega
      refine hr.mono ?_
      rintro e w4 ⟨rfl, rfl⟩
      go_wp2_with fail
      refine (awake_any t3 (by omega)).mono ?_
      rintro e w5 ⟨rfl, hb5⟩
      go_wp2_with fail
      go_ret
      exact ⟨rfl, B3.trans (hb5.mono (by omega))⟩
    · have hv' : n < 0 ∨ 4611686018427387903 < n := by omega
      have he := enc_none n (by omega)
      refine hr.mono ?_
      rintro e w4 ⟨rfl, rfl⟩
      rcases hv' with hv' | hv'
      · go_wp2_with fail
        refine (awake_any t3 (by omega)).mono ?_
        rintro e w5 ⟨rfl, hb5⟩
        go_wp2_with fail
        go_ret
        exact ⟨rfl, B3.trans (hb5.mono (by omega))⟩
      · go_wp2_with fail
        refine (awake_any t3 (by omega)).mono ?_
        rintro e w5 ⟨rfl, hb5⟩
        go_wp2_with fail
        go_ret
        exact ⟨rfl, B3.trans (hb5.mono (by omega))⟩
#print axioms walk
end Go.Proofs.YtddhdbdhdcjefaaDoor.back
