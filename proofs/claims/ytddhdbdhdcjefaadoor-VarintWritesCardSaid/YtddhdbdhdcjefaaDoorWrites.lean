/- VarintWrites' walk: the call tells true of all bytes and every number, and writes nothing that was there. -/
import Derived.Test.YtddhdbdhdcjefaaDoorBytes
namespace Go.Proofs.YtddhdbdhdcjefaaDoor.writes
open Go Go.RowKit

set_option maxHeartbeats 800000 in
theorem walk {w : World} {vb : Value} {zb : List Int} (hb : Rd w vb zb) (n : Int) (ht : Tab w) (hw : 1 < w.heap.size) :
    Calls Tryd.prog 3 #[vb, .int .i64 n] w fun e w' => e = .returned (.bool true) ∧ Below w.heap.size w w' := by
  have hb' := hb
  obtain ⟨ab, cb, rfl, hcb, hcb', _⟩ := hb'
  unfold maxLen at hcb'
  by_cases hbig : (1000 : Int) < (zb.length : Int)
  · go_enter Tryd.func3, Tryd.ntmps3
    go_wp2
    go_ret
    exact ⟨rfl, Below.refl _ _⟩
  · have hl1 : zb.length ≤ 1000 := by omega
    have hl8 := enc_len n
    have hs1 := size_any n
    have hs2 := refsize_any n
    generalize sz n = S at hs1 hs2
    go_enter Tryd.func3, Tryd.ntmps3
    go_wp2_with (at_builtin; refine wpList_append_bytes (.tmp 10) (.tmp 11) 22 rfl rfl info5 Tryd.underlying22 w.heap.size _ 0 [] rfl (own_fresh w 5) _ zb rfl (hb.alloc _) (by omega) (by simp) ?_; intro v1 w1 hown1 hb1)
    have B1 := (below_alloc w (.cells #[] 5)).trans hb1
    have s1 := B1.size
    have g1 := (Rd.of_own hown1 (by simpa using hb.byt)).1
    simp only [List.nil_append] at g1
    refine (append_any (hb.below B1) (by omega) n (ht.below B1) (by omega)).mono ?_
    rintro e w2 ⟨v2, rfl, hown2, hb2⟩
    have B2 := B1.trans (hb2.mono s1)
    have s2 := B2.size
    have g2 := (Rd.of_own hown2 (hb.byt.app (enc_byt n))).1
    have g1' := g1.below hb2
    go_wp2_with (at_builtin; refine wpList_append_bytes (.tmp 17) (.tmp 18) 22 rfl rfl info5 Tryd.underlying22 w2.heap.size _ 0 [] rfl (own_fresh w2 5) _ zb rfl (g1'.alloc _) (by omega) (by simp) ?_; intro v3 w3 hown3 hb3)
    have B23 := (below_alloc w2 (.cells #[] 5)).trans hb3
    have B3 := B2.trans (B23.mono s2)
    have s3 := B3.size
    have s23 := B23.size
    simp only [List.nil_append] at hown3
    refine (bytes_any n).mono ?_
    rintro e w4 ⟨v4, rfl, hown4, hb4⟩
    have B4 := B3.trans (hb4.mono s3)
    have B24 := B23.trans (hb4.mono s23)
    have s4 := B4.size
    have s24 := B24.size
    have g4 := (Rd.of_own hown4 (enc_byt n)).1
    go_wp2_with (at_builtin; refine wpList_append_bytes (.tmp 19) (.tmp 21) 22 rfl rfl info5 Tryd.underlying22 w2.heap.size _ _ _ rfl (own_below hown3 hb4) _ (enc n) rfl g4 (by omega) s24 ?_; intro v5 w5 hown5 hb5)
    have B5 := B4.trans (hb5.mono s2)
    have B25 := B24.trans hb5
    have s5 := B5.size
    have g5 := (Rd.of_own hown5 (hb.byt.app (enc_byt n))).1
    refine (same_true (g2.below B25) g5).mono ?_
    rintro e w6 ⟨rfl, hb6⟩
    have B6 := B5.trans (hb6.mono s5)
    have s6 := B6.size
    have B26 := B25.trans (hb6.mono B25.size)
    go_wp2_with fail
    refine (hs1 w6).mono ?_
    rintro e w7 ⟨rfl, rfl⟩
    go_wp2_with fail
    refine (hs2 w6).mono ?_
    rintro e w7 ⟨rfl, rfl⟩
    go_wp2_with fail
    refine (same_true (hb.below B6) (g1'.below B26)).mono ?_
    rintro e w7 ⟨rfl, hb7⟩
    have B7 := B6.trans (hb7.mono s6)
    have s7 := B7.size
    go_wp2_with fail
    refine (awake_any (ht.below B7) (by omega)).mono ?_
    rintro e w8 ⟨rfl, hb8⟩
    go_wp2_with fail
    go_ret
    exact ⟨rfl, B7.trans (hb8.mono s7)⟩
#print axioms walk
end Go.Proofs.YtddhdbdhdcjefaaDoor.writes
