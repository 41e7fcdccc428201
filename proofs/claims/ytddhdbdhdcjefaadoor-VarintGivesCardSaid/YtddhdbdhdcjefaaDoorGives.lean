/- VarintGives' walk: the call tells true of all bytes, and writes nothing that was there. -/
import Derived.Test.YtddhdbdhdcjefaaDoorTake
import Derived.Test.YtddhdbdhdcjefaaDoorGive
namespace Go.Proofs.YtddhdbdhdcjefaaDoor
open Go Go.RowKit

/-- What is given is taken as it was. -/
theorem tk_give (p r : List Int) (hp : p.length ≤ 1000) : tk (enc p.length ++ p ++ r) = (p, r, 0) := by
  have h := rd_enc p.length (by omega) (by omega) (p ++ r)
  rw [← List.append_assoc] at h
  have := tk_ok (enc p.length ++ p ++ r) p.length (enc p.length).length h (by simp)
  rw [this, List.append_assoc, List.drop_left]
  simp
namespace gives

set_option maxHeartbeats 800000 in
theorem walk {w : World} {vp vb : Value} {zp zb : List Int} (hp : Rd w vp zp) (hb : Rd w vb zb) (ht : Tab w) (hw : 1 < w.heap.size) :
    Calls Tryd.prog 8 #[vp, vb] w fun e w' => e = .returned (.bool true) ∧ Below w.heap.size w w' := by
  have hp' := hp
  have hb' := hb
  obtain ⟨ap, cp, rfl, hcp, hcp', _⟩ := hp'
  obtain ⟨ab, cb, rfl, hcb, hcb', _⟩ := hb'
  unfold maxLen at hcp' hcb'
  by_cases hbig : (1000 : Int) < (zp.length : Int)
  · go_enter Tryd.func8, Tryd.ntmps8
    go_wp2
    go_ret
    exact ⟨rfl, Below.refl _ _⟩
  · by_cases hbig2 : (1000 : Int) < (zb.length : Int)
    · go_enter Tryd.func8, Tryd.ntmps8
      go_wp2
      go_ret
      exact ⟨rfl, Below.refl _ _⟩
    · have hl1 : zp.length ≤ 1000 := by omega
      have hl2 : zb.length ≤ 1000 := by omega
      have hl8 := enc_len zp.length
      go_enter Tryd.func8, Tryd.ntmps8
      go_wp2_with fail
      refine (give_any (Rd.nil _) hp (by decide) hl1 ht hw).mono ?_
      rintro e w1 ⟨v1, rfl, hown1, hb1⟩
      have s1 := hb1.size
      simp only [List.nil_append, List.length_nil, Nat.zero_add] at hown1
      go_wp2_with (at_builtin; refine wpList_append_bytes (.tmp 18) (.tmp 19) 22 rfl rfl info5 Tryd.underlying22 w.heap.size _ _ _ rfl hown1 _ zb rfl (hb.below hb1) (by omega) s1 ?_; intro v2 w2 hown2 hb2)
      have B2 := hb1.trans hb2
      have s2 := B2.size
      have g2 := (Rd.of_own hown2 (((enc_byt _).app hp.byt).app hb.byt)).1
      have hT := take_any g2 (by simp; omega)
      rw [tk_give zp zb hl1] at hT
      refine hT.mono ?_
      rintro e w3 ⟨u1, u2, rfl, hu1, hu2, hb3⟩
      have B3 := B2.trans (hb3.mono s2)
      have s3 := B3.size
      go_wp2_with fail
      refine (same_true hu1 (hp.below B3)).mono ?_
      rintro e w4 ⟨rfl, hb4⟩
      have B4 := B3.trans (hb4.mono s3)
      have s4 := B4.size
      go_wp2_with fail
      refine (same_true (hu2.below hb4) (hb.below B4)).mono ?_
      rintro e w5 ⟨rfl, hb5⟩
      have B5 := B4.trans (hb5.mono s4)
      have s5 := B5.size
      go_wp2_with fail
      refine (awake_any (ht.below B5) (by omega)).mono ?_
      rintro e w6 ⟨rfl, hb6⟩
      go_wp2_with fail
      go_ret
      exact ⟨rfl, B5.trans (hb6.mono s5)⟩
#print axioms walk
end gives
end Go.Proofs.YtddhdbdhdcjefaaDoor
