/- The function Give hands back a new slice: the bytes that came in, those of the part's length, the part; it writes nothing that was there. -/
import Derived.Test.YtgcgmgcgbnepeaaDoorVal
namespace Go.Proofs.YtgcgmgcgbnepeaaDoor
open Go Go.RowKit

set_option maxRecDepth 20000 in
set_option maxHeartbeats 800000 in
theorem give_any {w : World} {vb vp : Value} {zb zp : List Int} (hb : Rd w vb zb) (hp : Rd w vp zp) (h1 : zb.length ≤ 1000) (h2 : zp.length ≤ 1000) (ht : Tab w) (hw : 1 < w.heap.size) :
    Calls Tryd.prog 39 #[vb, vp] w fun e w' => ∃ v', e = .returned v' ∧ w'.ownsRow w.heap.size 5 1 v' (zb.length + (enc zp.length).length + zp.length) (by8 (zb ++ enc zp.length ++ zp)) ∧ Below w.heap.size w w' := by
  have hp' := hp
  obtain ⟨ab, cb, rfl, _⟩ := hp'
  have hl8 := enc_len zp.length
  go_enter Tryd.func39, Tryd.ntmps39
  go_wp2_with fail
  refine (append_any hb (by omega) (zp.length : Int) ht hw).mono ?_
  rintro e w1 ⟨v1, rfl, hown1, hb1⟩
  have gp := hp.below hb1
  have s1 := hb1.size
  go_wp2_with (at_builtin; refine wpList_append_bytes (.tmp 8) (.tmp 9) 26 rfl rfl info5 Tryd.underlying26 w.heap.size _ _ _ rfl hown1 _ zp rfl gp (by omega) s1 ?_; intro v2 w2 hown2 hb2)
  go_ret
  exact ⟨_, rfl, hown2, hb1.trans hb2⟩
#print axioms give_any
end Go.Proofs.YtgcgmgcgbnepeaaDoor
