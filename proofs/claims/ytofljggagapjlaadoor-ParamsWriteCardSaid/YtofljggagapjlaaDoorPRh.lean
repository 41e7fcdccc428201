/- The document's Write: one field, where Write stands. -/
import Derived.Test.YtofljggagapjlaaDoorPWh
import Derived.Test.YtofljggagapjlaaDoorRefTake
namespace Go.Proofs.YtofljggagapjlaaDoor
open Go Go.RowKit

set_option maxHeartbeats 1000000 in
theorem rfield_any {w : World} {vp : Value} {zp : List Int} (hp : Rd w vp zp) (h2 : zp.length ≤ 500) (n : Int) :
    Calls Tryd.prog 30 #[.int .i64 n, vp] w fun e w' => ∃ v', e = .returned v' ∧ w'.ownsRow w.heap.size 5 1 v' (fieldB n zp).length (by8 (fieldB n zp)) ∧ Below w.heap.size w w' := by
  have hb := bytes_any (w := w) n
  have HP := Lib.hid hp
  have hln := enc_len n
  have hll := enc_len zp.length
  obtain ⟨ap, kp, rfl⟩ := hp.shape
  clear hp
  go_enter Tryd.func30, Tryd.ntmps30
  go_wp2_with (go_at_call 31; refine hb.mono ?_; rintro e w1 ⟨v1, rfl, ho1, hb1⟩)
  obtain ⟨a1, k1, rfl⟩ := own_shape ho1
  refine (refgive_any (HP.out.below hb1) (by omega)).mono ?_
  rintro e w2 ⟨v2, rfl, ho2, hb2⟩
  have g2 := (Rd.of_own ho2 ((enc_byt _).app HP.out.byt)).1
  have e3 : enc n ++ (enc zp.length ++ zp) = fieldB n zp := by unfold fieldB; simp
  have e4 : (enc n).length + (enc zp.length ++ zp).length = (fieldB n zp).length := by rw [← e3]; simp
  have HE := Lib.hid (And.intro e3 e4)
  clear e3 e4
  obtain ⟨a2, k2, rfl⟩ := own_shape ho2
  go_wp2_with (at_builtin; refine wpList_append_bytes (.tmp 6) (.tmp 8) 22 rfl rfl info5 Tryd.underlying22 w.heap.size _ _ _ rfl (own_below ho1 hb2) _ (enc zp.length ++ zp) rfl g2 (by simp; omega) (Nat.le_trans hb1.size hb2.size) ?_; intro v3 w3 ho3 hb3)
  go_ret
  exact ⟨_, rfl, by rw [← HE.out.2, ← HE.out.1]; exact ho3, (hb1.trans (hb2.mono hb1.size)).trans hb3⟩
/-- Where the document's Write stands: its params in box A; what is written so far. -/
structure Rs (X0 : World) (base : Nat) (v : Value) (zb : List Int) (w : World) : Prop where
  bel : Below base X0 w
  byt : Byt zb
  own : w.ownsRow base 5 1 v zb.length (by8 zb)
theorem Rs.start (X0 : World) (base : Nat) : Rs X0 base (.slice none 0 0) [] X0 := ⟨Below.refl _ _, Byt.nil, own_nil0 _ _⟩
theorem Rs.below {X0 w w' : World} {base : Nat} {v : Value} {zb : List Int} (h : Rs X0 base v zb w) (hb : Below w.heap.size w w') (hs : base ≤ X0.heap.size) : Rs X0 base v zb w' :=
  ⟨h.bel.trans (hb.mono (Nat.le_trans hs h.bel.size)), h.byt, own_below h.own hb⟩
theorem Rs.app {X0 w w' : World} {base : Nat} {v v' : Value} {zb zp : List Int} (h : Rs X0 base v zb w) (hz : Byt zp) (ho : w'.ownsRow base 5 1 v' (zb.length + zp.length) (by8 (zb ++ zp))) (hb : Below base w w') : Rs X0 base v' (zb ++ zp) w' :=
  ⟨h.bel.trans hb, h.byt.app hz, by rw [List.length_append]; exact ho⟩
/-- The same, what is written so far under a name of its own. -/
theorem Rs.app' {X0 w w' : World} {base : Nat} {v v' : Value} {zb zp : List Int} (h : Rs X0 base v zb w) (hz : Byt zp) (ho : w'.ownsRow base 5 1 v' (zb.length + zp.length) (by8 (zb ++ zp))) (hb : Below base w w') : ∃ Z m c, Hid (Z = zb ++ zp) ∧ v' = .slice m Z.length c ∧ Rs X0 base (.slice m Z.length c) Z w' := by
  have h2 := h.app hz ho hb
  obtain ⟨m, c, rfl⟩ := own_shape h2.own
  exact ⟨_, m, c, Lib.hid rfl, rfl, h2⟩
end Go.Proofs.YtofljggagapjlaaDoor
