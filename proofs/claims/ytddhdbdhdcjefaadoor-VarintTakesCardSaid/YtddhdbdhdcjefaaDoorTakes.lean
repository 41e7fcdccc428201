/- VarintTakes' walk: the call tells true of all bytes, and writes nothing that was there. -/
import Derived.Test.YtddhdbdhdcjefaaDoorRefTake
import Derived.Test.YtddhdbdhdcjefaaDoorGive
namespace Go.Proofs.YtddhdbdhdcjefaaDoor.takes
open Go Go.RowKit

/-- append of bytes onto a slice that the call owns, where a guard says yes. -/
theorem wpList_append_guarded {P : Program} {w : World} {ops : Array Oper} {rest : List Oper} {o : Oper} {a : Act} {Q : Exit → Act → World → Prop} (s x : Operand) (t : TypeId)
    (hgd : Region.wanted o (yielded ops a.tmps) = true) (ho : o.op = .call { callee := .builtin .append, args := #[s, x], argTypes := #[t, t] })
    (hinfo : (P.info? 5).map (fun i => (i.zero, i.size, i.bytes)) = some (some (.int .u8 0), 1, 1)) (ht : P.underlying t = some (.slice 5))
    (base : Nat) (v : Value) (n : Nat) (xs : List Int) (hs : a.eval s = v) (hown : w.ownsRow base 5 1 v n (by8 xs))
    (xv : Value) (ys : List Int) (hx : a.eval x = xv) (hr : Rd w xv ys) (hbound : n + ys.length ≤ 140737488355328) (hbase : base ≤ w.heap.size)
    (h : ∀ v' w', w'.ownsRow base 5 1 v' (n + ys.length) (by8 (xs ++ ys)) → Below base w w' → wpList P ops Q rest (a.put o.dst v') w') : wpList P ops Q (o :: rest) a w := by
  refine wpList_step fun K hK => ?_
  rw [if_pos hgd]
  obtain ⟨i, hi, hz0, hz1, hz2⟩ := info_parts hinfo
  obtain ⟨ao, cap, rfl, h1, h2, h3, _, hc⟩ := hr
  cases ao with
  | none =>
    have hcap := h3 rfl
    have hy : ys = [] := List.eq_nil_of_length_eq_zero (by omega)
    subst hy; subst hcap
    have hrun := run_append_owned_none (P := P) (w := w) base t o.type 5 i 1 ht hi v n (by8 xs) hown
    unfold Oper.wp
    simp [execOp, ho, resolve, invoke, builtin, hs, hx, hrun, Result.andThen]
    exact hK _ _ (h v w (by simpa using hown) (Below.refl _ _))
  | some ad =>
    refine wp_append_own w s x t ho base 5 i (.int .u8 0) 1 1 ht hi hz0 hz1 hz2 rfl (by decide) v n (by8 xs) hs hown ad ys.length cap (by8 ys) hx (by simp [by8_len]) ?_ (by8_one ys) (by unfold maxLen; omega) (by omega) hbase ?_
    · intro j u hu
      have hj : j < ys.length := by
        have := (List.getElem?_eq_some_iff.1 hu).1
        simpa [by8_len] using this
      rw [by8_get ys j hj] at hu
      cases hu
      exact hc ad rfl j hj
    · intro v' w' hown' hg _
      exact hK _ _ (h v' w' (by rw [by8_app]; exact hown') (below_own hown hbase hg))

set_option maxHeartbeats 1000000 in
theorem walk {w : World} {vb vp : Value} {zb zp : List Int} (hb : Rd w vb zb) (hp : Rd w vp zp) (ht : Tab w) (hw : 1 < w.heap.size) :
    Calls Tryd.prog 5 #[vb, vp] w fun e w' => e = .returned (.bool true) ∧ Below w.heap.size w w' := by
  have hp' := hp
  have hb' := hb
  obtain ⟨ap, cp, rfl, hcp, hcp', _⟩ := hp'
  obtain ⟨ab, cb, rfl, hcb, hcb', _⟩ := hb'
  unfold maxLen at hcp' hcb'
  by_cases hbig : (1000 : Int) < (zb.length : Int)
  · go_enter Tryd.func5, Tryd.ntmps5
    go_wp2
    go_ret
    exact ⟨rfl, Below.refl _ _⟩
  · by_cases hbig2 : (1000 : Int) < (zp.length : Int)
    · go_enter Tryd.func5, Tryd.ntmps5
      go_wp2
      go_ret
      exact ⟨rfl, Below.refl _ _⟩
    · have hl1 : zb.length ≤ 1000 := by omega
      have hl2 : zp.length ≤ 1000 := by omega
      have hl8 := enc_len zp.length
      have hT := take_any hb (by omega)
      generalize hR : tk zb = R at hT
      obtain ⟨ZA, ZC, E⟩ := R
      have HR := Lib.hid hR
      clear hR
      have hEE : (E == E) = true := by simp
      go_enter Tryd.func5, Tryd.ntmps5
      go_wp2_with fail
      refine hT.mono ?_
      rintro e w1 ⟨u1, u2, rfl, hu1, hu2, hb1⟩
      have s1 := hb1.size
      have hT2 := reftake_any (hb.below hb1) (by omega)
      rw [HR.out] at hT2
      go_wp2_with fail
      refine hT2.mono ?_
      rintro e w2 ⟨x1, x2, rfl, hx1, hx2, hb2⟩
      have B2 := hb1.trans (hb2.mono s1)
      have s2 := B2.size
      go_wp2_with fail
      refine (same_true (hu1.below hb2) hx1).mono ?_
      rintro e w3 ⟨rfl, hb3⟩
      have B3 := B2.trans (hb3.mono s2)
      have s3 := B3.size
      go_wp2_with fail
      refine (same_true ((hu2.below hb2).below hb3) (hx2.below hb3)).mono ?_
      rintro e w4 ⟨rfl, hb4⟩
      have B4 := B3.trans (hb4.mono s3)
      have s4 := B4.size
      go_wp2_with fail
      refine (give_any (hb.below B4) (hp.below B4) hl1 hl2 (ht.below B4) (by omega)).mono ?_
      rintro e w5 ⟨v5, rfl, hown5, hb5⟩
      have B5 := B4.trans (hb5.mono s4)
      have s5 := B5.size
      have g5 := (Rd.of_own hown5 ((hb.byt.app (enc_byt _)).app hp.byt)).1
      go_wp2_with (at_builtin; refine wpList_append_guarded (.tmp 48) (.tmp 49) 22 rfl rfl info5 Tryd.underlying22 w5.heap.size _ 0 [] rfl (own_fresh w5 5) _ zb rfl ((hb.below B5).alloc _) (by omega) (by simp) ?_; intro v6 w6 hown6 hb6)
      have B56 := (below_alloc w5 (.cells #[] 5)).trans hb6
      have B6 := B5.trans (B56.mono s5)
      have s6 := B6.size
      have s56 := B56.size
      simp only [List.nil_append] at hown6
      refine (refgive_any (hp.below B6) hl2).mono ?_
      rintro e w7 ⟨v7, rfl, hown7, hb7⟩
      have B57 := B56.trans (hb7.mono s56)
      have B7 := B6.trans (hb7.mono s6)
      have s7 := B7.size
      have g7 := (Rd.of_own hown7 ((enc_byt _).app hp.byt)).1
      go_wp2_with (at_builtin; refine wpList_append_guarded (.tmp 50) (.tmp 52) 22 rfl rfl info5 Tryd.underlying22 w5.heap.size _ _ _ rfl (own_below hown6 hb7) _ (enc zp.length ++ zp) rfl g7 (by simp; omega) B57.size ?_; intro v8 w8 hown8 hb8)
      have B58 := B57.trans hb8
      have B8 := B7.trans (hb8.mono s5)
      have s8 := B8.size
      have g8 := (Rd.of_own hown8 (hb.byt.app ((enc_byt _).app hp.byt))).1
      rw [← List.append_assoc] at g8
      refine (same_true (g5.below B58) g8).mono ?_
      rintro e w9 ⟨rfl, hb9⟩
      have B9 := B8.trans (hb9.mono s8)
      have s9 := B9.size
      go_wp2_with fail
      refine (awake_any (ht.below B9) (by omega)).mono ?_
      rintro e w10 ⟨rfl, hb10⟩
      go_wp2_with fail
      go_ret
      exact ⟨rfl, B9.trans (hb10.mono s9)⟩
#print axioms walk
end Go.Proofs.YtddhdbdhdcjefaaDoor.takes
