/- frame: appendSpans, written. -/
import Derived.Test.YtgcgmgcgbnepeaaDoorGW2
import Derived.Test.YtgcgmgcgbnepeaaDoorGive
import Derived.Test.YtgcgmgcgbnepeaaDoorInv
namespace Go.Proofs.YtgcgmgcgbnepeaaDoor
open Go Go.RowKit

theorem step_append_bytes {w : World} {ops : Array Oper} {o : Oper} {a : Act} {K : Act → World → Prop} {Q : Exit → Act → World → Prop} {E : Prop} (hgd : o.guard = none) (s x : Operand)
    (ho : o.op = .call { callee := .builtin .append, args := #[s, x], argTypes := #[26, 26] })
    (base : Nat) (v : Value) (n : Nat) (xs : List Int) (hs : a.eval s = v) (hown : w.ownsRow base 5 1 v n (by8 xs))
    (xv : Value) (ys : List Int) (hx : a.eval x = xv) (hr : Rd w xv ys) (hbound : n + ys.length ≤ 140737488355328) (hbase : base ≤ w.heap.size)
    (h : ∀ v' w', w'.ownsRow base 5 1 v' (n + ys.length) (by8 (xs ++ ys)) → Below base w w' → K (a.put o.dst v') w') :
    if Region.wanted o (yielded ops a.tmps) = true then Oper.wp Tryd.prog o a w K Q else E := by
  have hw : Region.wanted o (yielded ops a.tmps) = true := by simp [Region.wanted, hgd]
  rw [if_pos hw]
  obtain ⟨i, hi, hz0, hz1, hz2⟩ := info_row5
  obtain ⟨ao, cap, rfl, h1, h2, h3, _, hc⟩ := hr
  cases ao with
  | none =>
    have hcap := h3 rfl
    have hy : ys = [] := List.eq_nil_of_length_eq_zero (by omega)
    subst hy; subst hcap
    have hrun := run_append_owned_none (P := Tryd.prog) (w := w) base 26 o.type 5 i 1 Tryd.underlying26 hi v n (by8 xs) hown
    unfold Oper.wp execOp
    simp only [ho, resolve, invoke, builtin, Sem.run_bind, Sem.run_pure, Result.andThen_ok, List.map_toArray, List.map_cons, List.map_nil, hs, hx]
    simp only [List.length_nil] at hrun ⊢
    rw [hrun]
    exact h v w (by simpa using hown) (Below.refl _ _)
  | some ad =>
    refine wp_append_own w s x 26 ho base 5 i (.int .u8 0) 1 1 Tryd.underlying26 hi hz0 hz1 hz2 rfl (by decide) v n (by8 xs) hs hown ad ys.length cap (by8 ys) hx (by simp [by8_len]) ?_ (by8_one ys) (by unfold maxLen; omega) (by omega) hbase ?_
    · intro j u hu
      have hj : j < ys.length := by
        have := (List.getElem?_eq_some_iff.1 hu).1
        simpa [by8_len] using this
      rw [by8_get ys j hj] at hu
      cases hu
      exact hc ad rfl j hj
    · intro v' w' hown' hg _
      exact h v' w' (by rw [by8_app]; exact hown') (below_own hown hbase hg)
/-- The bytes of the spans from a place on. -/
def wrR (S : List Sp) (k : Nat) : List Int := if k = 0 then enc ((S.getD 0 (0, 0)).2 - (S.getD 0 (0, 0)).1) ++ wrSpans (S.drop 1) (S.getD 0 (0, 0)).1 else wrSpans (S.drop k) (S.getD (k - 1) (0, 0)).1
theorem wrR_all {S : List Sp} (h : 0 < S.length) : wrAck S = enc (S.getD 0 (0, 0)).2 ++ (enc ((S.length : Int) - 1) ++ wrR S 0) := by
  cases S with
  | nil => simp at h
  | cons p r =>
    obtain ⟨f, t⟩ := p
    have e : (((⟨f, t⟩ :: r : List Sp).length : Nat) : Int) - 1 = (r.length : Int) := by simp
    simp only [wrAck, e]
    rfl
theorem wrR_zero (S : List Sp) : wrR S 0 = enc ((S.getD 0 (0, 0)).2 - (S.getD 0 (0, 0)).1) ++ wrR S 1 := by
  unfold wrR
  simp
theorem wrR_step {S : List Sp} {j : Nat} (h : j + 1 < S.length) : wrR S (j + 1) = enc ((S.getD j (0, 0)).1 - (S.getD (j + 1) (0, 0)).2 - 2) ++ (enc ((S.getD (j + 1) (0, 0)).2 - (S.getD (j + 1) (0, 0)).1) ++ wrR S (j + 2)) := by
  unfold wrR
  rw [if_neg (by omega), if_neg (by omega)]
  have e : S.getD (j + 1) (0, 0) = S[j + 1] := by simp [h]
  rw [List.drop_eq_getElem_cons h, e]
  simp only [Nat.add_sub_cancel]
  rw [show j + 2 - 1 = j + 1 from rfl, e]
  rfl
theorem wrR_end (S : List Sp) (h : 0 < S.length) : wrR S S.length = [] := by
  unfold wrR
  rw [if_neg (by omega), List.drop_length]
  rfl
theorem wrSpans_len : ∀ (r : List Sp) (l : Int), (wrSpans r l).length ≤ 16 * r.length := by
  intro r
  induction r with
  | nil => intro l; simp [wrSpans]
  | cons p q ih =>
    intro l
    obtain ⟨f, t⟩ := p
    have := ih f
    have h1 := enc_len (l - t - 2)
    have h2 := enc_len (t - f)
    simp only [wrSpans, List.length_append, List.length_cons]
    omega
theorem wrAck_len (S : List Sp) : (wrAck S).length ≤ 16 * S.length + 16 := by
  cases S with
  | nil => simp [wrAck]
  | cons p r =>
    obtain ⟨f, t⟩ := p
    have := wrSpans_len r f
    have h1 := enc_len t
    have h2 := enc_len (r.length : Int)
    have h3 := enc_len (t - f)
    simp only [wrAck, List.length_append, List.length_cons]
    omega
theorem ack_bounds {S : List Sp} (h : ackP S) : ∀ k, k < S.length → 0 ≤ (S.getD k (0, 0)).1 ∧ (S.getD k (0, 0)).1 ≤ (S.getD k (0, 0)).2 ∧ (S.getD k (0, 0)).2 < 4611686018427387904 := by
  intro k
  induction k with
  | zero =>
    intro hk
    have := h.2.2.2 0 hk
    unfold okAt at this
    exact ⟨this.1, this.2.1, (nmB_iff.1 h.2.2.1).2⟩
  | succ k ih =>
    intro hk
    have h1 := h.2.2.2 (k + 1) hk
    have h2 := ih (by omega)
    unfold okAt at h1
    have h3 := h1.2.2 (by omega)
    simp only [Nat.add_sub_cancel] at h3
    exact ⟨h1.1, h1.2.1, by omega⟩
theorem own_shape {w : World} {base : Nat} {e : TypeId} {size : Nat} {v : Value} {n : Nat} {xs : List Value} (h : w.ownsRow base e size v n xs) : ∃ ao cap, v = .slice ao n cap := by
  rcases h.2 with ⟨rfl, h0⟩ | ⟨g, cap, cur, rfl, _⟩
  · subst h0; exact ⟨none, 0, rfl⟩
  · exact ⟨_, _, rfl⟩
theorem own_lenG {w : World} {base : Nat} {e : TypeId} {v : Value} {n m : Nat} {xs : List Value} (h : w.ownsRow base e 1 v n xs) (hn : n = m) : w.ownsRow base e 1 v m xs := hn ▸ h
theorem Tab.belowT {w w' : World} {b : Nat} (h : Tab w) (hb : Below b w w') (hw : 1 < b) : Tab w' := by
  obtain ⟨h0, h1, h2, h3⟩ := h
  exact ⟨by rw [hb.cell (p := ⟨1, _, none⟩) hw]; exact h0, by rw [hb.cell (p := ⟨1, _, none⟩) hw]; exact h1, by rw [hb.cell (p := ⟨1, _, none⟩) hw]; exact h2, by rw [hb.cell (p := ⟨1, _, none⟩) hw]; exact h3⟩
set_option maxRecDepth 20000 in
set_option maxHeartbeats 4000000 in
theorem aspans_any {w : World} {v sv : Value} {zs : List Int} {S : List Sp} (hv : Rd w v zs) (hl : zs.length ≤ 1000) (hs : Rs w sv S) (hk : ackP S) (ht : Tab w) (hw : 1 < w.heap.size) :
    Calls Tryd.prog 38 #[v, sv] w fun e w' => ∃ v', e = .returned v' ∧ Rd w' v' (zs ++ wrAck S) ∧ Below w.heap.size w w' := by
  have hS0 : 0 < S.length := hk.1
  have hS1 : S.length ≤ 32 := hk.2.1
  obtain ⟨b, off, cap, rfl, hb, hat⟩ := hs.at hS0
  obtain ⟨va, vc, rfl⟩ := hv.shape
  have HV := Lib.hid hv
  have HA := Lib.hid hat
  have HT := Lib.hid ht
  have HBD := Lib.hid (ack_bounds hk)
  have HWB := Lib.hid (wrAck_len S)
  have hx := (hat 0 hS0).2
  simp only [Nat.zero_mul, Nat.add_zero] at hx
  have ha1 := append_any hv (by omega) (S.getD 0 (0, 0)).2 ht hw
  have hl0 := enc_len (S.getD 0 (0, 0)).2
  have HALL := Lib.hid (wrR_all hS0)
  have hln := enc_len ((S.length : Int) - 1)
  have hSi : (1 : Int) ≤ (S.length : Int) := by omega
  have hSj : (S.length : Int) ≤ 32 := by omega
  have hzi : (zs.length : Int) ≤ 1000 := by omega
  have HOKS : Hid (∀ k, k < S.length → okAt S k) := Lib.hid hk.2.2.2
  generalize (S.getD 0 (0, 0)).2 = x at *
  clear hat hv hs hk ht
  go_enter Tryd.func38, Tryd.ntmps38
  go_wp2_with fail
  refine ha1.mono ?_
  rintro e w1 ⟨v1, rfl, ho1, hb1⟩
  have hr1 := Rd.of_own ho1 (HV.out.byt.app (enc_byt x))
  have ha2 := append_any hr1.1 (by simp; omega) ((S.length : Int) - 1) (HT.out.below hb1) (Nat.lt_of_lt_of_le hw hb1.size)
  have HB1 := Lib.hid hb1
  obtain ⟨a1, c1, rfl⟩ := own_shape ho1
  clear ha1 ho1 hr1 hb1
  go_wp2_with fail
  refine ha2.mono ?_
  rintro e w2 ⟨v2, rfl, ho2, hb2⟩
  have HB2 := Lib.hid (HB1.out.trans (hb2.mono HB1.out.size))
  have HR2 := Lib.hid (Rd.of_own ho2 ((HV.out.byt.app (enc_byt x)).app (enc_byt _))).1
  clear ha2 ho2 hb2
  go_wp2_with fail
  go_loopw [0, 20] (fun u i wr => ∃ (k : Nat) (P : List Int), i = .int .i64 k ∧ k ≤ S.length ∧ Rd wr u P ∧ Hid (P ++ wrR S k = zs ++ wrAck S) ∧ Below w.heap.size w wr) (fun _ i _ => S.length - (intOf i).toNat)
  case atStart => exact ⟨0, _, rfl, by omega, HR2.out, Lib.hid (by rw [HALL.out]; simp), HB2.out⟩
  case round =>
    obtain ⟨k, P, rfl, hk, hP, hE, hbel⟩ := hrel
    have hk' : (k : Int) ≤ (S.length : Int) := by omega
    have HPL : Hid (P.length ≤ 2000) := Lib.hid (by
      have := congrArg List.length hE.out
      have := HWB.out
      simp only [List.length_append] at *
      omega)
    obtain ⟨ua, uc, rfl⟩ := hP.shape
    have HP := Lib.hid hP
    have hsz := hbel.size
    have HB := Lib.hid hbel
    by_cases hlt : k < S.length
    · have hlt' : (k : Int) < (S.length : Int) := by omega
      obtain ⟨x1, x2⟩ := (HA.out.below hbel) k hlt
      have hbr : b < wr.heap.size := Nat.lt_of_lt_of_le hb hsz
      have hbd := HBD.out k hlt
      cases k with
      | zero =>
        simp only [Nat.zero_mul, Nat.add_zero] at x1 x2
        have HST := Lib.hid (wrR_zero S)
        generalize (S.getD 0 (0, 0)).1 = y1 at *
        generalize (S.getD 0 (0, 0)).2 = y2 at *
        obtain ⟨z1, z2, z3⟩ := hbd
        have ha := append_any (hP.alloc (.cells #[.int .i64 y1, .int .i64 y2] 56)) (by have := HPL.out; omega) (y2 - y1) (HT.out.below ((hbel.alloc hsz (.cells #[.int .i64 y1, .int .i64 y2] 56)))) (by simp; omega)
        clear hbel hP
        go_wp2_with (go_at_call 40; refine ha.mono ?_; rintro e w3 ⟨v3, rfl, ho3, hb3⟩)
        have hr3 := (Rd.of_own ho3 (HP.out.byt.app (enc_byt _))).1
        have hb3' : Below w.heap.size w w3 := (HB.out.alloc hsz _).trans (hb3.mono (by simp; omega))
        go_roundw
        case rel => exact ⟨1, _, by go_num, by omega, hr3, Lib.hid (by rw [List.append_assoc, ← HST.out]; exact hE.out), hb3'⟩
        case measure => simp [intOf]; omega
      | succ j =>
        obtain ⟨p1, _⟩ := (HA.out.below HB.out) j (by omega)
        have hbj := HBD.out j (by omega)
        have hok := HOKS.out (j + 1) hlt
        have HST := Lib.hid (wrR_step hlt)
        unfold okAt at hok
        simp only [Nat.add_sub_cancel] at hok
        generalize (S.getD (j + 1) (0, 0)).1 = y1 at *
        generalize (S.getD (j + 1) (0, 0)).2 = y2 at *
        generalize (S.getD j (0, 0)).1 = y3 at *
        have hok3 := hok.2.2 (by omega)
        obtain ⟨z1, z2, z3⟩ := hbd
        have hy3 : y3 < 4611686018427387904 := by omega
        have z5' : decide ((0 : Int) < (j : Int) + 1) = true := decide_eq_true (by omega)
        have e1 : IntKind.i64.wrap (j : Int) = (j : Int) := IntWalk.i64_in _ (by omega)
        have e2 : IntKind.i64.wrap (y3 - y2) = y3 - y2 := IntWalk.i64_in _ (by omega)
        have e3 : IntKind.i64.wrap (y3 - y2 - 2) = y3 - y2 - 2 := IntWalk.i64_in _ (by omega)
        have hjl : (j : Int) < (S.length : Int) := by omega
        have hrA := (hP.alloc (.cells #[.int .i64 y1, .int .i64 y2] 56)).drew
        have hbA : Below w.heap.size w (wr.alloc (.cells #[.int .i64 y1, .int .i64 y2] 56)).drew := (hbel.alloc hsz _).drew
        have ha := append_any hrA (by have := HPL.out; omega) (y3 - y2 - 2) (HT.out.below hbA) (by simp; omega)
        have HBA := Lib.hid hbA
        clear hbel hP hrA hbA hok hok3 hbj
        have hen := enc_len (y3 - y2 - 2)
        go_wp2_with fail
        go_region_with (go_at_call 40; refine ha.mono ?_; rintro e w3 ⟨v3, rfl, ho3, hb3⟩)
        all_goals
          have hbx := (hb3.block wr.heap.size (by simp)).trans (heap_alloc_new wr (.cells #[.int .i64 y1, .int .i64 y2] 56))
          have q1 : w3.cell? ⟨wr.heap.size, 0, none⟩ = some (.int .i64 y1) := (cell_of_row w3 wr.heap.size 0 _ _ (0, 0) hbx).trans rfl
          have q2 : w3.cell? ⟨wr.heap.size, 1, none⟩ = some (.int .i64 y2) := (cell_of_row w3 wr.heap.size 1 _ _ (0, 0) hbx).trans rfl
          have hr3 := (Rd.of_own ho3 (HP.out.byt.app (enc_byt _))).1
          have hb3' : Below w.heap.size w w3 := HBA.out.trans (hb3.mono (by simp; omega))
          have HR3 := Lib.hid hr3
          have HB3 := Lib.hid hb3'
          have hha := append_any hr3 (by have := HPL.out; simp; omega) (y2 - y1) (HT.out.below hb3') (by have := hb3'.size; omega)
          obtain ⟨a3, k3, rfl⟩ := own_shape ho3
          clear ha ho3 hbx hr3 hb3 hb3' e1 e2 e3 z5'
          go_wp2_with (go_at_call 40; refine hha.mono ?_; rintro e w4 ⟨v4, rfl, ho4, hb4⟩)
          have hr4 := (Rd.of_own ho4 (HR3.out.byt.app (enc_byt _))).1
          go_roundw
          case rel => exact ⟨j + 1 + 1, _, by go_num, by omega, hr4, Lib.hid (by have := hE.out; rw [HST.out] at this; simpa using this), HB3.out.trans (hb4.mono HB3.out.size)⟩
          case measure => simp [intOf]; omega
    · obtain rfl : k = S.length := by omega
      go_wp2_with fail
      go_ret
      refine ⟨_, rfl, ?_, hbel⟩
      have e := hE.out
      rw [wrR_end S hS0, List.append_nil] at e
      rw [← e]; exact hP
#print axioms aspans_any
end Go.Proofs.YtgcgmgcgbnepeaaDoor
