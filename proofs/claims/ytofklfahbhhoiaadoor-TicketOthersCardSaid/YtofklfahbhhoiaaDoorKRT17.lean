/- The document's text of a ticket: tickB, in new memory; none, if it may not be. -/
import Derived.Test.YtofklfahbhhoiaaDoorKKW
import Derived.Test.YtofklfahbhhoiaaDoorInv
import Derived.Deep.RegionHeld3
namespace Go.Proofs.YtofklfahbhhoiaaDoor
open Go Go.RowKit

theorem step_append_bytes {w : World} {ops : Array Oper} {o : Oper} {a : Act} {K : Act → World → Prop} {Q : Exit → Act → World → Prop} {E : Prop} (hgd : o.guard = none) (s x : Operand)
    (ho : o.op = .call { callee := .builtin .append, args := #[s, x], argTypes := #[22, 22] })
    (base : Nat) (v : Value) (n : Nat) (xs : List Int) (hs : a.eval s = v) (hown : w.ownsRow base 5 1 v n (by8 xs))
    (xv : Value) (ys : List Int) (hx : a.eval x = xv) (hr : Rd w xv ys) (hbound : n + ys.length ≤ 140737488355328) (hbase : base ≤ w.heap.size)
    (h : ∀ v' w', w'.ownsRow base 5 1 v' (n + ys.length) (by8 (xs ++ ys)) → Below base w w' → K (a.put o.dst v') w') :
    if Region.wanted o (yielded ops a.tmps) = true then Oper.wp Tryd.prog o a w K Q else E := by
  have hw : Region.wanted o (yielded ops a.tmps) = true := by simp [Region.wanted, hgd]
  rw [if_pos hw]
  obtain ⟨i, hi, hz0, hz1, hz2⟩ := (info_parts info5)
  obtain ⟨ao, cap, rfl, h1, h2, h3, _, hc⟩ := hr
  cases ao with
  | none =>
    have hcap := h3 rfl
    have hy : ys = [] := List.eq_nil_of_length_eq_zero (by omega)
    subst hy; subst hcap
    have hrun := run_append_owned_none (P := Tryd.prog) (w := w) base 22 o.type 5 i 1 Tryd.underlying22 hi v n (by8 xs) hown
    unfold Oper.wp execOp
    simp only [ho, resolve, invoke, builtin, Sem.run_bind, Sem.run_pure, Result.andThen_ok, List.map_toArray, List.map_cons, List.map_nil, hs, hx]
    simp only [List.length_nil] at hrun ⊢
    rw [hrun]
    exact h v w (by simpa using hown) (Below.refl _ _)
  | some ad =>
    refine wp_append_own w s x 22 ho base 5 i (.int .u8 0) 1 1 Tryd.underlying22 hi hz0 hz1 hz2 rfl (by decide) v n (by8 xs) hs hown ad ys.length cap (by8 ys) hx (by simp [by8_len]) ?_ (by8_one ys) (by unfold maxLen; omega) (by omega) hbase ?_
    · intro j u hu
      have hj : j < ys.length := by
        have := (List.getElem?_eq_some_iff.1 hu).1
        simpa [by8_len] using this
      rw [by8_get ys j hj] at hu
      cases hu
      exact hc ad rfl j hj
    · intro v' w' hown' hg _
      exact h v' w' (by rw [by8_app]; exact hown') (below_own hown hbase hg)
set_option maxRecDepth 20000 in
set_option maxHeartbeats 2000000 in
theorem rktext_any {w : World} {v t l : Int} :
    Calls Tryd.prog 27 #[.agg #[.int .i64 v, .int .i64 t, .int .i64 l]] w fun e w' => OwnB w w' e (tickT v t l) := by
  obtain ⟨W, hW⟩ : ∃ W, w.alloc (.cells #[.int .i64 v, .int .i64 t, .int .i64 l] 58) = W := ⟨_, rfl⟩
  have hbW : Below w.heap.size w W := by rw [← hW]; exact below_alloc w _
  have hM : W.heap[w.heap.size]? = some (.cells #[.int .i64 v, .int .i64 t, .int .i64 l] 58 (0, 0)) := by rw [← hW]; exact heap_alloc_new w _
  have HW := Lib.hid (And.intro hbW hM)
  obtain ⟨m0, m1, m2, mf⟩ := cells3 hM
  have z1 := refsize_any v W
  have z2 := refsize_any t W
  have z3 := refsize_any l W
  have HO : Hid (tickOk v t l = (!(sz v == 0) && !(sz t == 0) && !(sz l == 0))) := Lib.hid rfl
  generalize sz v = sv at *
  generalize sz t = st at *
  generalize sz l = sl at *
  clear hbW hM
  by_cases q1 : sv = 0
  · have HB : Hid (tickT v t l = []) := Lib.hid (tickT_no (by rw [HO.out]; simp [q1]))
    have q1' : (sv == 0) = true := by simp [q1]
    clear q1 HO
    go_enter Tryd.func27, Tryd.ntmps27
    go_wp2_with fail
    refine z1.mono ?_
    rintro e w1 ⟨rfl, rfl⟩
    clear z1
    go_wp2_with fail
    go_ret
    rw [HB.out]
    exact OwnB.none HW.out.1
  · have q1' : (sv == 0) = false := by simp [q1]
    by_cases q2 : st = 0
    · have HB : Hid (tickT v t l = []) := Lib.hid (tickT_no (by rw [HO.out]; simp [q2]))
      have q2' : (st == 0) = true := by simp [q2]
      clear q1 q2 HO
      go_enter Tryd.func27, Tryd.ntmps27
      go_wp2_with fail
      refine z1.mono ?_
      rintro e w1 ⟨rfl, rfl⟩
      clear z1
      go_wp2_with fail
      refine z2.mono ?_
      rintro e w1 ⟨rfl, rfl⟩
      clear z2
      go_wp2_with fail
      go_ret
      rw [HB.out]
      exact OwnB.none HW.out.1
    · have q2' : (st == 0) = false := by simp [q2]
      by_cases q3 : sl = 0
      · have HB : Hid (tickT v t l = []) := Lib.hid (tickT_no (by rw [HO.out]; simp [q3]))
        have q3' : (sl == 0) = true := by simp [q3]
        clear q1 q2 q3 HO
        go_enter Tryd.func27, Tryd.ntmps27
        go_wp2_with fail
        refine z1.mono ?_
        rintro e w1 ⟨rfl, rfl⟩
        clear z1
        go_wp2_with fail
        refine z2.mono ?_
        rintro e w1 ⟨rfl, rfl⟩
        clear z2
        go_wp2_with fail
        refine z3.mono ?_
        rintro e w1 ⟨rfl, rfl⟩
        clear z3
        go_wp2_with fail
        go_ret
        rw [HB.out]
        exact OwnB.none HW.out.1
      · have q3' : (sl == 0) = false := by simp [q3]
        have HB : Hid (tickT v t l = enc v ++ enc t ++ enc l) := Lib.hid ((tickT_ok (by rw [HO.out]; simp [q1, q2, q3])).trans (by simp [tickB]))
        have HA := Lib.hid (And.intro (enc_len v) (And.intro (enc_len t) (And.intro (enc_len l) (And.intro (enc_byt v) (And.intro (enc_byt t) (enc_byt l))))))
        have hC : W.drew.cell? ⟨w.heap.size, 0, none⟩ = some (.int .i64 v) ∧ W.drew.cell? ⟨w.heap.size, 1, none⟩ = some (.int .i64 t) ∧ W.drew.cell? ⟨w.heap.size, 2, none⟩ = some (.int .i64 l) ∧ Below W.heap.size W W.drew := ⟨m0, m1, m2, (Below.refl _ _).drew⟩
        have keep : ∀ w1 w2 : World, Below w1.heap.size w1 w2 → (w1.cell? ⟨w.heap.size, 0, none⟩ = some (.int .i64 v) ∧ w1.cell? ⟨w.heap.size, 1, none⟩ = some (.int .i64 t) ∧ w1.cell? ⟨w.heap.size, 2, none⟩ = some (.int .i64 l) ∧ Below W.heap.size W w1) → (w2.cell? ⟨w.heap.size, 0, none⟩ = some (.int .i64 v) ∧ w2.cell? ⟨w.heap.size, 1, none⟩ = some (.int .i64 t) ∧ w2.cell? ⟨w.heap.size, 2, none⟩ = some (.int .i64 l) ∧ Below W.heap.size W w2) := fun w1 w2 hb h => ⟨(hb.cell (cell_lt h.1)).trans h.1, (hb.cell (cell_lt h.2.1)).trans h.2.1, (hb.cell (cell_lt h.2.2.1)).trans h.2.2.1, h.2.2.2.trans (hb.mono h.2.2.2.size)⟩
        have HK := Lib.hid keep
        have mk : ∀ w2 : World, Below W.heap.size W w2 → (w2.cell? ⟨w.heap.size, 0, none⟩ = some (.int .i64 v) ∧ w2.cell? ⟨w.heap.size, 1, none⟩ = some (.int .i64 t) ∧ w2.cell? ⟨w.heap.size, 2, none⟩ = some (.int .i64 l) ∧ Below W.heap.size W w2) := fun w2 hb => by
          obtain ⟨a0, a1, a2, _⟩ := cells3 HW.out.2
          exact ⟨(hb.cell (cell_lt a0)).trans a0, (hb.cell (cell_lt a1)).trans a1, (hb.cell (cell_lt a2)).trans a2, hb⟩
        have HMK := Lib.hid mk
        clear q1 q2 q3 HO keep mk
        go_enter Tryd.func27, Tryd.ntmps27
        go_wp2_with fail
        refine z1.mono ?_
        rintro e w1 ⟨rfl, rfl⟩
        clear z1
        go_wp2_with fail
        refine z2.mono ?_
        rintro e w1 ⟨rfl, rfl⟩
        clear z2
        go_wp2_with fail
        refine z3.mono ?_
        rintro e w1 ⟨rfl, rfl⟩
        clear z3 hW
        go_wp2_with fail
        go_region_held3 (fun w' => w'.cell? ⟨w.heap.size, 0, none⟩ = some (.int .i64 v) ∧ w'.cell? ⟨w.heap.size, 1, none⟩ = some (.int .i64 t) ∧ w'.cell? ⟨w.heap.size, 2, none⟩ = some (.int .i64 l) ∧ Below W.heap.size W w')
          (first | (have _t := u4; with_reducible exact HMK.out _ u4) | (have _t := b3; with_reducible exact HK.out _ _ b3 (by assumption)) | (have _t := b2; with_reducible exact HK.out _ _ b2 (by assumption)) | with_reducible exact hC)
          (first
            | (have _t := x3; (refine step_append_bytes (by rfl) _ _ (by rfl) W.heap.size _ _ _ (by rfl) x3 _ (enc t) (by rfl) r3 (by have := HA.out; omega) u3.size ?_; intro v4 w4 x4 b4; have u4 := u3.trans b4))
            | (have _t := x2; (go_at_call 36; refine (bytes_any t).mono ?_; rintro e w3 ⟨v3, rfl, o3, b3⟩; have x3 := own_below x2 b3; have r3 := (Rd.of_own o3 HA.out.2.2.2.2.1).1; have u3 := u2.trans (b3.mono u2.size)))
            | (go_at_call 36; refine (bytes_any v).mono ?_; rintro e w2 ⟨v2, rfl, x2, b2⟩; have u2 := (Below.refl W.heap.size W).drew.trans b2))
        all_goals
          have r4 := x4
          obtain ⟨n0, n1, n2, -⟩ := HMK.out _ u4
          have U4 := Lib.hid u4
          clear m0 m1 m2 hC x2 b2 u2 o3 b3 x3 r3 u3 b4 u4 r4
          go_wp2_with fail
          refine (bytes_any l).mono ?_
          rintro e w5 ⟨v5, rfl, o5, b5⟩
          have x5 := own_below x4 b5
          have r5 := (Rd.of_own o5 HA.out.2.2.2.2.2).1
          have U5 := Lib.hid (U4.out.trans (b5.mono U4.out.size))
          clear x4 o5 b5 n0 n1 n2
          go_wp2_with (at_builtin; refine wpList_append_bytes (.tmp 27) (.tmp 30) 22 rfl rfl info5 Tryd.underlying22 W.heap.size _ _ _ rfl x5 _ (enc l) rfl r5 (by have := HA.out; omega) U5.out.size ?_; intro v6 w6 x6 b6; clear x5 r5; have U6 := Lib.hid (U5.out.trans b6); clear b6)
          go_ret
          rw [HB.out]
          refine ⟨_, rfl, ?_, HW.out.1.trans (U6.out.mono HW.out.1.size)⟩
          have e : (enc v ++ enc t ++ enc l).length = (enc v).length + (enc t).length + (enc l).length := by simp only [List.length_append]
          rw [e]
          exact own_mono x6 HW.out.1.size
#print axioms rktext_any
end Go.Proofs.YtofklfahbhhoiaaDoor
