/- hello.clientBody: what a client's hello has. -/
import Derived.Test.YtefcjggmlhoebaaDoorHRd7
import Derived.Test.YtefcjggmlhoebaaDoorHApp
namespace Go.Proofs.YtefcjggmlhoebaaDoor
open Go Go.RowKit

theorem numB_gbig {t : Int} (h : tmR t) : numB t = gbig t 4 := by
  obtain ⟨h1, h2⟩ := h
  rw [numB_yes ⟨h1, h2⟩]
  simp [gbig]
  omega
theorem numB_zero : numB 0 = [] := numB_no (by omega)
theorem big_gbig (n : Int) (k : Nat) : big n k = gbig n k := by
  induction k with
  | zero => rfl
  | succ k ih => simp only [big, gbig, ih]
/-- A term's four bytes, in a block of their own. -/
theorem num4_any {t : Int} (h : tmR t) (w : World) : Calls Tryd.prog 50 #[.int .i64 t] w fun e w' => ∃ g, e = .returned (.slice (some ⟨g, 0, none⟩) 4 4) ∧ Rd w' (.slice (some ⟨g, 0, none⟩) 4 4) (gbig t 4) ∧ Below w.heap.size w w' := by
  refine (number_yes (h := t) h w).mono ?_
  rintro e w' ⟨rfl, rfl⟩
  have hl : (numB t).length = 4 := by rw [numB_yes (h := t) h]; rfl
  have := lit_any 96 w (numB t) (by omega) (numB_byt t)
  rw [hl, numB_gbig h] at this
  rw [numB_gbig h]
  exact ⟨_, rfl, this, below_alloc w _⟩
/-- append onto four bytes that fill their block. -/
theorem wp_append_four {w : World} {o : Oper} {a : Act} {K : Act → World → Prop} {Q : Exit → Act → World → Prop} (s x : Operand)
    (ho : o.op = .call { callee := .builtin .append, args := #[s, x], argTypes := #[22, 22] }) (g : Nat) (xs : List Int) (hs : a.eval s = .slice (some ⟨g, 0, none⟩) 4 4) (hxs : Rd w (.slice (some ⟨g, 0, none⟩) 4 4) xs)
    (g2 : Nat) (zs : List Int) (hx : a.eval x = .slice (some ⟨g2, 0, none⟩) 4 4) (hr : Rd w (.slice (some ⟨g2, 0, none⟩) 4 4) zs)
    (h : ∀ v' w', w'.ownsRow w.heap.size 5 1 v' 8 (by8 (xs ++ zs)) → Below w.heap.size w w' → K (a.put o.dst v') w') : o.wp Tryd.prog a w K Q := by
  obtain ⟨i, hi, hz0, hz1, hz2⟩ := info_row5
  obtain ⟨ao, cap, e1, h1, h2, h3, hbt, hc⟩ := hxs
  simp only [Value.slice.injEq] at e1
  obtain ⟨rfl, hx4, rfl⟩ := e1
  obtain ⟨ao2, cap2, e2, k1, k2, k3, kbt, kc⟩ := hr
  simp only [Value.slice.injEq] at e2
  obtain ⟨rfl, hz4, rfl⟩ := e2
  have hcell : ∀ {g : Nat} {ys : List Int}, ys.length = 4 → (∀ a, some (⟨g, 0, none⟩ : Addr) = some a → ∀ j, j < ys.length → w.cell? (a.add j) = some (.int .u8 (ys.getD j 0))) → ∀ j u, (by8 ys)[j]? = some u → w.cell? ((⟨g, 0, none⟩ : Addr).add j) = some u := by
    intro g ys hl hc j u hu
    have hj : j < ys.length := by
      have := (List.getElem?_eq_some_iff.1 hu).1
      simpa [by8_len] using this
    rw [by8_get ys j hj] at hu
    cases hu
    exact hc _ rfl j hj
  obtain ⟨v', w', hrun, hown, hg⟩ := run_append_arg_grows (P := Tryd.prog) (w := w) 22 o.type 5 i (.int .u8 0) 1 1 Tryd.underlying22 hi hz0 hz1 hz2 rfl (by decide) ⟨g, 0, none⟩ 4 4 (by8 xs) (by simp [by8_len]; omega) (hcell hx4.symm hc) ⟨g2, 0, none⟩ 4 4 (by8 zs) (by simp [by8_len]; omega)
    (hcell hz4.symm kc) (by omega) (by unfold maxLen; omega) (by omega)
  rw [← by8_app] at hown
  unfold Oper.wp execOp
  simp only [ho, resolve, invoke, builtin, Sem.run_bind, Sem.run_pure, Result.andThen_ok, List.map_toArray, List.map_cons, List.map_nil, hs, hx, hrun]
  exact h v' w' hown (below_made hg)
theorem step_append_four {w : World} {ops : Array Oper} {o : Oper} {a : Act} {K : Act → World → Prop} {Q : Exit → Act → World → Prop} {E : Prop} (hgd : o.guard = none) (s x : Operand)
    (ho : o.op = .call { callee := .builtin .append, args := #[s, x], argTypes := #[22, 22] }) (g : Nat) (xs : List Int) (hs : a.eval s = .slice (some ⟨g, 0, none⟩) 4 4) (hxs : Rd w (.slice (some ⟨g, 0, none⟩) 4 4) xs)
    (g2 : Nat) (zs : List Int) (hx : a.eval x = .slice (some ⟨g2, 0, none⟩) 4 4) (hr : Rd w (.slice (some ⟨g2, 0, none⟩) 4 4) zs)
    (h : ∀ v' w', w'.ownsRow w.heap.size 5 1 v' 8 (by8 (xs ++ zs)) → Below w.heap.size w w' → K (a.put o.dst v') w') :
    if Region.wanted o (yielded ops a.tmps) = true then Oper.wp Tryd.prog o a w K Q else E := by
  have hw : Region.wanted o (yielded ops a.tmps) = true := by simp [Region.wanted, hgd]
  rw [if_pos hw]
  exact wp_append_four s x ho g xs hs hxs g2 zs hx hr h
theorem own_shapeH {w : World} {base : Nat} {e : TypeId} {size : Nat} {v : Value} {n : Nat} {xs : List Value} (h : w.ownsRow base e size v n xs) : ∃ ao cap, v = .slice ao n cap := by
  rcases h.2 with ⟨rfl, rfl⟩ | ⟨g, cap, cur, rfl, _⟩
  · exact ⟨_, _, rfl⟩
  · exact ⟨_, _, rfl⟩
theorem step_append_bytes {w : World} {ops : Array Oper} {o : Oper} {a : Act} {K : Act → World → Prop} {Q : Exit → Act → World → Prop} {E : Prop} (hgd : o.guard = none) (s x : Operand)
    (ho : o.op = .call { callee := .builtin .append, args := #[s, x], argTypes := #[22, 22] })
    (base : Nat) (v : Value) (n : Nat) (xs : List Int) (hs : a.eval s = v) (hown : w.ownsRow base 5 1 v n (by8 xs))
    (xv : Value) (ys : List Int) (hx : a.eval x = xv) (hr : Rd w xv ys) (hbound : n + ys.length ≤ 140737488355328) (hbase : base ≤ w.heap.size)
    (h : ∀ v' w', w'.ownsRow base 5 1 v' (n + ys.length) (by8 (xs ++ ys)) → Below base w w' → K (a.put o.dst v') w') :
    if Region.wanted o (yielded ops a.tmps) = true then Oper.wp Tryd.prog o a w K Q else E := by
  have hw : Region.wanted o (yielded ops a.tmps) = true := by simp [Region.wanted, hgd]
  rw [if_pos hw]
  obtain ⟨i, hi, hz0, hz1, hz2⟩ := info_row5
  obtain ⟨ao, cap, rfl, h1, h2, h3, _, hc⟩ := hr
  cases ao with
  | none =>
    have hcap := h3 rfl
    have hy : ys = [] := List.eq_nil_of_length_eq_zero (by omega)
    subst hy; subst hcap
    have hrun := run_append_owned_none (P := Tryd.prog) (w := w) base 22 o.type 5 i 1 Tryd.underlying22 hi v n (by8 xs) hown
    unfold Oper.wp execOp
    simp only [ho, resolve, invoke, builtin, Sem.run_bind, Sem.run_pure, Result.andThen_ok, List.map_toArray, List.map_cons, List.map_nil, hs, hx]
    simp only [List.length_nil] at hrun ⊢
    rw [hrun]
    exact h v w (by simpa using hown) (Below.refl _ _)
  | some ad =>
    refine wp_append_own w s x 22 ho base 5 i (.int .u8 0) 1 1 Tryd.underlying22 hi hz0 hz1 hz2 rfl (by decide) v n (by8 xs) hs hown ad ys.length cap (by8 ys) hx (by simp [by8_len]) ?_ (by8_one ys) (by unfold maxLen; omega) (by omega) hbase ?_
    · intro j u hu
      have hj : j < ys.length := by
        have := (List.getElem?_eq_some_iff.1 hu).1
        simpa [by8_len] using this
      rw [by8_get ys j hj] at hu
      cases hu
      exact hc ad rfl j hj
    · intro v' w' hown' hg _
      exact h v' w' (by rw [by8_app]; exact hown') (below_own hown hbase hg)
theorem flB_byt (f : Bool) : Byt [flB f] := fun z hz => by
  obtain rfl := List.mem_singleton.1 hz
  cases f <;> simp [flB]
theorem gbig_byt (n : Int) (k : Nat) : Byt (gbig n k) := by rw [← big_gbig]; exact big_byt n k
/-- What body tells. -/
def HBP (w : World) (zs : List Int) (e : Ending) (w' : World) : Prop := ∃ v', e = .returned v' ∧ Rd w' v' zs ∧ Below w.heap.size w w'
theorem MBox.drew {w : World} {H : Nat} {k r s t m : Int} {f : Bool} {vp : Value} {n : ByteArray} {v l : Int} (h : MBox w H k r s t m f vp n v l) : MBox w.drew H k r s t m f vp n v l := h
set_option maxRecDepth 20000 in
set_option maxHeartbeats 4000000 in
theorem body_2 (w : World) (r s t m : Int) (f : Bool) (a : Option Addr) (pl c : Nat) (n : ByteArray) (v l : Int) (hr : tmR r) (hs : tmR s) (hv : 1 ≤ v ∧ v ≤ 4294967295) : Calls Tryd.prog 21 #[.agg (mcl 2 r s t m f (.slice a pl c) n v l)] w (HBP w (gbig r 4 ++ (gbig s 4 ++ (gbig v 4 ++ [flB f])))) := by
  have hm0 := mbox_new w 2 r s t m f (.slice a pl c) n v l
  have B0 := below_alloc w (.cells (mcl 2 r s t m f (.slice a pl c) n v l) 28)
  obtain ⟨⟨c0, c1, c2, c3, c4, c5, c6, c7, c8, c9⟩, cf⟩ := hm0.cells
  unfold mcl at *
  have hnr := fun W => num4_any hr W
  have hns := fun W => num4_any hs W
  go_enter Tryd.func21, Tryd.ntmps21
  go_wp2_with fail
  have hs1 : (w.alloc (.cells #[.int .i64 2, .int .i64 r, .int .i64 s, .int .i64 t, .int .i64 m, .bool f, .slice a pl c, .string n, .int .i64 v, .int .i64 l] 28)).heap.size = w.heap.size + 1 := by simp
  generalize w.alloc (.cells #[.int .i64 2, .int .i64 r, .int .i64 s, .int .i64 t, .int .i64 m, .bool f, .slice a pl c, .string n, .int .i64 v, .int .i64 l] 28) = W1 at *
  have q1 : W1.drew.cell? ⟨w.heap.size, 1, none⟩ = some (.int .i64 r) := c1
  have q2 : W1.drew.cell? ⟨w.heap.size, 2, none⟩ = some (.int .i64 s) := c2
  go_region_held3 (fun w' => w'.cell? ⟨w.heap.size, 1, none⟩ = some (.int .i64 r) ∧ w'.cell? ⟨w.heap.size, 2, none⟩ = some (.int .i64 s))
    (first | with_reducible exact ⟨q1, q2⟩ | with_reducible exact ⟨d1, d2⟩ | with_reducible exact ⟨e1, e2⟩ | with_reducible exact ⟨f1, f2⟩)
    (first
      | (go_at_call 50; with_reducible refine (hns w2).mono ?_; rintro e w3 ⟨g3, rfl, hr3, hb3⟩; have hm3 := hm2.below hb3; obtain ⟨⟨-, e1, e2, -⟩, -⟩ := hm3.cells; have hr2' := hr2.below hb3)
      | (go_at_call 50; with_reducible refine (hnr _).mono ?_; rintro e w2 ⟨g2, rfl, hr2, hb2⟩; have hm2 := hm0.drew.below hb2; obtain ⟨⟨-, d1, d2, -⟩, -⟩ := hm2.cells)
      | (refine step_append_four (by rfl) _ _ (by rfl) g2 _ (by rfl) hr2' g3 _ (by rfl) hr3 ?_; intro v4 w4 hown4 hb4; have hm4 := hm3.below hb4; obtain ⟨⟨-, f1, f2, -⟩, -⟩ := hm4.cells))
  have hlen : (gbig r 4 ++ gbig s 4).length = 8 := by simp [gbig_len]
  have hsz2 : w.heap.size < w2.heap.size := hm2.lt
  have hsz : w.heap.size < w3.heap.size := hm3.lt
  have hown5 : w4.ownsRow w3.heap.size 5 1 v4 (gbig r 4 ++ gbig s 4).length (by8 (gbig r 4 ++ gbig s 4)) := by rw [hlen]; exact hown4
  have hfa := fappend_any (w := w4.drew) hown5 hb4.size (by rw [hlen]; omega) v (by omega) (by omega) 4 (Nat.le_refl _)
  rw [hlen, big_gbig] at hfa
  have BW4 := Lib.hid (((B0.trans ⟨hb2.os, hb2.tape, hb2.output, hb2.size, fun k hk => hb2.block k (by show k < W1.heap.size; omega)⟩).trans (hb3.mono (by omega))).trans (hb4.mono (by omega)))
  have HM4 := Lib.hid hm4
  have hb4s := hb4.size
  obtain ⟨a4, k4, rfl⟩ := own_shapeH hown4
  clear hown4 hown5 hr2' hr2 hr3 hb2 hb3 hb4 hm2 hm3 hm0 B0 d1 d2 e1 e2 f1 f2 q1 q2 c0 c1 c2 c3 c4 c5 c6 c7 c8 c9 cf hns hnr hs1 hlen
  obtain ⟨⟨-, -, -, -, -, c5, -, -, c8, -⟩, cf⟩ := hm4.cells
  clear hm4
  go_wp2_with fail
  have q5 : w4.drew.cell? ⟨w.heap.size, 5, none⟩ = some (.bool f) := c5
  have q8 : w4.drew.cell? ⟨w.heap.size, 8, none⟩ = some (.int .i64 v) := c8
  go_region_held3 (fun w' => w'.cell? ⟨w.heap.size, 5, none⟩ = some (.bool f) ∧ w'.cell? ⟨w.heap.size, 8, none⟩ = some (.int .i64 v))
    (first | with_reducible exact ⟨q5, q8⟩ | with_reducible exact ⟨d5, d8⟩ | with_reducible exact ⟨e5, e8⟩ | with_reducible exact ⟨f5, f8⟩)
    (first
      | (go_at_call 51; refine hfa.mono ?_; rintro e w5 ⟨v5, rfl, hown5, hb5⟩; have hm5 := HM4.out.drew.keep (hb5.block _ hsz); have hy := hm5.below (below_alloc w5 (.cells #[.int .u8 (flB f)] 5)); obtain ⟨⟨-, -, -, -, -, d5, -, -, d8, -⟩, -⟩ := hm5.cells; obtain ⟨⟨-, -, -, -, -, e5, -, -, e8, -⟩, -⟩ := hy.cells; have hR := Rd.lit w5 [flB f] (by simp) (flB_byt f); have hO := own_below hown5 (below_alloc w5 (.cells #[.int .u8 (flB f)] 5)); have hB5 := hb5.alloc (Nat.le_trans hb4s hb5.size) (.cells #[.int .u8 (flB f)] 5))
      | (go_at_call 52; refine (flag_any _ f).mono ?_; rintro e w6 ⟨rfl, rfl⟩)
      | (refine step_append_bytes (by rfl) _ _ (by rfl) w3.heap.size _ _ _ (by rfl) hO _ _ (by rfl) hR ?_ (Nat.le_trans hb4s hB5.size) ?_; (simp); intro v7 w7 hown7 hb7; have hm7 := hy.keep (hb7.block _ hsz); obtain ⟨⟨-, -, -, -, -, f5, -, -, f8, -⟩, -⟩ := hm7.cells))
  go_wp2_with fail
  go_ret
  refine ⟨_, rfl, ?_, ?_⟩
  · have hb : Byt (gbig r 4 ++ gbig s 4 ++ gbig v 4 ++ [flB f]) := (((gbig_byt _ _).app (gbig_byt _ _)).app (gbig_byt _ _)).app (flB_byt f)
    have := (Rd.of_own hown7 hb).1
    rwa [List.append_assoc, List.append_assoc] at this
  · exact (BW4.out.trans ((show Below w3.heap.size w4 _ from ⟨hB5.os, hB5.tape, hB5.output, hB5.size, hB5.block⟩).mono (by omega))).trans (hb7.mono (by omega))
end Go.Proofs.YtefcjggmlhoebaaDoor
namespace Go.Proofs.YtefcjggmlhoebaaDoor
open Go Go.RowKit

set_option maxRecDepth 20000 in
set_option maxHeartbeats 4000000 in
theorem body_4 (w : World) (r s t m : Int) (f : Bool) (a : Option Addr) (pl c : Nat) (n : ByteArray) (v l : Int) (ht : tmR t) (hT : Tab w) (hw : 1 < w.heap.size) : Calls Tryd.prog 21 #[.agg (mcl 4 r s t m f (.slice a pl c) n v l)] w (HBP w (gbig t 4 ++ enc l)) := by
  have hm0 := mbox_new w 4 r s t m f (.slice a pl c) n v l
  have B0 := below_alloc w (.cells (mcl 4 r s t m f (.slice a pl c) n v l) 28)
  have HT := Lib.hid (hT.below B0)
  obtain ⟨⟨c0, c1, c2, c3, c4, c5, c6, c7, c8, c9⟩, cf⟩ := hm0.cells
  unfold mcl at *
  have hnr := fun W => num4_any ht W
  clear hT
  go_enter Tryd.func21, Tryd.ntmps21
  go_wp2_with fail
  have hs1 : (w.alloc (.cells #[.int .i64 4, .int .i64 r, .int .i64 s, .int .i64 t, .int .i64 m, .bool f, .slice a pl c, .string n, .int .i64 v, .int .i64 l] 28)).heap.size = w.heap.size + 1 := by simp
  generalize w.alloc (.cells #[.int .i64 4, .int .i64 r, .int .i64 s, .int .i64 t, .int .i64 m, .bool f, .slice a pl c, .string n, .int .i64 v, .int .i64 l] 28) = W1 at *
  have q1 : W1.drew.cell? ⟨w.heap.size, 3, none⟩ = some (.int .i64 t) := c3
  have q2 : W1.drew.cell? ⟨w.heap.size, 9, none⟩ = some (.int .i64 l) := c9
  have HT' := Lib.hid (Tab.drew HT.out)
  go_region_held3 (fun w' => w'.cell? ⟨w.heap.size, 3, none⟩ = some (.int .i64 t) ∧ w'.cell? ⟨w.heap.size, 9, none⟩ = some (.int .i64 l))
    (first | with_reducible exact ⟨q1, q2⟩ | with_reducible exact ⟨d1, d2⟩ | with_reducible exact ⟨e1, e2⟩)
    (first
      | (go_at_call 50; with_reducible refine (hnr _).mono ?_; rintro e w2 ⟨g2, rfl, hr2, hb2⟩; have hm2 := hm0.drew.below hb2; obtain ⟨⟨-, -, -, d1, -, -, -, -, -, d2⟩, -⟩ := hm2.cells; have hap := append_any hr2 (by rw [gbig_len]; omega) l (HT'.out.below hb2) (by have := hb2.size; have e0 : W1.drew.heap.size = W1.heap.size := rfl; omega))
      | (go_at_call 53; refine hap.mono ?_; rintro e w3 ⟨v3, rfl, hown3, hb3⟩; have hm3 := hm2.below hb3; obtain ⟨⟨-, -, -, e1, -, -, -, -, -, e2⟩, -⟩ := hm3.cells))
  go_wp2_with fail
  go_ret
  have hsz2 : w.heap.size < w2.heap.size := hm2.lt
  refine ⟨_, rfl, (Rd.of_own hown3 ((gbig_byt _ _).app (enc_byt _))).1, ?_⟩
  exact (B0.trans ⟨hb2.os, hb2.tape, hb2.output, hb2.size, fun k hk => hb2.block k (by show k < W1.heap.size; omega)⟩).trans (hb3.mono (by omega))
set_option maxRecDepth 20000 in
set_option maxHeartbeats 4000000 in
theorem body_8 (w : World) (r s t m : Int) (f : Bool) (a : Option Addr) (p : List Int) (c : Nat) (n : ByteArray) (v l : Int) (hr : Rd w (.slice a p.length c) p) (hp : p.length ≤ 1000) (hT : Tab w) (hw : 1 < w.heap.size) : Calls Tryd.prog 21 #[.agg (mcl 8 r s t m f (.slice a p.length c) n v l)] w (HBP w (flB f :: (enc (p.length : Int) ++ p))) := by
  have hm0 := mbox_new w 8 r s t m f (.slice a p.length c) n v l
  have B0 := below_alloc w (.cells (mcl 8 r s t m f (.slice a p.length c) n v l) 28)
  have HT := Lib.hid (hT.below B0)
  have hr1 := hr.below B0
  obtain ⟨⟨c0, c1, c2, c3, c4, c5, c6, c7, c8, c9⟩, cf⟩ := hm0.cells
  unfold mcl at *
  clear hT
  go_enter Tryd.func21, Tryd.ntmps21
  go_wp2_with fail
  have hs1 : (w.alloc (.cells #[.int .i64 8, .int .i64 r, .int .i64 s, .int .i64 t, .int .i64 m, .bool f, .slice a p.length c, .string n, .int .i64 v, .int .i64 l] 28)).heap.size = w.heap.size + 1 := by simp
  generalize w.alloc (.cells #[.int .i64 8, .int .i64 r, .int .i64 s, .int .i64 t, .int .i64 m, .bool f, .slice a p.length c, .string n, .int .i64 v, .int .i64 l] 28) = W1 at *
  have q5 : W1.drew.cell? ⟨w.heap.size, 5, none⟩ = some (.bool f) := c5
  have q6 : W1.drew.cell? ⟨w.heap.size, 6, none⟩ = some (.slice a p.length c) := c6
  have hy := below_alloc W1 (.cells #[.int .u8 (flB f)] 5)
  have hm1 := (hm0.below hy).drew
  obtain ⟨⟨-, -, -, -, -, e5, e6, -⟩, -⟩ := hm1.cells
  have hR : Rd (W1.alloc (.cells #[.int .u8 (flB f)] 5)).drew (.slice (some ⟨w.heap.size + 1, 0, none⟩) 1 1) [flB f] := by
    rw [← hs1]
    exact (Rd.lit W1 [flB f] (by simp) (flB_byt f)).drew
  have hG := give_any hR (hr1.below hy).drew (by simp) hp (Tab.drew (HT.out.below hy)) (Nat.lt_of_lt_of_le (by omega) hy.size)
  go_region_held3 (fun w' => w'.cell? ⟨w.heap.size, 5, none⟩ = some (.bool f) ∧ w'.cell? ⟨w.heap.size, 6, none⟩ = some (.slice a p.length c))
    (first | with_reducible exact ⟨q5, q6⟩ | with_reducible exact ⟨e5, e6⟩ | with_reducible exact ⟨f5, f6⟩)
    (first
      | (go_at_call 52; refine (flag_any _ f).mono ?_; rintro e w6 ⟨rfl, rfl⟩)
      | (go_at_call 54; refine hG.mono ?_; rintro e w3 ⟨v3, rfl, hown3, hb3⟩; have hm3 := hm1.below hb3; obtain ⟨⟨-, -, -, -, -, f5, f6, -⟩, -⟩ := hm3.cells))
  go_wp2_with fail
  go_ret
  have hb := (Rd.of_own hown3 (((flB_byt f).app (enc_byt _)).app hr.byt)).1
  rw [List.append_assoc] at hb
  have hyz := hy.size
  refine ⟨_, rfl, hb, ?_⟩
  exact (B0.trans (hy.drew.mono (by omega))).trans (hb3.mono (by show w.heap.size ≤ (W1.alloc _).heap.size; omega))
set_option maxRecDepth 20000 in
set_option maxHeartbeats 4000000 in
theorem body_mac (w : World) (k r s t m : Int) (f : Bool) (a : Option Addr) (pl c : Nat) (n : ByteArray) (v l : Int) (hk : k = 15 ∨ k = 20) (hm : tmR m) : Calls Tryd.prog 21 #[.agg (mcl k r s t m f (.slice a pl c) n v l)] w (HBP w (gbig m 4)) := by
  have hm0 := mbox_new w k r s t m f (.slice a pl c) n v l
  have B0 := below_alloc w (.cells (mcl k r s t m f (.slice a pl c) n v l) 28)
  obtain ⟨⟨c0, c1, c2, c3, c4, c5, c6, c7, c8, c9⟩, cf⟩ := hm0.cells
  have k1 : (k == 1) = false := by rcases hk with rfl | rfl <;> rfl
  have k2 : (k == 2) = false := by rcases hk with rfl | rfl <;> rfl
  have k4 : (k == 4) = false := by rcases hk with rfl | rfl <;> rfl
  have k8 : (k == 8) = false := by rcases hk with rfl | rfl <;> rfl
  have k11 : (k == 11) = false := by rcases hk with rfl | rfl <;> rfl
  unfold mcl at *
  have hnr := fun W => num4_any hm W
  clear hk
  go_enter Tryd.func21, Tryd.ntmps21
  go_wp2_with (go_at_call 50; with_reducible refine (hnr _).mono ?_; rintro e w2 ⟨g2, rfl, hr2, hb2⟩)
  go_ret
  exact ⟨_, rfl, hr2, B0.trans (hb2.mono B0.size)⟩
set_option maxRecDepth 20000 in
set_option maxHeartbeats 4000000 in
theorem body_11 (w : World) (r s t m : Int) (f : Bool) (a : Option Addr) (pl c : Nat) (n : ByteArray) (v l : Int) (hn : n.size ≤ 50) : Calls Tryd.prog 21 #[.agg (mcl 11 r s t m f (.slice a pl c) n v l)] w (HBP w (sbytes n)) := by
  have hm0 := mbox_new w 11 r s t m f (.slice a pl c) n v l
  have B0 := below_alloc w (.cells (mcl 11 r s t m f (.slice a pl c) n v l) 28)
  obtain ⟨⟨c0, c1, c2, c3, c4, c5, c6, c7, c8, c9⟩, cf⟩ := hm0.cells
  obtain ⟨vv, ww, hcv, hra, _, hbw⟩ := conv_str (w.alloc (.cells (mcl 11 r s t m f (.slice a pl c) n v l) 28)) n (by unfold maxLen; omega)
  unfold mcl at *
  go_enter Tryd.func21, Tryd.ntmps21
  go_wp2_with fail
  go_ret
  exact ⟨_, rfl, hra.rd, B0.trans (hbw.mono B0.size)⟩
#print axioms body_4
#print axioms body_8
#print axioms body_mac
#print axioms body_11
end Go.Proofs.YtefcjggmlhoebaaDoor
namespace Go.Proofs.YtefcjggmlhoebaaDoor
open Go Go.RowKit

theorem numB_len (t : Int) : (numB t).length ≤ 4 := by
  by_cases h : 1 ≤ t ∧ t ≤ 65536
  · rw [numB_yes h]; simp
  · rw [numB_no h]; simp
theorem flB2_byt (f g : Bool) : Byt [flB f, flB g] := fun z hz => by
  simp only [List.mem_cons, List.not_mem_nil, or_false] at hz
  rcases hz with rfl | rfl
  · cases f <;> simp [flB]
  · cases g <;> simp [flB]
set_option maxRecDepth 20000 in
set_option maxHeartbeats 8000000 in
theorem cbody_any (w : World) (k r s t m : Int) (f tb : Bool) (htb : (t != 0) = tb) (a : Option Addr) (p : List Int) (c : Nat) (n : ByteArray) (v l : Int) (hr : tmR r) (hs : tmR s) (hrp : Rd w (.slice a p.length c) p) (hp : p.length ≤ 600) (hT : Tab w) (hw : 1 < w.heap.size) : Calls Tryd.prog 49 #[.agg (mcl k r s t m f (.slice a p.length c) n v l)] w (HBP w (gbig r 4 ++ gbig s 4 ++ [flB f, flB tb] ++ numB t ++ enc (p.length : Int) ++ p ++ numB m)) := by
  have hm0 := mbox_new w k r s t m f (.slice a p.length c) n v l
  have B0 := below_alloc w (.cells (mcl k r s t m f (.slice a p.length c) n v l) 28)
  have HT := Lib.hid hT
  have HRP := Lib.hid hrp
  obtain ⟨⟨c0, c1, c2, c3, c4, c5, c6, c7, c8, c9⟩, cf⟩ := hm0.cells
  unfold mcl at *
  have hnr := fun W => num4_any hr W
  have hns := fun W => num4_any hs W
  clear hT hrp
  go_enter Tryd.func49, Tryd.ntmps49
  go_wp2_with fail
  have hs1 : (w.alloc (.cells #[.int .i64 k, .int .i64 r, .int .i64 s, .int .i64 t, .int .i64 m, .bool f, .slice a p.length c, .string n, .int .i64 v, .int .i64 l] 28)).heap.size = w.heap.size + 1 := by simp
  generalize w.alloc (.cells #[.int .i64 k, .int .i64 r, .int .i64 s, .int .i64 t, .int .i64 m, .bool f, .slice a p.length c, .string n, .int .i64 v, .int .i64 l] 28) = W1 at *
  have q1 : W1.drew.cell? ⟨w.heap.size, 1, none⟩ = some (.int .i64 r) := c1
  have q2 : W1.drew.cell? ⟨w.heap.size, 2, none⟩ = some (.int .i64 s) := c2
  go_region_held3 (fun w' => w'.cell? ⟨w.heap.size, 1, none⟩ = some (.int .i64 r) ∧ w'.cell? ⟨w.heap.size, 2, none⟩ = some (.int .i64 s))
    (first | with_reducible exact ⟨q1, q2⟩ | with_reducible exact ⟨d1, d2⟩ | with_reducible exact ⟨e1, e2⟩ | with_reducible exact ⟨f1, f2⟩)
    (first
      | (go_at_call 50; with_reducible refine (hns w2).mono ?_; rintro e w3 ⟨g3, rfl, hr3, hb3⟩; have hm3 := hm2.below hb3; obtain ⟨⟨-, e1, e2, -⟩, -⟩ := hm3.cells; have hr2' := hr2.below hb3)
      | (go_at_call 50; with_reducible refine (hnr _).mono ?_; rintro e w2 ⟨g2, rfl, hr2, hb2⟩; have hm2 := hm0.drew.below hb2; obtain ⟨⟨-, d1, d2, -⟩, -⟩ := hm2.cells)
      | (refine step_append_four (by rfl) _ _ (by rfl) g2 _ (by rfl) hr2' g3 _ (by rfl) hr3 ?_; intro v4 w4 hown4 hb4; have hm4 := hm3.below hb4; obtain ⟨⟨-, f1, f2, -⟩, -⟩ := hm4.cells))
  have hsz2 : w.heap.size < w2.heap.size := hm2.lt
  have hsz : w.heap.size < w3.heap.size := hm3.lt
  have BW : Below W1.heap.size W1 w4 := ((show Below W1.heap.size W1 w2 from ⟨hb2.os, hb2.tape, hb2.output, hb2.size, hb2.block⟩).trans (hb3.mono (by omega))).trans (hb4.mono (by have := hb3.size; omega))
  have HB4 := Lib.hid (B0.trans (BW.mono (by omega)))
  have hb4s := hb4.size
  have hbig : 1 < w4.heap.size := by omega
  have HM4 := Lib.hid hm4
  obtain ⟨a4, k4, rfl⟩ := own_shapeH hown4
  clear hr2' hr2 hr3 hb2 hb3 hb4 hm2 hm3 hm0 B0 BW d1 d2 e1 e2 f1 f2 q1 q2 c0 c1 c2 c3 c4 c5 c6 c7 c8 c9 cf hns hnr hs1
  generalize hbs : w3.heap.size = base at *
  clear hbs
  obtain ⟨⟨-, -, -, c3, -, c5, -⟩, cf⟩ := hm4.cells
  have hy := below_alloc w4 (.cells #[.int .u8 (flB f), .int .u8 (flB tb)] 5)
  have hm5 := (hm4.below hy).drew
  have HM5 := Lib.hid hm5
  have hR : Rd (w4.alloc (.cells #[.int .u8 (flB f), .int .u8 (flB tb)] 5)).drew (.slice (some ⟨w4.heap.size, 0, none⟩) 2 2) [flB f, flB tb] := (Rd.lit w4 [flB f, flB tb] (by simp) (flB2_byt f tb)).drew
  have hO : (w4.alloc (.cells #[.int .u8 (flB f), .int .u8 (flB tb)] 5)).drew.ownsRow base 5 1 (.slice a4 8 k4) 8 (by8 (gbig r 4 ++ gbig s 4)) := own_below hown4 hy.drew
  have hbs5 : base ≤ (w4.alloc (.cells #[.int .u8 (flB f), .int .u8 (flB tb)] 5)).drew.heap.size := Nat.le_trans hb4s hy.size
  have HY := Lib.hid hy.drew
  clear hm4 hown4 hy
  go_wp2_with fail
  have q5 : w4.drew.cell? ⟨w.heap.size, 5, none⟩ = some (.bool f) := c5
  have q3 : w4.drew.cell? ⟨w.heap.size, 3, none⟩ = some (.int .i64 t) := c3
  obtain ⟨⟨-, -, -, d3, -, d5, -⟩, -⟩ := hm5.cells
  go_region_held3 (fun w' => w'.cell? ⟨w.heap.size, 5, none⟩ = some (.bool f) ∧ w'.cell? ⟨w.heap.size, 3, none⟩ = some (.int .i64 t))
    (first | with_reducible exact ⟨q5, q3⟩ | with_reducible exact ⟨d5, d3⟩ | with_reducible exact ⟨f5, f3⟩)
    (first
      | (go_at_call 52; refine (flag_any _ _).mono ?_; rintro e w6 ⟨rfl, rfl⟩)
      | (refine step_append_bytes (by rfl) _ _ (by rfl) base _ _ _ (by rfl) hO _ _ (by rfl) hR ?_ hbs5 ?_; (simp); intro v7 w7 hown7 hb7; have hm7 := hm5.keep (hb7.block _ hsz); obtain ⟨⟨-, -, -, f3, -, f5, -⟩, -⟩ := hm7.cells))
  have hle := HY.out.size
  have HB7 := Lib.hid ((HB4.out.trans (HY.out.mono (by omega))).trans (hb7.mono (by omega)))
  have HM7 := Lib.hid hm7
  have hsb7 : base ≤ w7.heap.size := Nat.le_trans (Nat.le_trans hb4s hle) hb7.size
  obtain ⟨a7, k7, rfl⟩ := own_shapeH hown7
  have HO7 := Lib.hid hown7
  obtain ⟨⟨-, -, -, c3, -⟩, cf⟩ := hm7.cells
  have hnt := fun W => inumber_any t W
  clear hown7 hm5 hm7 hb7 hO hR hbs5 q5 q3 d5 d3 f5 f3 c5 hle HY HB4 HM4 HM5 hb4s hsz2
  go_wp2_with (first
    | (go_at_call 50; refine (hnt _).mono ?_; rintro e w8 ⟨v8, rfl, hr8, hb8⟩; have ho8 := own_below HO7.out hb8; have hm8 := HM7.out.below hb8; have hs8 : base ≤ w8.heap.size := Nat.le_trans hsb7 hb8.size; have HB8 := Lib.hid (HB7.out.trans (hb8.mono (by have := HM7.out.lt; omega))))
    | (at_builtin; refine wpList_append_bytes (.tmp 21) (.tmp 24) 22 rfl rfl info5 Tryd.underlying22 base _ _ _ rfl ho8 _ (numB t) rfl hr8 (by have := numB_len t; simp only [List.length_cons, List.length_nil]; omega) hs8 ?_; intro v9 w9 hown9 hb9; have hm9 := hm8.keep (hb9.block _ hsz); have HB9 := Lib.hid (HB8.out.trans (hb9.mono (by omega)))))
  have hsb9 : base ≤ w9.heap.size := Nat.le_trans hs8 hb9.size
  obtain ⟨a9, k9, rfl⟩ := own_shapeH hown9
  have hby9 : Byt (gbig r 4 ++ gbig s 4 ++ [flB f, flB tb] ++ numB t) := (((gbig_byt _ _).app (gbig_byt _ _)).app (flB2_byt _ _)).app (numB_byt _)
  have hr9 := (Rd.of_own hown9 hby9).1
  have HL9 : Hid ((gbig r 4 ++ gbig s 4 ++ [flB f, flB tb] ++ numB t).length ≤ 14) := Lib.hid (by have := numB_len t; simp [gbig_len]; omega)
  have HBY9 := Lib.hid hby9
  generalize gbig r 4 ++ gbig s 4 ++ [flB f, flB tb] ++ numB t = Z at *
  have hG := give_any hr9.drew (HRP.out.below HB9.out).drew (by have := HL9.out; omega) (by omega) (Tab.drew (HT.out.below HB9.out)) (by show 1 < w9.heap.size; have := HB9.out.size; omega)
  have hsz9 : w.heap.size < w9.heap.size := hm9.lt
  have hnm := fun W => inumber_any m W
  have HM9 := Lib.hid hm9
  obtain ⟨⟨-, -, -, -, c4, -, c6, -⟩, cf⟩ := hm9.cells
  clear hown9 hby9 hr9 hm9 hb9 hs8 hm8 ho8 hb8 hr8 hnt c3
  go_wp2_with fail
  have q4 : w9.drew.cell? ⟨w.heap.size, 4, none⟩ = some (.int .i64 m) := c4
  have q6 : w9.drew.cell? ⟨w.heap.size, 6, none⟩ = some (.slice a p.length c) := c6
  go_region_held3 (fun w' => w'.cell? ⟨w.heap.size, 4, none⟩ = some (.int .i64 m) ∧ w'.cell? ⟨w.heap.size, 6, none⟩ = some (.slice a p.length c))
    (first | with_reducible exact ⟨q4, q6⟩ | with_reducible exact ⟨d4, d6⟩ | with_reducible exact ⟨e4, e6⟩ | with_reducible exact ⟨f4, f6⟩)
    (first
      | (go_at_call 54; refine hG.mono ?_; rintro e w10 ⟨v10, rfl, hown10, hb10⟩; have hm10 := HM9.out.drew.below hb10; obtain ⟨⟨-, -, -, -, d4, -, d6, -⟩, -⟩ := hm10.cells)
      | (go_at_call 50; refine (hnm _).mono ?_; rintro e w11 ⟨v11, rfl, hr11, hb11⟩; have ho11 := own_below hown10 hb11; have hm11 := hm10.below hb11; obtain ⟨⟨-, -, -, -, e4, -, e6, -⟩, -⟩ := hm11.cells; have hs11 : w9.heap.size ≤ w11.heap.size := Nat.le_trans hb10.size hb11.size)
      | (refine step_append_bytes (by rfl) _ _ (by rfl) w9.heap.size _ _ _ (by rfl) ho11 _ (numB m) (by rfl) hr11 ?_ hs11 ?_; (have := numB_len m; have := HL9.out; have := enc_len (p.length : Int); omega); intro v12 w12 hown12 hb12; have hm12 := hm11.keep (hb12.block _ hsz9); obtain ⟨⟨-, -, -, -, f4, -, f6, -⟩, -⟩ := hm12.cells))
  go_wp2_with fail
  go_ret
  refine ⟨_, rfl, ?_, ?_⟩
  · have := (Rd.of_own hown12 (((HBY9.out.app (enc_byt _)).app HRP.out.byt).app (numB_byt _))).1
    simpa [List.append_assoc] using this
  · have hb10' : Below w9.heap.size w9 w10 := ⟨hb10.os, hb10.tape, hb10.output, hb10.size, hb10.block⟩
    exact ((HB9.out.trans (hb10'.mono (by omega))).trans (hb11.mono (by have := hb10'.size; omega))).trans (hb12.mono (by omega))
#print axioms cbody_any
end Go.Proofs.YtefcjggmlhoebaaDoor
