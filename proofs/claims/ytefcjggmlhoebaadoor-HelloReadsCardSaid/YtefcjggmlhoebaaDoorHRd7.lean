/- hello.Read: the reader's message. -/
import Derived.Test.YtefcjggmlhoebaaDoorHR2
namespace Go.Proofs.YtefcjggmlhoebaaDoor
open Go Go.RowKit

/-- Ten stores, one behind the other. -/
theorem chain10h {w : World} {G T : Nat} {z0 z1 z2 z3 z4 z5 z6 z7 z8 z9 : Value} (c0 c1 c2 c3 c4 c5 c6 c7 c8 c9 : Value) (h : w.heap[G]? = some (.cells #[z0, z1, z2, z3, z4, z5, z6, z7, z8, z9] T (0, 0))) :
    ((((((((((w.setCell ⟨G, 0, none⟩ c0).setCell ⟨G, 1, none⟩ c1).setCell ⟨G, 2, none⟩ c2).setCell ⟨G, 3, none⟩ c3).setCell ⟨G, 4, none⟩ c4).setCell ⟨G, 5, none⟩ c5).setCell ⟨G, 6, none⟩ c6).setCell ⟨G, 7, none⟩ c7).setCell ⟨G, 8, none⟩ c8).setCell ⟨G, 9, none⟩ c9).heap[G]? = some (.cells #[c0, c1, c2, c3, c4, c5, c6, c7, c8, c9] T (0, 0)) ∧ But G w ((((((((((w.setCell ⟨G, 0, none⟩ c0).setCell ⟨G, 1, none⟩ c1).setCell ⟨G, 2, none⟩ c2).setCell ⟨G, 3, none⟩ c3).setCell ⟨G, 4, none⟩ c4).setCell ⟨G, 5, none⟩ c5).setCell ⟨G, 6, none⟩ c6).setCell ⟨G, 7, none⟩ c7).setCell ⟨G, 8, none⟩ c8).setCell ⟨G, 9, none⟩ c9) := by
  have e0 := heap_setCell_same _ G 0 _ T c0 h
  simp only [List.setIfInBounds_toArray, List.set_cons_zero] at e0
  have e1 := heap_setCell_same _ G 1 _ T c1 e0
  simp only [List.setIfInBounds_toArray, List.set_cons_zero, List.set_cons_succ] at e1
  have e2 := heap_setCell_same _ G 2 _ T c2 e1
  simp only [List.setIfInBounds_toArray, List.set_cons_zero, List.set_cons_succ] at e2
  have e3 := heap_setCell_same _ G 3 _ T c3 e2
  simp only [List.setIfInBounds_toArray, List.set_cons_zero, List.set_cons_succ] at e3
  have e4 := heap_setCell_same _ G 4 _ T c4 e3
  simp only [List.setIfInBounds_toArray, List.set_cons_zero, List.set_cons_succ] at e4
  have e5 := heap_setCell_same _ G 5 _ T c5 e4
  simp only [List.setIfInBounds_toArray, List.set_cons_zero, List.set_cons_succ] at e5
  have e6 := heap_setCell_same _ G 6 _ T c6 e5
  simp only [List.setIfInBounds_toArray, List.set_cons_zero, List.set_cons_succ] at e6
  have e7 := heap_setCell_same _ G 7 _ T c7 e6
  simp only [List.setIfInBounds_toArray, List.set_cons_zero, List.set_cons_succ] at e7
  have e8 := heap_setCell_same _ G 8 _ T c8 e7
  simp only [List.setIfInBounds_toArray, List.set_cons_zero, List.set_cons_succ] at e8
  have e9 := heap_setCell_same _ G 9 _ T c9 e8
  simp only [List.setIfInBounds_toArray, List.set_cons_zero, List.set_cons_succ] at e9
  exact ⟨e9, (((((((((But.set w G 0 c0).trans (But.set _ G 1 c1)).trans (But.set _ G 2 c2)).trans (But.set _ G 3 c3)).trans (But.set _ G 4 c4)).trans (But.set _ G 5 c5)).trans (But.set _ G 6 c6)).trans (But.set _ G 7 c7)).trans (But.set _ G 8 c8)).trans (But.set _ G 9 c9)⟩
theorem Hq.drew {w : World} {R B lo : Nat} {x : Hm} {pv : Value} (h : Hq w R B lo x pv) : Hq w.drew R B lo x pv := ⟨h.box, h.d.keep fun _ _ _ => rfl, h.pl, h.ord⟩
/-- A message as a value. -/
def mAgg (x : Hm) (vp : Value) : Value := .agg (mcl x.k x.r x.s x.t x.m x.f vp (bstr x.n) x.v x.l)
set_option maxRecDepth 20000 in
theorem message_results (tmps : Array Value) (w : World) (G : Nat) (c0 c1 c2 c3 c4 c5 c6 c7 c8 c9 : Value) (h2 : tmps[2]?.getD undef = .pointer (some ⟨G, 0, none⟩)) (hL : w.heap[G]? = some (.cells #[c0, c1, c2, c3, c4, c5, c6, c7, c8, c9] 28 (0, 0))) :
    (results Tryd.f41 tmps).run Tryd.prog w = .ok (.agg #[c0, c1, c2, c3, c4, c5, c6, c7, c8, c9]) w := by
  have hcc := fun i => cell_of_row w G i _ 28 (0, 0) hL
  have a0 := hcc 0
  have a1 := hcc 1
  have a2 := hcc 2
  have a3 := hcc 3
  have a4 := hcc 4
  have a5 := hcc 5
  have a6 := hcc 6
  have a7 := hcc 7
  have a8 := hcc 8
  have a9 := hcc 9
  clear hcc
  simp [results, Tryd.results41, h2, asAddr, a0, a1, a2, a3, a4, a5, a6, a7, a8, a9, go_sem]
/-- What one message's bytes are. -/
def mesP (ok : List Int → Bool) (zs : List Int) : Option Hm :=
  match hParse zs (zs.getD 0 0) 4 with
  | some (x, t) => if zs.length ≤ t && rightB (ok x.p) x then some x else none
  | none => none
/-- What the reader's message does: it panics with 3 where the bytes are none. -/
def Hmes (ok : List Int → Bool) (zs : List Int) (w : World) (R B : Nat) (e : Ending) (w' : World) : Prop :=
  (e = errPanic 3 ∧ Kq R B w w' ∧ mesP ok zs = none) ∨ ∃ x vp, e = .returned (mAgg x vp) ∧ mesP ok zs = some x ∧ Ra w.heap.size w' vp x.p ∧ Plain vp ∧ Kq R B w w'
theorem hparse_plen {zs : List Int} (hb : Byt zs) {k : Int} {t t' : Nat} {x : Hm} (h : hParse zs k t = some (x, t')) (ht : t ≤ zs.length) : x.p.length ≤ zs.length := by
  obtain ⟨hk, hd⟩ := hparse_inv hb h ht
  have hl := congrArg List.length hd
  simp only [List.length_drop, List.length_append] at hl
  have hbl : (bodyM x).length ≤ zs.length := by omega
  by_cases h1 : k = 1
  · unfold bodyM at hbl
    rw [if_pos (hk.trans h1)] at hbl
    simp only [List.length_append, List.length_cons] at hbl
    omega
  by_cases h8 : k = 8
  · unfold bodyM at hbl
    rw [if_neg (show ¬ x.k = 1 by omega), if_neg (show ¬ x.k = 2 by omega), if_neg (show ¬ x.k = 4 by omega), if_pos (hk.trans h8)] at hbl
    simp only [List.length_append, List.length_cons] at hbl
    omega
  have hp : x.p = [] := by
    unfold hParse at h
    rw [if_neg h1] at h
    by_cases h2 : k = 2
    · rw [if_pos h2] at h
      repeat' split at h
      all_goals cases h
      rfl
    rw [if_neg h2] at h
    by_cases h4 : k = 4
    · rw [if_pos h4] at h
      repeat' split at h
      all_goals cases h
      rfl
    rw [if_neg h4, if_neg h8] at h
    by_cases h11 : k = 11
    · rw [if_pos h11] at h
      cases h; rfl
    rw [if_neg h11] at h
    repeat' split at h
    all_goals cases h
    rfl
  rw [hp]; exact Nat.zero_le _
set_option maxRecDepth 20000 in
set_option maxHeartbeats 4000000 in
theorem message_m {ok : List Int → Bool} (hp : PrOk ok) (hv : VrOk) {zs : List Int} {w0 w : World} {R B : Nat} (g : Hq w R B w.heap.size (hNew 0) (.slice none 0 0)) (hF : Fq w0 w B zs 0 3) (hbt : Byt zs) (hlo : w0.heap.size ≤ B) (h4 : 4 ≤ zs.length) (hl6 : zs.length ≤ 1000000) :
    Calls Tryd.prog 41 #[.pointer (some ⟨R, 0, none⟩)] w (Hmes ok zs w R B) := by
  have hX := below_alloc w (.cells #[.int .i64 0, .int .i64 0, .int .i64 0, .int .i64 0, .int .i64 0, .bool false, .slice none 0 0, .string ⟨#[]⟩, .int .i64 0, .int .i64 0] 28)
  have hN := heap_alloc_new w (.cells #[.int .i64 0, .int .i64 0, .int .i64 0, .int .i64 0, .int .i64 0, .bool false, .slice none 0 0, .string ⟨#[]⟩, .int .i64 0, .int .i64 0] 28)
  have g1 : Hq (w.alloc (.cells #[.int .i64 0, .int .i64 0, .int .i64 0, .int .i64 0, .int .i64 0, .bool false, .slice none 0 0, .string ⟨#[]⟩, .int .i64 0, .int .i64 0] 28)) R B (w.heap.size + 1) (hNew 0) (.slice none 0 0) := ⟨(g.below hX).box, ⟨Rd.nil _, fun _ _ _ h => by cases h⟩, g.pl, g.ord.1, by have := g.ord; omega, by simp⟩
  have F1 := hF.keep hX
  have HX := Lib.hid hX
  have HN := Lib.hid hN
  have HO := Lib.hid g.ord
  have hx := fixed_q F1 1 (by omega) (by omega) (by omega)
  obtain ⟨c0, -, cf⟩ := g1.cells
  have G1 := Lib.hid g1
  clear g hF hX hN g1 F1
  go_enter Tryd.func41, Tryd.ntmps41
  go_wp2_with fail
  refine hx.mono ?_
  rintro e w1 ⟨rfl, hF1, hb1⟩
  have g2 := G1.out.keep hb1 (by have := HO.out; omega) (by have := HO.out; omega)
  have N1 : w1.heap[w.heap.size]? = _ := (hb1.block w.heap.size (by simp) (by have := HO.out; omega)).trans HN.out
  have K1 := (Kq.of_below (R := R) (D := B) HX.out).trans (Kq.r (R := R) hb1)
  have hk0 : bigv (zs.take 1) 0 = zs.getD 0 0 := by
    match zs, h4 with
    | a :: r, _ => simp [bigv]
  rw [hk0]
  have hkb := hbt.get 0
  generalize hkk : zs.getD 0 0 = k at *
  have HKK := Lib.hid hkk
  obtain ⟨d0, ⟨d1, -⟩, df⟩ := g2.cells
  clear hx c0 cf hkk hk0
  have g3 : Hq (w1.setCell ⟨R, 1, none⟩ (.int .i64 k)) R B (w.heap.size + 1) (hNew k) (.slice none 0 0) := g2.setk k
  have F3 := fq_set (R := R) (i := 1) (x := .int .i64 k) hF1 (by have := HO.out; omega) (by have := HO.out; omega)
  have N3 := (Below.heap_setCell w1 ⟨R, 1, none⟩ (.int .i64 k) w.heap.size (show w.heap.size ≠ R by have := HO.out; omega)).trans N1
  have K3 := K1.trans (Kq.l (D := B) (But.set w1 R 1 (.int .i64 k)))
  have G3 := Lib.hid g3
  obtain ⟨c0, ⟨c1, -⟩, cf⟩ := g3.cells
  go_wp2_with fail
  clear g2 d0 d1 df hF1 hb1 N1 K1 g3
  generalize w1.setCell ⟨R, 1, none⟩ (.int .i64 k) = w3 at *
  have hx := fixed_q F3 3 (by omega) (by omega) (by simp; omega)
  rw [List.drop_drop] at hx
  refine hx.mono ?_
  rintro e w4 ⟨rfl, hF4, hb4⟩
  have g4 := G3.out.keep hb4 (by have := HO.out; omega) (by have := HO.out; omega)
  have hs3 : w.heap.size < w3.heap.size := (Array.getElem?_eq_some_iff.1 N3).1
  have N4 := (hb4.block w.heap.size hs3 (by have := HO.out; omega)).trans N3
  have K4 := K3.trans (Kq.r (R := R) hb4)
  obtain ⟨d0, ⟨d1, -⟩, df⟩ := g4.cells
  have G4 := Lib.hid g4
  have N4 := Lib.hid N4
  have K4 := Lib.hid K4
  have F4 := Lib.hid hF4
  clear hx g4 hF4 hb4 F3 N3 K3 G3 c0 c1 cf hs3
  go_wp2_with fail
  replace d1 : w4.cell? ⟨R, 1, none⟩ = some (.int .i64 k) := d1
  have hwf := wfM (k := k) (by omega) (by omega)
  have K4' : Kq R B w w4.drew := ⟨K4.out.os, K4.out.tape, K4.out.output, K4.out.size, K4.out.block⟩
  have K4 := Lib.hid K4'
  have hlk := fun (W : World) (h : MapF W w4.heap.size 7 (fnOf R)) => h.look hwf
  clear K4'
  cases hfn : fnOf R k with
  | none =>
    have HNO : Hid (mesP ok zs = none) := Lib.hid (by unfold mesP; rw [HKK.out, fn_none hfn])
    rw [hfn] at hlk
    go_region_with (go_at_call 61; refine (bodies_any _ R).mono ?_; rintro e w5 ⟨rfl, hm5, hb5⟩; have g5 := G4.out.drew.below hb5; obtain ⟨e0, ⟨e1, -⟩, ef⟩ := g5.cells; replace e1 : w5.cell? ⟨R, 1, none⟩ = some (.int .i64 k) := e1; have hk5 := hlk _ hm5)
    all_goals
      clear hlk g5 hk5 hm5 e0 e1 ef
      have HB5 := Lib.hid hb5
      clear hb5
      go_wp2_with (go_at_call 39; refine (want_no _ _).mono ?_; rintro e w9 ⟨he, rfl⟩; rw [errPanic] at he; subst he)
      exact ⟨rfl, .inl ⟨rfl, K4.out.bel (HB5.out.mono K4.out.size), HNO.out⟩⟩
  | some fv =>
    obtain ⟨F, rfl, hme⟩ := fn_hm hfn
    rw [hfn] at hlk
    go_region_with (go_at_call 61; refine (bodies_any _ R).mono ?_; rintro e w5 ⟨rfl, hm5, hb5⟩; have g5 := G4.out.drew.below hb5; obtain ⟨e0, ⟨e1, -⟩, ef⟩ := g5.cells; replace e1 : w5.cell? ⟨R, 1, none⟩ = some (.int .i64 k) := e1; have hk5 := hlk _ hm5)
    all_goals
      have K5 := K4.out.bel (hb5.mono K4.out.size)
      have N5 := (hb5.block w.heap.size (Array.getElem?_eq_some_iff.1 N4.out).1).trans N4.out
      have hst : Hst zs k 4 w0 w5 R B (w.heap.size + 1) := ⟨g5, F4.out.keep ⟨hb5.os, hb5.tape, hb5.output, hb5.size, hb5.block⟩, hbt, hlo⟩
      have hd := hme.does zs 4 w0 w5 R B _ hst
      have hent := hme.ent
      clear hst hlk g5 hk5 hm5 e0 e1 ef hb5 hme hfn d0 d1 df
      go_wp2_with (go_at_call 39; refine (want_yes _ _).mono ?_; rintro e w9 ⟨rfl, rfl⟩)
      refine hd.mono ?_
      unfold Hdo
      rintro e w6 (⟨he, hk6, hno⟩ | ⟨x', pv, t', rfl, hyes, g6, hF6, hk6⟩)
      · have HNO : Hid (mesP ok zs = none) := Lib.hid (by unfold mesP; rw [HKK.out, hno])
        have KK := Lib.hid (K5.trans hk6)
        rw [errPanic] at he
        subst he
        clear hd hent hno hk6 K5 N5
        go_wp2_with fail
        exact ⟨rfl, .inl ⟨rfl, KK.out, HNO.out⟩⟩
      · have N6 := (hk6.block w.heap.size (Array.getElem?_eq_some_iff.1 N5).1 (by have := HO.out; omega) (by have := HO.out; omega)).trans N5
        have KK := Lib.hid (K5.trans hk6)
        have HMES : Hid (mesP ok zs = if zs.length ≤ t' && rightB (ok x'.p) x' then some x' else none) := Lib.hid (by unfold mesP; rw [HKK.out, hyes])
        have hpl : x'.p.length ≤ 1000000 := Nat.le_trans (hparse_plen hbt hyes (by omega)) hl6
        have hleft := left_q hF6
        have hrt := mright_any hp hv (w := w6) x' g6.d.rd g6.pl hpl
        have G6 := Lib.hid g6
        have NN := Lib.hid N6
        obtain ⟨c0, ⟨c1, c2, c3, c4, c5, c6, c7, c8, c9, c10⟩, cf⟩ := g6.cells
        obtain ⟨a, c, rfl⟩ := g6.d.rd.shape
        clear hd hent hyes hk6 K5 N5 N6 g6 hF6 hpl
        unfold mcl at hrt
        by_cases ht : zs.length ≤ t'
        case neg =>
          have hz : (((zs.drop t').length : Int) == 0) = false := by simp; omega
          have HNO : Hid (mesP ok zs = none) := Lib.hid (by rw [HMES.out, decide_eq_false ht]; rfl)
          clear hrt
          go_wp2_with (first
            | (go_at_call 62; refine hleft.mono ?_; rintro e w7 ⟨rfl, rfl⟩)
            | (go_at_call 39; refine (want_no _ _).mono ?_; rintro e w9 ⟨he, rfl⟩; rw [errPanic] at he; subst he))
          exact ⟨rfl, .inl ⟨rfl, KK.out, HNO.out⟩⟩
        have hz : (((zs.drop t').length : Int) == 0) = true := by simp; omega
        cases hrb : rightB (ok x'.p) x' with
        | false =>
          have HNO : Hid (mesP ok zs = none) := Lib.hid (by rw [HMES.out, hrb, Bool.and_false]; rfl)
          rw [hrb] at hrt
          clear hrb
          go_wp2_with (first
            | (go_at_call 62; refine hleft.mono ?_; rintro e w7 ⟨rfl, rfl⟩)
            | (go_at_call 12; refine hrt.mono ?_; rintro e w7 ⟨rfl, hb7⟩; have HB7 := Lib.hid hb7; clear hb7)
            | (go_at_call 39; refine (want_no _ _).mono ?_; rintro e w9 ⟨he, rfl⟩; rw [errPanic] at he; subst he))
          exact ⟨rfl, .inl ⟨rfl, KK.out.bel (HB7.out.mono KK.out.size), HNO.out⟩⟩
        | true =>
          have HYES : Hid (mesP ok zs = some x') := Lib.hid (by rw [HMES.out, hrb, decide_eq_true ht]; rfl)
          rw [hrb] at hrt
          clear hrb
          go_wp2_with (first
            | (go_at_call 62; refine hleft.mono ?_; rintro e w7 ⟨rfl, rfl⟩)
            | (go_at_call 12; refine hrt.mono ?_; rintro e w7 ⟨rfl, hb7⟩; have HB7 := Lib.hid hb7; have G7 := Lib.hid (G6.out.below hb7); have N7 := Lib.hid ((hb7.block w.heap.size (Array.getElem?_eq_some_iff.1 NN.out).1).trans NN.out); clear hb7 c0 c1 c2 c3 c4 c5 c6 c7 c8 c9 c10 cf; obtain ⟨c0, ⟨c1, c2, c3, c4, c5, c6, c7, c8, c9, c10⟩, cf⟩ := G7.out.cells; obtain ⟨⟨n0, n1, n2, n3, n4, n5, n6, n7, n8, n9⟩, nf⟩ := MBox.cells (show MBox w7 w.heap.size 0 0 0 0 0 false (.slice none 0 0) ⟨#[]⟩ 0 0 from N7.out))
            | (go_at_call 39; refine (want_yes _ _).mono ?_; rintro e w9 ⟨rfl, rfl⟩))
          obtain ⟨hG, hBt⟩ := chain10h (.int .i64 x'.k) (.int .i64 x'.r) (.int .i64 x'.s) (.int .i64 x'.t) (.int .i64 x'.m) (.bool x'.f) (.slice a x'.p.length c) (.string (bstr x'.n)) (.int .i64 x'.v) (.int .i64 x'.l) N7.out
          have K7 := KK.out.bel (HB7.out.mono KK.out.size)
          have hra := G7.out.d.keep fun j hj hl => hBt.block j hj (by omega)
          refine bodyPost_ret (message_results _ _ w.heap.size _ _ _ _ _ _ _ _ _ _ rfl hG) rfl (.inr ⟨x', _, rfl, HYES.out, ⟨hra.rd, fun a1 n1 k1 e1 z1 => Nat.le_of_succ_le (hra.far a1 n1 k1 e1 z1)⟩, G7.out.pl, ?_⟩)
          exact ⟨hBt.os.trans K7.os, hBt.tape.trans K7.tape, hBt.output.trans K7.output, Nat.le_trans K7.size hBt.size, fun j hj hn hm => (hBt.block j (Nat.lt_of_lt_of_le hj K7.size) (by omega)).trans (K7.block j hj hn hm)⟩
#print axioms message_m
end Go.Proofs.YtefcjggmlhoebaaDoor
