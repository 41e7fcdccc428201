/- law 6: FrameJoins: the walk. -/
import Derived.Test.YtocfkkppalpamaaDoorGLaw1
namespace Go.Proofs.YtocfkkppalpamaaDoor
open Go Go.RowKit

set_option maxRecDepth 20000 in
set_option maxHeartbeats 8000000 in
theorem gjoins_walk {w : World} {va vb : Value} {za zb : List Int} (ha : Rd w va za) (hpa : Plain va) (hb : Rd w vb zb) (hpb : Plain vb) (ht : Tab w) : Calls Tryd.prog 7 #[va, vb] w fun e w' => e = .returned (.bool true) ∧ Below w.heap.size w w' := by
  have hla := ha.len
  have hlb := hb.len
  obtain ⟨aa, ca, rfl⟩ := ha.shape
  obtain ⟨ab, cb, rfl⟩ := hb.shape
  have HA := Lib.hid ha
  have HB := Lib.hid hb
  have HPB := Lib.hid hpb
  have HT := Lib.hid ht
  by_cases h1 : 600 < za.length
  · have h1' : (600 : Int) < (za.length : Int) := by omega
    clear ha hpa hb hpb ht h1
    go_enter Tryd.func7, Tryd.ntmps7
    go_wp2_with fail
    go_ret
    exact ⟨rfl, Below.refl _ _⟩
  have h1' : ¬ (600 : Int) < (za.length : Int) := by omega
  by_cases h2 : 600 < zb.length
  · have h2' : (600 : Int) < (zb.length : Int) := by omega
    clear ha hpa hb hpb ht h1 h2
    go_enter Tryd.func7, Tryd.ntmps7
    go_wp2_with fail
    go_ret
    exact ⟨rfl, Below.refl _ _⟩
  have h2' : ¬ (600 : Int) < (zb.length : Int) := by omega
  have HLA := Lib.hid (show za.length ≤ 600 by omega)
  have HLB := Lib.hid (show zb.length ≤ 600 by omega)
  have hrd := gread_any ha hpa (by omega)
  clear ha hpa hb hpb ht h1 h2
  go_enter Tryd.func7, Tryd.ntmps7
  go_wp2_with fail
  refine hrd.mono ?_
  rintro e w1 ⟨v1, L, n1, rfl, hfl1, hb1, hc1⟩
  obtain ⟨a1, c1, rfl⟩ := hfl1.shape
  have HB1 := Lib.hid hb1
  have HF1 := Lib.hid hfl1
  have HC1 := Lib.hid hc1
  have hrd2 := gread_any (HB.out.below hb1) HPB.out (by have := HLB.out; omega)
  clear hrd hfl1 hb1 hc1
  go_wp2_with fail
  refine hrd2.mono ?_
  rintro e w2 ⟨v2, M, n2, rfl, hfl2, hb2, hc2⟩
  obtain ⟨a2, c2, rfl⟩ := hfl2.shape
  have HB2 := Lib.hid (HB1.out.trans (hb2.mono HB1.out.size))
  have HF2 := Lib.hid hfl2
  have HF12 := Lib.hid (HF1.out.below hb2)
  have HC2 := Lib.hid hc2
  clear hrd2 hfl2 hb2 hc2
  go_wp2_with (first
    | (at_builtin; refine wpList_append_bytes (.tmp 30) (.tmp 31) 26 rfl rfl info5 Tryd.underlying26 w2.heap.size _ 0 [] rfl (own_fresh w2 5) _ za rfl ((HA.out.below HB2.out).alloc _) (by have := HLA.out; omega) (by simp) ?_; intro v3 w3 hown3 hb3)
    | (at_builtin; refine wpList_append_bytes (.tmp 32) (.tmp 33) 26 rfl rfl info5 Tryd.underlying26 w2.heap.size _ _ _ rfl hown3 _ zb rfl (HB.out.below (HB2.out.trans ((((below_alloc w2 _).trans hb3)).mono HB2.out.size))) (by have := HLA.out; have := HLB.out; simp; omega) (Nat.le_trans (by simp) hb3.size) ?_; intro v4 w4 hown4 hb4))
  simp only [List.nil_append, Nat.zero_add] at hown4
  have hbyt : Byt (za ++ zb) := HA.out.byt.app HB.out.byt
  have hra := ra_own (zs := za ++ zb) hown4 hbyt
  have HB24 := Lib.hid (((below_alloc w2 (.cells #[] 5)).trans hb3).trans hb4)
  have HB4 := Lib.hid (HB2.out.trans (HB24.out.mono HB2.out.size))
  have hrd3 := gread_any hra.1.rd hra.2 (by have := HLA.out; have := HLB.out; simp; omega)
  have HBYT := Lib.hid hbyt
  obtain ⟨a4, c4, rfl⟩ := hra.1.rd.shape
  clear hown3 hb3 hown4 hb4 hra hbyt
  go_wp2_with fail
  refine hrd3.mono ?_
  rintro e w5 ⟨v5, O, n5, rfl, hfl5, hb5, hc5⟩
  obtain ⟨a5, c5, rfl⟩ := hfl5.shape
  have HB5 := Lib.hid (HB4.out.trans (hb5.mono HB4.out.size))
  have HC5 := Lib.hid hc5
  have HF15 := Lib.hid ((HF12.out.below HB24.out).below hb5)
  have HF25 := Lib.hid ((HF2.out.below HB24.out).below hb5)
  clear hrd3 hfl5 hb5 hc5
  by_cases e1 : n1 = 0
  · by_cases e2 : n2 = 0
    · subst e1
      subst e2
      have h1 : gRead za = some (L.map Fe.f) := by
        rcases HC1.out with ⟨h, _⟩ | ⟨h, _⟩ | ⟨_, _, h⟩
        · cases h
        · cases h
        · exact h
      have h2 : gRead zb = some (M.map Fe.f) := by
        rcases HC2.out with ⟨h, _⟩ | ⟨h, _⟩ | ⟨_, _, h⟩
        · cases h
        · cases h
        · exact h
      have q1 := gread_again HA.out.byt (by have := HLA.out; omega) h1
      have q2 := gread_again HB.out.byt (by have := HLB.out; omega) h2
      have hL0 : 0 < L.length := List.length_pos_iff.2 fun e => q1.2.2 (by rw [e]; rfl)
      have hM0 : 0 < M.length := List.length_pos_iff.2 fun e => q2.2.2 (by rw [e]; rfl)
      have hLl : L.length ≤ 600 := by
        have := stand_len _ q1.2.1
        rw [← q1.1] at this
        have := HLA.out
        simp at *; omega
      have hMl : M.length ≤ 600 := by
        have := stand_len _ q2.2.1
        rw [← q2.1] at this
        have := HLB.out
        simp at *; omega
      obtain ⟨j, hj⟩ : ∃ j, L.length = j + 1 := ⟨L.length - 1, by omega⟩
      obtain ⟨b1, o1, k1, e1, hbl1, hat1⟩ := HF15.out.at hL0
      simp only [Value.slice.injEq] at e1
      obtain ⟨rfl, _, rfl⟩ := e1
      obtain ⟨b2, o2, k2, e2, hbl2, hat2⟩ := HF25.out.at hM0
      simp only [Value.slice.injEq] at e2
      obtain ⟨rfl, _, rfl⟩ := e2
      obtain ⟨x, hx⟩ : ∃ x, L[j]? = some x := ⟨_, List.getElem?_eq_getElem (by omega)⟩
      obtain ⟨y, hy⟩ : ∃ y, M[0]? = some y := ⟨_, List.getElem?_eq_getElem hM0⟩
      have cx := (hat1 j x hx).c0
      have cy := (hat2 0 y hy).c0
      simp only [Nat.zero_mul, Nat.add_zero] at cy
      have f1 : ((L.length : Int) == 0) = false := beq_eq_false_iff_ne.2 (by omega)
      have f2 : ((M.length : Int) == 0) = false := beq_eq_false_iff_ne.2 (by omega)
      have HJ : Hid (¬ (x.f.k = 0 ∧ y.f.k = 0) → n5 = 0 ∧ O.length = L.length + M.length) := Lib.hid fun hn => by
        have hjn := gread_join HA.out.byt HB.out.byt HLA.out HLB.out h1 h2 (fun u v q hu hv hk => by
          intro hv0
          refine hn ⟨?_, ?_⟩
          · have : (L.map Fe.f).getLast? = some x.f := by
              rw [List.getLast?_eq_getElem?, List.length_map, hj, Nat.add_sub_cancel, List.getElem?_map, hx]
              rfl
            rw [this] at hu
            cases hu
            exact hk
          · have : M.map Fe.f = v :: q := hv
            cases M with
            | nil => simp at hM0
            | cons m r =>
              simp at hy
              simp at this
              rw [← hy, this.1]; exact hv0)
        have hl5 : (za ++ zb).length ≤ 1200 := by have := HLA.out; have := HLB.out; simp; omega
        rcases HC5.out with ⟨_, h, _⟩ | ⟨_, _, h, _⟩ | ⟨h, _, h2⟩
        · omega
        · rw [hjn] at h; cases h
        · refine ⟨h, ?_⟩
          rw [hjn] at h2
          have := congrArg (Option.map List.length) h2
          simpa using this.symm
      have hji : (j : Int) ≤ 600 := by omega
      clear h1 h2 q1 q2 hat1 hat2 hx hy hL0
      rw [hj] at *
      have f1' : ((j : Int) + 1 == 0) = false := beq_eq_false_iff_ne.2 (by omega)
      generalize x.f.k = xk at *
      generalize y.f.k = yk at *
      by_cases hxk : xk = 0
      · by_cases hyk : yk = 0
        · subst hxk
          subst hyk
          go_wp2_with (go_at_call 17; refine (gawake_any (HT.out.below HB5.out)).mono ?_; rintro e w6 ⟨rfl, hb6⟩)
          go_ret
          exact ⟨rfl, HB5.out.trans (hb6.mono HB5.out.size)⟩
        · obtain ⟨rfl, hO⟩ := HJ.out fun h => hyk h.2
          have hyb : (yk == 0) = false := beq_eq_false_iff_ne.2 hyk
          subst hxk
          have hO' : ((O.length : Int) == (j : Int) + 1 + (M.length : Int)) = true := beq_iff_eq.2 (by rw [hO]; simp)
          clear hyk hO
          go_wp2_with (go_at_call 17; refine (gawake_any (HT.out.below HB5.out)).mono ?_; rintro e w6 ⟨rfl, hb6⟩)
          go_ret
          exact ⟨rfl, HB5.out.trans (hb6.mono HB5.out.size)⟩
      · obtain ⟨rfl, hO⟩ := HJ.out fun h => hxk h.1
        have hxb : (xk == 0) = false := beq_eq_false_iff_ne.2 hxk
        have hO' : ((O.length : Int) == (j : Int) + 1 + (M.length : Int)) = true := beq_iff_eq.2 (by rw [hO]; simp)
        clear hxk hO
        go_wp2_with (go_at_call 17; refine (gawake_any (HT.out.below HB5.out)).mono ?_; rintro e w6 ⟨rfl, hb6⟩)
        go_ret
        exact ⟨rfl, HB5.out.trans (hb6.mono HB5.out.size)⟩
    · subst e1
      have hne : (n2 != 0) = true := by simp [e2]
      clear e2
      go_wp2_with (go_at_call 17; refine (gawake_any (HT.out.below HB5.out)).mono ?_; rintro e w6 ⟨rfl, hb6⟩)
      go_ret
      exact ⟨rfl, HB5.out.trans (hb6.mono HB5.out.size)⟩
  · have hne : (n1 != 0) = true := by simp [e1]
    clear e1
    go_wp2_with (go_at_call 17; refine (gawake_any (HT.out.below HB5.out)).mono ?_; rintro e w6 ⟨rfl, hb6⟩)
    go_ret
    exact ⟨rfl, HB5.out.trans (hb6.mono HB5.out.size)⟩
#print axioms gjoins_walk
end Go.Proofs.YtocfkkppalpamaaDoor
