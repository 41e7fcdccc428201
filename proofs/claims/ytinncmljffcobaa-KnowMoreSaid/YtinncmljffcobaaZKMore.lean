/- KnowMore's walk: who knows more can make more, and more follows. -/
import Derived.Test.YtinncmljffcobaaZKBl
import Derived.Test.YtinncmljffcobaaZKTm
import Derived.Deep.QuietTactic
import Derived.BigQuiet
namespace Go.Proofs.Ytinncmljffcobaa
open Go Go.RowKit

theorem own_none (W : World) {base : Nat} (h : base ≤ W.heap.size) : (W.alloc (.cells #[] 42)).ownsRow base 42 1 (.slice (some ⟨W.heap.size, 0, none⟩) 0 0) 0 (cs .i64 []) :=
  ⟨rfl, .inr ⟨_, 0, #[], rfl, h, heap_alloc_new W _, Nat.le_refl _, Nat.zero_le _, rfl, rfl⟩⟩
/-- Below j all of k is less than all of x from i on. -/
def Pass (x k : List Int) (i j : Nat) : Prop := j ≤ k.length ∧ ∀ t, t < j → ∀ s, i ≤ s → s < x.length → k.getD t 0 < x.getD s 0
theorem sorted_at {x : List Int} (h : x.Pairwise (· < ·)) {s t : Nat} (hst : s < t) (ht : t < x.length) : x.getD s 0 < x.getD t 0 := by
  have := List.pairwise_iff_getElem.1 h s t (by omega) ht hst
  simpa [ht, show s < x.length by omega] using this
theorem Pass.step {x k : List Int} (hx : x.Pairwise (· < ·)) {i j : Nat} (h : Pass x k i j) (hj : j < k.length) (hl : k.getD j 0 < x.getD i 0) : Pass x k i (j + 1) :=
  ⟨hj, fun t ht s h1 h2 => by
    by_cases e : t < j
    · exact h.2 t e s h1 h2
    · obtain rfl : t = j := by omega
      by_cases e2 : s = i
      · subst e2; exact hl
      · have := sorted_at hx (s := i) (t := s) (by omega) h2
        omega⟩
theorem Pass.next {x k : List Int} {i j : Nat} (h : Pass x k i j) : Pass x k (i + 1) j := ⟨h.1, fun t ht s h1 h2 => h.2 t ht s (by omega) h2⟩
/-- Where a number of x stands in k. -/
theorem Pass.found {x k : List Int} (hk : k.Pairwise (· < ·)) {i j : Nat} (h : Pass x k i j) (hi : i < x.length) (hm : x.getD i 0 ∈ k) (hno : j < k.length → ¬ (k.getD j 0 < x.getD i 0)) : j < k.length ∧ k.getD j 0 = x.getD i 0 := by
  obtain ⟨t, ht, e⟩ := mem_at hm
  have h1 : j ≤ t := by
    refine Classical.byContradiction fun hn => ?_
    have := h.2 t (by omega) i (Nat.le_refl _) hi
    omega
  by_cases e2 : j = t
  · subst e2; exact ⟨ht, e⟩
  · have h2 := sorted_at hk (s := j) (t := t) (by omega) ht
    have := hno (by omega)
    omega
/-- A cell of a slice that reads. -/
theorem rd_at {w : World} {v : Value} {xs : List Int} (h : Rd .i64 w v xs) {i : Nat} (hi : i < xs.length) : ∃ b off c, v = .slice (some ⟨b, off, none⟩) xs.length c ∧ xs.length ≤ c ∧ c ≤ 9223372036854775807 ∧ w.cell? ⟨b, off + i, none⟩ = some (.int .i64 (xs.getD i 0)) := by
  rcases h.cases with ⟨e, _⟩ | ⟨b, off, c, e, _, h1, h2, _, h3⟩
  · rw [e] at hi; simp at hi
  · exact ⟨b, off, c, e, h1, h2, h3 i hi⟩

set_option maxRecDepth 20000 in
set_option maxHeartbeats 8000000 in
theorem kmore_walk {w : World} {v bv : Value} {l : List KStep} {zs : List Int} (h : KSteps w v l) (hr : Rd .i64 w bv zs) (hwf : ∀ y ∈ zs, (Lit.int .i64 y).wf = true) {more : Int} (hm : (Lit.int .i64 more).wf = true) :
    Calls Try.prog 5 #[v, bv, .int .i64 more] w fun e w' => e = .returned (.bool true) ∧ Below w.heap.size w w' := by
  have h0 := h
  obtain ⟨ao, cap, rfl, -⟩ := h0
  have hr0 := hr
  obtain ⟨ba, bc, rfl, -⟩ := hr0
  have HH := Lib.hid h
  have HR := Lib.hid hr
  have HWF := Lib.hid hwf
  have HM := Lib.hid hm
  have hl := klight_any h (bo := ba) (n := zs.length) (cb := bc)
  clear h hr hwf hm
  go_enter Try.func5, Try.ntmps5
  go_wp2_with fail
  refine hl.mono ?_
  clear hl
  rintro e w1 ⟨⟨b, rfl, hb⟩, rfl⟩
  cases b with
  | false =>
    clear hb
    go_wp2_with fail
    go_ret
    exact ⟨rfl, Below.refl _ _⟩
  | true =>
    have HL := Lib.hid (hb rfl)
    clear hb
    go_wp2_with fail
    refine (ktable_any HH.out HL.out).mono ?_
    rintro e w2 ⟨tb, mb, rb, N, rfl, t2, g2, n2⟩
    have T2 := Lib.hid t2
    have HG := Lib.hid g2
    have HN := Lib.hid n2
    clear t2 g2 n2
    have hzl : zs.length ≤ 50 := HL.out.2.1
    go_wp2_with fail
    refine (kterms_any (HR.out.below T2.out.prog.bel) (by omega)).mono ?_
    rintro e w3 ⟨u3, rfl, o3, b3⟩
    obtain ⟨a3, c3, rfl, _, _⟩ := own_shape o3
    have T3 := Lib.hid (T2.out.keep b3)
    have O3 := Lib.hid (own_mono o3 (Nat.zero_le _))
    have L3 := Lib.hid o3.lt
    have hE := own_none w3 (Nat.le_refl w3.heap.size)
    have hRa := ((Rd.of_own o3).1).below (below_alloc w3 (.cells #[] 42))
    clear o3 b3
    go_wp2_with (first
      | (at_builtin; refine wpList_append_ints .i64 42 8 (.tmp 24) (.tmp 25) 37 rfl rfl info32 Try.underlying37 w3.heap.size _ 0 [] rfl hE _ zs rfl hRa (by omega) (by omega) (by simp) ?_
         intro v5 w5 hown5 hb5 hg5
         rw [Nat.zero_add, List.nil_append] at hown5
         have HB5 := Lib.hid ((below_alloc w3 (.cells #[] 42)).trans hb5)
         have HO5 := Lib.hid hown5
         obtain ⟨a5, c5, rfl, _, _⟩ := own_shape hown5
         clear hown5 hb5 hg5 hE hRa)
      | (at_builtin; refine wpList_append_ints .i64 42 8 (.tmp 26) (.tmp 28) 37 rfl rfl info32 Try.underlying37 w3.heap.size _ zs.length zs rfl (own_alloc HO5.out _) _ [more] rfl (Rd.lit .i64 42 w5 [more] (by simp)) (by simp; omega) (by simp; omega) (by have := HB5.out.size; simp; omega) ?_
         intro v6 w6 hown6 hb6 hg6
         have HB6 := Lib.hid (HB5.out.trans (((below_alloc w5 (.cells #[.int .i64 more] 42)).mono HB5.out.size).trans hb6))
         have HO6 := Lib.hid hown6
         obtain ⟨a6, c6, rfl, _, _⟩ := own_shape hown6
         clear hown6 hb6 hg6))
    have RA6 := Lib.hid ((Rd.of_own O3.out).1.below HB6.out)
    have T6 := Lib.hid (T3.out.keep HB6.out)
    have S36 : w3.heap.size ≤ w6.heap.size := HB6.out.size
    refine (closed_any T6.out.tp HG.out.wf RA6.out HWF.out).mono ?_
    rintro e w7 ⟨v7, x, rfl, hxs, hxd, hxr, _, hb7⟩
    have HXS := Lib.hid hxs
    have HXD := Lib.hid hxd
    have HXR := Lib.hid hxr
    have T7 := Lib.hid (T6.out.keep hb7)
    have HB7 := Lib.hid hb7
    obtain ⟨a7, c7, rfl, _⟩ := hxr
    clear hxs hxd hb7
    go_wp2_with fail
    refine (Md.new T7.out.tp).mono ?_
    rintro e w8 ⟨M, rfl, m8, b8⟩
    have hlearn := m8.learn HG.out.wf (Below.refl _ _) (lv := .slice a6 (zs.length + 1) c6) (ls := zs ++ [more])
      ((Rd.of_own (by simpa using HO6.out)).1.below (HB7.out.trans (b8.mono HB7.out.size))) (fun y hy => by
        rcases List.mem_append.1 hy with hy | hy
        · exact HWF.out y hy
        · rw [List.mem_singleton] at hy; rw [hy]; exact HM.out) (fun a n cap e => .inl (by
          cases e
          have := (HO6.out.lt a.block rfl).2
          have := HB7.out.size
          omega)) b8.size
    have HB8 := Lib.hid b8
    clear m8 b8
    go_wp2_with fail
    refine hlearn.mono ?_
    clear hlearn
    rintro e w9 ⟨rfl, m9, b9⟩
    have M9 := Lib.hid m9
    have HB9 := Lib.hid (HB8.out.trans b9)
    clear m9 b9
    go_wp2_with fail
    refine (M9.out.knows HG.out.wf).mono ?_
    rintro e w10 ⟨v10, k, rfl, hks, hkd, hkr, _, hb10⟩
    have HKS := Lib.hid hks
    have HKR := Lib.hid hkr
    have HB10 := Lib.hid hb10
    have HXK := Lib.hid (fun y (hy : y ∈ x) => (hkd y).2 (((HXD.out y).1 hy).mono fun z hz => .inr (by simp [hz])))
    have HX10 := Lib.hid (HXR.out.below (HB9.out.trans (hb10.mono HB9.out.size)))
    have M10 := Lib.hid (M9.out.below hb10)
    have T10 := Lib.hid ((T7.out.keep HB9.out).keep hb10)
    have R10 := Lib.hid ((RA6.out.below HB7.out).below (HB9.out.trans (hb10.mono HB9.out.size)))
    obtain ⟨a10, c10, rfl, _⟩ := hkr
    clear hks hkd hb10
    go_wp2_with fail
    go_loopw [13, 14] (fun jv iv wr => ∃ i j : Nat, i ≤ x.length ∧ iv = .int .i64 i ∧ jv = .int .i64 j ∧ Pass x k i j ∧ Below w10.heap.size w10 wr) (fun _ iv _ => x.length - (intOf iv).toNat)
    case atStart => exact ⟨0, 0, Nat.zero_le _, rfl, rfl, ⟨Nat.zero_le _, fun t ht => by omega⟩, Below.refl _ _⟩
    case round =>
      obtain ⟨i, j, hi, rfl, rfl, hp, hb⟩ := hrel
      have HB := Lib.hid hb
      clear hb
      by_cases hlt : i < x.length
      · have hlt' : (i : Int) < (x.length : Int) := by omega
        have HMK := Lib.hid (HXK.out _ (getD_mem hlt))
        have HP := Lib.hid hp
        clear hp
        go_wp2_with fail
        go_loopw [13] (fun jv wr => ∃ j : Nat, jv = .int .i64 j ∧ Pass x k i j ∧ Below w10.heap.size w10 wr) (fun jv _ => k.length - (intOf jv).toNat)
        case atStart => exact ⟨j, rfl, HP.out, HB.out⟩
        case round =>
          obtain ⟨j', rfl, hp, hb⟩ := hrel
          by_cases hjk : j' < k.length
          · have hjk' : (j' : Int) < (k.length : Int) := by omega
            have hjb : ((j' : Int) == (k.length : Int)) = false := beq_eq_false_iff_ne.2 (by omega)
            obtain ⟨b1, o1, c1, e1, hc1, hd1, q1⟩ := rd_at (HKR.out.below hb) hjk
            obtain ⟨b2, o2, c2, e2, hc2, hd2, q2⟩ := rd_at (HX10.out.below hb) hlt
            cases e1
            cases e2
            have HB2 := Lib.hid hb
            have HF := Lib.hid (hp.found HKS.out hlt HMK.out)
            have HST := Lib.hid (hp.step HXS.out (i := i) hjk)
            have HNX := Lib.hid hp.next
            clear hb hp
            generalize hkk : k.getD j' 0 = kk at *
            generalize hxx : x.getD i 0 = xx at *
            by_cases hc : kk < xx
            · have d1 : decide (kk < xx) = true := decide_eq_true hc
              have HC := Lib.hid hc
              have HLK := Lib.hid (show k.length ≤ 9223372036854775807 by omega)
              clear hkk hxx hc
              go_wp2_with fail
              go_quiet (fail)
              go_wp2_with fail
              exact ⟨⟨j' + 1, by go_num, HST.out HC.out, below_drewN HB2.out nq⟩, by simp [intOf]; have := HLK.out; omega⟩
            · have d1 : decide (kk < xx) = false := decide_eq_false hc
              obtain ⟨_, e⟩ := HF.out (fun _ => hc)
              subst e
              clear hkk hxx hc
              go_wp2_with fail
              go_quiet (fail)
              go_wp2_with fail
              go_quiet (fail)
              go_wp2_with fail
              go_roundw
              case rel => exact ⟨i + 1, j', by omega, by go_num, rfl, HNX.out, below_drewN HB2.out _⟩
              case measure => simp [intOf]; omega
          · exact absurd (hp.found HKS.out hlt HMK.out (fun e => absurd e hjk)).1 hjk
      · obtain rfl : i = x.length := by omega
        clear hp
        go_wp2_with fail
        go_loopw [15] (fun hv wr => ∃ h : Nat, 1 ≤ h ∧ h ≤ N.length + 1 ∧ hv = .int .i64 h ∧ Below w10.heap.size w10 wr) (fun hv _ => N.length + 1 - (intOf hv).toNat)
        case atStart => exact ⟨1, Nat.le_refl _, by omega, rfl, HB.out⟩
        case round =>
          obtain ⟨h, h1, h2, rfl, hb⟩ := hrel
          have HB2 := Lib.hid hb
          clear hb
          have hn50 : N.length ≤ 50 := HN.out
          go_wp2_with fail
          refine (T10.out.keep HB2.out).size.mono ?_
          rintro e w11 ⟨rfl, rfl⟩
          by_cases hlt2 : h ≤ N.length
          · have hlt3 : (h : Int) ≤ (N.length : Int) := by omega
            have hwx := wf_of (x := (h : Int)) (by omega) (by omega)
            go_wp2_with fail
            refine (kcan_any (T10.out.keep HB2.out).tp HG.out.wf (R10.out.below HB2.out) HWF.out hwx).mono ?_
            rintro e w12 ⟨b12, rfl, hd12, hb12⟩
            have HB12 := Lib.hid (HB2.out.trans (hb12.mono HB2.out.size))
            have hcan := (M10.out.below HB12.out).can HG.out.wf hwx
            clear hb12
            cases b12 with
            | false =>
              go_wp2_with fail
              go_roundw
              case rel => exact ⟨h + 1, by omega, by omega, by go_num, HB12.out⟩
              case measure => simp [intOf]; omega
            | true =>
              have HD := Lib.hid ((hd12.1 rfl).mono fun z hz => (.inr (by simp [hz]) : False ∨ z ∈ zs ++ [more]))
              clear hd12
              go_wp2_with fail
              refine hcan.mono ?_
              rintro e w13 ⟨b13, rfl, hd13, hb13⟩
              obtain rfl : b13 = true := hd13.2 HD.out
              have HB13 := Lib.hid (HB12.out.trans (hb13.mono HB12.out.size))
              clear hd13 hb13 hcan
              go_wp2_with fail
              go_roundw
              case rel => exact ⟨h + 1, by omega, by omega, by go_num, HB13.out⟩
              case measure => simp [intOf]; omega
          · obtain rfl : h = N.length + 1 := by omega
            have hlt3 : ¬ (((N.length + 1 : Nat) : Int) ≤ (N.length : Int)) := by omega
            go_wp2_with fail
            refine (kawake_any _).mono ?_
            rintro e w14 ⟨rfl, b14⟩
            go_wp2_with fail
            go_ret
            have h1 := T10.out.prog.bel.trans (HB2.out.mono T10.out.prog.bel.size)
            exact ⟨rfl, h1.trans (b14.mono h1.size)⟩
#print axioms kmore_walk
end Go.Proofs.Ytinncmljffcobaa
