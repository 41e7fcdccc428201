/- KnowAgain's walk: what follows of what follows is the same; what can be made, learnt, lets nothing more be made. -/
import Derived.Test.YtinncmljffcobaaZKMg
import Derived.Test.YtinncmljffcobaaZKMore
namespace Go.Proofs.Ytinncmljffcobaa
open Go Go.RowKit

theorem sorted_ext : ∀ {x y : List Int}, x.Pairwise (· < ·) → y.Pairwise (· < ·) → (∀ z, z ∈ x ↔ z ∈ y) → x = y := by
  intro x
  induction x with
  | nil => intro y _ _ h; exact (List.eq_nil_iff_forall_not_mem.2 fun z hz => by have := (h z).2 hz; simp at this).symm
  | cons a r ih =>
    intro y hx hy h
    cases y with
    | nil => have := (h a).1 (by simp); simp at this
    | cons b s =>
      obtain ⟨hx1, hx2⟩ := List.pairwise_cons.1 hx
      obtain ⟨hy1, hy2⟩ := List.pairwise_cons.1 hy
      have hab : a = b := by
        have h1 := (h a).1 (by simp)
        have h2 := (h b).2 (by simp)
        rcases List.mem_cons.1 h1 with e | e
        · exact e
        · rcases List.mem_cons.1 h2 with e2 | e2
          · exact e2.symm
          · have := hy1 a e; have := hx1 b e2; omega
      subst hab
      rw [ih hx2 hy2 fun z => ⟨fun hz => ?_, fun hz => ?_⟩]
      · rcases List.mem_cons.1 ((h z).1 (by simp [hz])) with e | e
        · have := hx1 z hz; omega
        · exact e
      · rcases List.mem_cons.1 ((h z).2 (by simp [hz])) with e | e
        · have := hy1 z hz; omega
        · exact e
theorem der_same {N : List Nd} (hN : Wf N) {Bs : Int → Prop} {x y : List Int} (hx : x.Pairwise (· < ·)) (hy : y.Pairwise (· < ·)) (dx : ∀ z, z ∈ x ↔ Der N Bs true z) (dy : ∀ z, z ∈ y ↔ Der N (fun u => u ∈ x) true z) : x = y :=
  sorted_ext hx hy fun z => by
    rw [dy]
    refine ⟨fun hz => ?_, fun hz => (dx z).2 (Der.again (fun u hu _ _ => (dx u).1 hu) hz)⟩
    have := der_in hN ((dx z).1 hz)
    exact .base hz this.1 this.2

/-- L holds just what can be made below h. -/
def MadeTo (N : List Nd) (zs L : List Int) (h : Nat) : Prop := ∀ y, y ∈ L ↔ 1 ≤ y ∧ y < (h : Int) ∧ Der N (fun u => u ∈ zs) false y
theorem MadeTo.no {N : List Nd} {zs L : List Int} {h : Nat} (m : MadeTo N zs L h) (hn : ¬ Der N (fun u => u ∈ zs) false (h : Int)) : MadeTo N zs L (h + 1) := fun y => by
  rw [m y]
  constructor
  · rintro ⟨a, b, c⟩; exact ⟨a, by omega, c⟩
  · rintro ⟨a, b, c⟩
    by_cases e : y = (h : Int)
    · rw [e] at c; exact absurd c hn
    · exact ⟨a, by omega, c⟩
theorem MadeTo.yes {N : List Nd} {zs L : List Int} {h : Nat} (m : MadeTo N zs L h) (hd : Der N (fun u => u ∈ zs) false (h : Int)) (h1 : 1 ≤ h) : MadeTo N zs (L ++ [(h : Int)]) (h + 1) := fun y => by
  rw [List.mem_append, List.mem_singleton, m y]
  constructor
  · rintro (⟨a, b, c⟩ | e)
    · exact ⟨a, by omega, c⟩
    · subst e; exact ⟨by omega, by omega, hd⟩
  · rintro ⟨a, b, c⟩
    by_cases e : y = (h : Int)
    · exact .inr e
    · exact .inl ⟨a, by omega, c⟩
set_option maxRecDepth 20000 in
set_option maxHeartbeats 8000000 in
theorem kagain_walk {w : World} {v bv : Value} {l : List KStep} {zs : List Int} (h : KSteps w v l) (hr : Rd .i64 w bv zs) (hwf : ∀ y ∈ zs, (Lit.int .i64 y).wf = true) :
    Calls Try.prog 6 #[v, bv] w fun e w' => e = .returned (.bool true) ∧ Below w.heap.size w w' := by
  have h0 := h
  obtain ⟨ao, cap, rfl, -⟩ := h0
  have hr0 := hr
  obtain ⟨ba, bc, rfl, -⟩ := hr0
  have HH := Lib.hid h
  have HR := Lib.hid hr
  have HWF := Lib.hid hwf
  have hl := klight_any h (bo := ba) (n := zs.length) (cb := bc)
  clear h hr hwf
  go_enter Try.func6, Try.ntmps6
  go_wp2_with fail
  refine hl.mono ?_
  clear hl
  rintro e w1 ⟨⟨b, rfl, hb⟩, rfl⟩
  cases b with
  | false =>
    clear hb
    go_wp2_with fail
    go_ret
    exact ⟨rfl, Below.refl _ _⟩
  | true =>
    have HL := Lib.hid (hb rfl)
    clear hb
    go_wp2_with fail
    refine (ktable_any HH.out HL.out).mono ?_
    rintro e w2 ⟨tb, mb, rb, N, rfl, t2, g2, n2⟩
    have T2 := Lib.hid t2
    have HG := Lib.hid g2
    have HN := Lib.hid n2
    clear t2 g2 n2
    have hzl : zs.length ≤ 50 := HL.out.2.1
    go_wp2_with fail
    refine (kterms_any (HR.out.below T2.out.prog.bel) (by omega)).mono ?_
    rintro e w3 ⟨u3, rfl, o3, b3⟩
    obtain ⟨a3, c3, rfl, _, _⟩ := own_shape o3
    have T3 := Lib.hid (T2.out.keep b3)
    have RA3 := Lib.hid (Rd.of_own o3).1
    have L3 := Lib.hid o3.lt
    clear o3 b3
    go_wp2_with fail
    refine (closed_any T3.out.tp HG.out.wf RA3.out HWF.out).mono ?_
    rintro e w4 ⟨v4, x, rfl, hxs, hxd, hxr, _, hb4⟩
    have T4 := Lib.hid (T3.out.keep hb4)
    have RA4 := Lib.hid (RA3.out.below hb4)
    have S4 := Lib.hid hb4.size
    have HXW := Lib.hid (show ∀ y ∈ x, (Lit.int .i64 y).wf = true from fun y hy => by
      have := der_in HG.out.wf ((hxd y).1 hy)
      exact wf_of (by omega) (by have := HN.out; omega))
    obtain ⟨a4, c4, rfl, hx1, hx2, _⟩ := id hxr
    have HXR := Lib.hid hxr
    have HXS := Lib.hid hxs
    have HXD := Lib.hid hxd
    clear hb4 hxs hxd hxr
    go_wp2_with fail
    refine (closed_any T4.out.tp HG.out.wf HXR.out HXW.out).mono ?_
    rintro e w5 ⟨v5, y, rfl, hys, hyd, hyr, _, hb5⟩
    obtain rfl := der_same HG.out.wf HXS.out hys HXD.out hyd
    obtain ⟨a5, c5, rfl, _⟩ := id hyr
    have HYR := Lib.hid hyr
    have T5 := Lib.hid (T4.out.keep hb5)
    have HX5 := Lib.hid (HXR.out.below hb5)
    have RA5 := Lib.hid (RA4.out.below hb5)
    have S5 := Lib.hid (Nat.le_trans S4.out hb5.size)
    clear hys hyd hyr hb5
    unfold maxLen at hx2
    go_wp2_with fail
    go_loopw [9] (fun iv wr => ∃ i : Nat, i ≤ x.length ∧ iv = .int .i64 i ∧ Below w5.heap.size w5 wr) (fun iv _ => x.length - (intOf iv).toNat)
    case atStart => exact ⟨0, Nat.zero_le _, rfl, Below.refl _ _⟩
    case round =>
      obtain ⟨i, hi, rfl, hb⟩ := hrel
      have HB := Lib.hid hb
      clear hb
      by_cases hlt : i < x.length
      · have hlt' : (i : Int) < (x.length : Int) := by omega
        obtain ⟨b1, o1, c1, e1, hc1, hd1, q1⟩ := rd_at (HX5.out.below HB.out) hlt
        obtain ⟨b2, o2, c2, e2, hc2, hd2, q2⟩ := rd_at (HYR.out.below HB.out) hlt
        cases e1
        cases e2
        generalize x.getD i 0 = xx at *
        go_wp2_with fail
        go_quiet (fail)
        go_wp2_with fail
        go_roundw
        case rel => exact ⟨i + 1, by omega, by go_num, below_drewN HB.out _⟩
        case measure => simp [intOf]; omega
      · obtain rfl : i = x.length := by omega
        have T6 := Lib.hid (T5.out.keep HB.out)
        have RA6 := Lib.hid (RA5.out.below HB.out)
        have S6 := Lib.hid (Nat.le_trans S5.out HB.out.size)
        clear hx1 hx2 hi hlt
        clear HB
        generalize wr = W6 at *
        go_wp2_with fail
        refine (Md.new T6.out.tp).mono ?_
        rintro e w7 ⟨M, rfl, m7, b7⟩
        have h0 : Mdg (fun k => k = w7.heap.size) W6.heap.size (w7.alloc (.cells #[] 42)) M (.pointer (some ⟨tb, 0, none⟩)) N (fun _ => False) :=
          m7.mdg.step ⟨rfl, rfl, rfl, by simp, fun k hk _ => (below_alloc w7 _).block k hk, fun k hk => .inr (by rw [hk]; exact Nat.le_refl _)⟩
        have hbA := (b7.mono (Nat.le_refl _)).trans ((below_alloc w7 (.cells #[] 42)).mono b7.size)
        have hlearn := h0.learn HG.out.wf (fun k hk => by rw [hk]; simp) (RA6.out.below hbA) HWF.out (fun a n cap e => .inl (by cases e; have := (L3.out a.block rfl).2; have := S6.out; omega)) (Nat.le_trans b7.size (by simp))
        have HE := Lib.hid (own_none w7 (Nat.le_refl w7.heap.size))
        have HBA := Lib.hid hbA
        have HS67 := Lib.hid b7.size
        clear m7 b7 h0 hbA
        go_wp2_with fail
        refine hlearn.mono ?_
        clear hlearn
        rintro e w9 ⟨rfl, m9, b9, k9⟩
        have HE9 := Lib.hid (own_keep HE.out (w' := w9) fun g hg => k9 g (by cases hg; rfl))
        have M9 := Lib.hid (m9.told (Cs := fun y => y ∈ zs) fun y => by simp)
        have HB9 := Lib.hid (HBA.out.trans b9)
        have HS9 := Lib.hid (show w7.heap.size ≤ w9.heap.size from Nat.le_trans (by simp) b9.size)
        clear m9 b9 k9
        go_wp2_with fail
        go_loopw [11, 12] (fun av hv wr => ∃ (h : Nat) (L : List Int) (a : Option Addr) (c : Nat), 1 ≤ h ∧ h ≤ N.length + 1 ∧ hv = .int .i64 h ∧ av = .slice a L.length c ∧ L.length ≤ h ∧ wr.ownsRow w7.heap.size 42 1 (.slice a L.length c) L.length (cs .i64 L) ∧ MadeTo N zs L h ∧ Mdg (fun k => (Value.slice a L.length c).ownBlock = some k) W6.heap.size wr M (.pointer (some ⟨tb, 0, none⟩)) N (fun y => y ∈ zs) ∧ Below W6.heap.size W6 wr ∧ w7.heap.size ≤ wr.heap.size) (fun _ hv _ => N.length + 1 - (intOf hv).toNat)
        case atStart =>
          refine ⟨1, [], _, _, Nat.le_refl _, by omega, rfl, rfl, Nat.zero_le _, HE9.out, fun y => ⟨fun e => by simp at e, fun e => by omega⟩, ?_, HB9.out, HS9.out⟩
          exact M9.out.step ⟨rfl, rfl, rfl, Nat.le_refl _, fun _ _ _ => rfl, fun k hk => .inl (by cases hk; rfl)⟩
        case round =>
          obtain ⟨h, L, a, c, h1, h2, rfl, rfl, hLh, hown, hmade, hmd, hb, hs7⟩ := hrel
          have HB := Lib.hid hb
          have HMD := Lib.hid hmd
          have HMA := Lib.hid hmade
          have hn50 : N.length ≤ 50 := HN.out
          clear hb hmd hmade
          have HO := Lib.hid hown
          clear hown
          go_wp2_with fail
          refine (T6.out.keep HB.out).size.mono ?_
          rintro e w11 ⟨rfl, rfl⟩
          by_cases hlt2 : h ≤ N.length
          · have hlt3 : (h : Int) ≤ (N.length : Int) := by omega
            have hwx := wf_of (x := (h : Int)) (by omega) (by omega)
            have hcan := HMD.out.md.can HG.out.wf hwx
            go_wp2_with fail
            refine hcan.mono ?_
            clear hcan
            rintro e w12 ⟨b12, rfl, hd12, hb12⟩
            have HD12 := Lib.hid hd12
            have HB12 := Lib.hid hb12
            have hs12 : wr.heap.size ≤ w12.heap.size := hb12.size
            clear hd12 hb12
            cases b12 with
            | false =>
              go_wp2_with fail
              go_roundw
              case rel =>
                exact ⟨h + 1, L, a, c, by omega, by omega, by go_num, rfl, by omega, own_below HO.out HB12.out, (HMA.out.no fun d => absurd (HD12.out.2 d) (by simp)), HMD.out.below HB12.out, HB.out.trans (HB12.out.mono HB.out.size), Nat.le_trans hs7 hs12⟩
              case measure => simp [intOf]; omega
            | true =>
              have ho12 := own_alloc (own_below HO.out HB12.out) (.cells #[.int .i64 (h : Int)] 42)
              have hc12 : (w12.alloc (.cells #[.int .i64 (h : Int)] 42)).cell? ⟨w12.heap.size, 0, none⟩ = some (.int .i64 (h : Int)) := (cell_of_row _ w12.heap.size 0 _ 42 (0, 0) (heap_alloc_new _ _)).trans rfl
              have hm12 := (HMD.out.below HB12.out).below (below_alloc w12 (.cells #[.int .i64 (h : Int)] 42))
              have hb12 := (HB.out.trans (HB12.out.mono HB.out.size)).trans ((below_alloc w12 (.cells #[.int .i64 (h : Int)] 42)).mono (Nat.le_trans HB.out.size hs12))
              have hsz12 : w7.heap.size ≤ (w12.alloc (.cells #[.int .i64 (h : Int)] 42)).heap.size := by simp; omega
              go_wp2_with (at_builtin; refine wpList_append_one (.tmp 64) (.tmp 66) rfl rfl w7.heap.size _ L.length L rfl ho12 ⟨w12.heap.size, 0, none⟩ 1 (h : Int) rfl hc12 (by omega) hsz12 ?_; intro v13 w13 hown13 hg13 hl13)
              obtain ⟨a13, c13, rfl, _, _⟩ := own_shape hown13
              go_roundw
              case rel =>
                refine ⟨h + 1, L ++ [(h : Int)], a13, c13, by omega, by omega, by go_num, by simp, by simp; omega, by simpa using hown13, HMA.out.yes (HD12.out.1 (by simp)) h1, ?_, ?_, ?_⟩
                · rw [show (L ++ [(h : Int)]).length = L.length + 1 by simp]
                  refine hm12.step (Stp.of_grown hg13 (fun g hg => hg) fun k hk => ?_)
                  rcases hl13 with e | e
                  · rw [e] at hk; exact .inl hk
                  · rw [e] at hk; cases hk; exact .inr (Nat.le_refl _)
                · exact hb12.grown hg13 hb12.size fun k hk => Nat.le_trans HS67.out (ho12.lt k hk).1
                · exact Nat.le_trans hsz12 hg13.size
              case measure => simp [intOf]; omega
          · obtain rfl : h = N.length + 1 := by omega
            have hlt3 : ¬ (((N.length + 1 : Nat) : Int) ≤ (N.length : Int)) := by omega
            have T11 := Lib.hid (T6.out.keep HB.out)
            go_wp2_with fail
            refine (Md.new T11.out.tp).mono ?_
            rintro e w12 ⟨M2, rfl, m12, b12⟩
            have HLW := Lib.hid (show ∀ y ∈ L, (Lit.int .i64 y).wf = true from fun y hy => by
              have := (HMA.out y).1 hy
              exact wf_of (by omega) (by omega))
            have hlearn := m12.learn HG.out.wf (Below.refl _ _) ((Rd.of_own HO.out).1.below b12) HLW.out (fun a' n cap e => .inl (by cases e; exact (HO.out.lt a'.block rfl).2)) b12.size
            have HB12 := Lib.hid b12
            clear m12 b12
            go_wp2_with fail
            refine hlearn.mono ?_
            clear hlearn
            rintro e w13 ⟨rfl, m13, b13⟩
            have HB13 := Lib.hid (HB12.out.trans b13)
            have HM13 := Lib.hid m13
            have HMM := Lib.hid (HMD.out.md.below HB13.out)
            have T13 := Lib.hid (T11.out.keep HB13.out)
            have HBW := Lib.hid (HB.out.trans (HB13.out.mono HB.out.size))
            have HEQ := Lib.hid (show ∀ z, 1 ≤ z → z ≤ (N.length : Int) → (Der N (fun u => u ∈ zs) false z ↔ Der N (fun y => False ∨ y ∈ L) false z) from fun z z1 z2 =>
              ⟨fun d => .fo (.base (.inr ((HMA.out z).2 ⟨z1, by omega, d⟩)) z1 z2), fun d => d.remade HG.out.wf fun u hu _ _ => by
                rcases hu with hu | hu
                · exact hu.elim
                · exact ((HMA.out u).1 hu).2.2⟩)
            clear m13 b13
            go_wp2_with fail
            go_loopw [14] (fun hv wr => ∃ h : Nat, 1 ≤ h ∧ h ≤ N.length + 1 ∧ hv = .int .i64 h ∧ Below w13.heap.size w13 wr) (fun hv _ => N.length + 1 - (intOf hv).toNat)
            case atStart => exact ⟨1, Nat.le_refl _, by omega, rfl, Below.refl _ _⟩
            case round =>
              obtain ⟨h, h1, h2, rfl, hb⟩ := hrel
              have HBX := Lib.hid hb
              clear hb
              go_wp2_with fail
              refine (T13.out.keep HBX.out).size.mono ?_
              rintro e w14 ⟨rfl, rfl⟩
              by_cases hlt4 : h ≤ N.length
              · have hlt5 : (h : Int) ≤ (N.length : Int) := by omega
                have hwx := wf_of (x := (h : Int)) (by omega) (by omega)
                have hq := HEQ.out (h : Int) (by omega) hlt5
                have hcan1 := (HMM.out.below HBX.out).can HG.out.wf hwx
                have HQ := Lib.hid hq
                clear hq
                go_wp2_with fail
                refine hcan1.mono ?_
                clear hcan1
                rintro e w15 ⟨b15, rfl, hd15, hb15⟩
                have HB15 := Lib.hid (HBX.out.trans (hb15.mono HBX.out.size))
                have HD15 := Lib.hid hd15
                have hcan2 := (HM13.out.below HB15.out).can HG.out.wf hwx
                clear hb15 hd15
                go_wp2_with fail
                refine hcan2.mono ?_
                clear hcan2
                rintro e w16 ⟨b16, rfl, hd16, hb16⟩
                have HB16 := Lib.hid (HB15.out.trans (hb16.mono HB15.out.size))
                obtain rfl : b16 = b15 := by rw [Bool.eq_iff_iff, hd16, HD15.out]; exact HQ.out.symm
                clear hb16 hd16 HD15
                go_wp2_with fail
                go_roundw
                case rel => exact ⟨h + 1, by omega, by omega, by go_num, HB16.out⟩
                case measure => simp [intOf]; omega
              · obtain rfl : h = N.length + 1 := by omega
                have hlt5 : ¬ (((N.length + 1 : Nat) : Int) ≤ (N.length : Int)) := by omega
                go_wp2_with fail
                refine (kawake_any _).mono ?_
                rintro e w17 ⟨rfl, b17⟩
                go_wp2_with fail
                go_ret
                have g1 := T6.out.prog.bel.trans (HBW.out.mono T6.out.prog.bel.size)
                have g2 := g1.trans (HBX.out.mono g1.size)
                exact ⟨rfl, g2.trans (b17.mono g2.size)⟩
#print axioms kagain_walk
end Go.Proofs.Ytinncmljffcobaa
