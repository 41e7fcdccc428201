/- The laws' own function terms: numbers as the program's. -/
import Derived.Test.YtinncmljffcobaaZMgI
import Derived.Test.YtinncmljffcobaaZText
namespace Go.Proofs.Ytinncmljffcobaa
open Go Go.RowKit

/-- A node without text. -/
def nd (k : Int) (ps : List Int) : Nd := (k, ByteArray.empty, ps)
abbrev nS : Nd := secretNd
/-- The table of the chapter's examples. -/
def nA : List Nd := [nS, nS, nd 7 [2], nd 8 [1, 2], nd 1 [], nd 10 [4, 5, 2]]
theorem ak1 : fitsN [nS, nS] 7 [2] = true ∧ mkN [nS, nS] 7 [2] = [2] ∧ idxN 1 [nS, nS] (nd 7 [2]) = none := by decide +kernel
theorem ak2 : fitsN [nS, nS, nd 7 [2]] 8 [1, 3] = true ∧ mkN [nS, nS, nd 7 [2]] 8 [1, 3] = [1, 2] ∧ idxN 1 [nS, nS, nd 7 [2]] (nd 8 [1, 2]) = none := by decide +kernel
theorem ak3 : idxN 1 [nS, nS, nd 7 [2], nd 8 [1, 2]] (nd 1 []) = none := by decide +kernel
theorem ak4 : fitsN [nS, nS, nd 7 [2], nd 8 [1, 2], nd 1 []] 10 [4, 5, 2] = true ∧ mkN [nS, nS, nd 7 [2], nd 8 [1, 2], nd 1 []] 10 [4, 5, 2] = [4, 5, 2] ∧ idxN 1 [nS, nS, nd 7 [2], nd 8 [1, 2], nd 1 []] (nd 10 [4, 5, 2]) = none := by decide +kernel
theorem nA_at {x : Int} (h1 : 1 ≤ x) (h2 : x ≤ 6) : x = 1 ∨ x = 2 ∨ x = 3 ∨ x = 4 ∨ x = 5 ∨ x = 6 := by omega
theorem nA_kind {x : Int} (h : kindN nA x ≠ 0) : x = 1 ∨ x = 2 ∨ x = 3 ∨ x = 4 ∨ x = 5 ∨ x = 6 := by
  have := kind_in h
  have e : nA.length = 6 := rfl
  rw [e] at this
  omega
theorem nA_wf : Wf nA where
  low := fun x h1 h2 => by
    have e : nA.length = 6 := rfl
    rw [e] at h2
    rcases nA_at h1 (by omega) with rfl | rfl | rfl | rfl | rfl | rfl <;> decide +kernel
  two := fun x h => by
    rcases nA_kind (by rw [h]; decide) with rfl | rfl | rfl | rfl | rfl | rfl <;> revert h <;> decide +kernel
  one := fun x h => by
    rcases nA_kind (by rw [h]; decide) with rfl | rfl | rfl | rfl | rfl | rfl <;> revert h <;> decide +kernel
  sig := fun x h => by
    rcases nA_kind (by rw [h]; decide) with rfl | rfl | rfl | rfl | rfl | rfl <;> revert h <;> decide +kernel
  sea := fun x h => by
    rcases nA_kind (by rw [h]; decide) with rfl | rfl | rfl | rfl | rfl | rfl <;> revert h <;> decide +kernel
  sixteen := fun x => by
    by_cases h : kindN nA x = 0
    · by_cases hx : 1 ≤ x ∧ x ≤ 6
      · rcases nA_at hx.1 hx.2 with rfl | rfl | rfl | rfl | rfl | rfl <;> decide +kernel
      · by_cases h0 : x < 1
        · have : partsN nA x = partsN nA 1 := by unfold partsN; rw [show (x - 1).toNat = 0 by omega]; rfl
          rw [this]; decide +kernel
        · have : partsN nA x = [] := by
            unfold partsN
            have : 6 ≤ (x - 1).toNat := by omega
            rw [List.getElem?_eq_none (by show 6 ≤ _; omega)]
          rw [this]; decide
    · rcases nA_kind h with rfl | rfl | rfl | rfl | rfl | rfl <;> decide +kernel
  pub := fun x y h1 h2 h3 => by
    rcases nA_kind (x := x) (by rw [h1]; decide) with rfl | rfl | rfl | rfl | rfl | rfl <;> rcases nA_kind (x := y) (by rw [h2]; decide) with rfl | rfl | rfl | rfl | rfl | rfl <;> first | rfl | (exfalso; revert h1 h2; decide +kernel)
  few := by decide
/-- What is made of 1 and 3 is 4; 3 alone does not do; of 6 nothing follows; of 1, 3 and 6 does 2. -/
theorem nA_yes : Der nA (fun y => y ∈ [1, 3]) false 4 ∧ Der nA (fun y => y ∈ [1, 3, 6]) false 2 := by
  have d : ∀ Bs : Int → Prop, Bs 1 → Bs 3 → Der nA Bs false 4 := fun Bs b1 b3 =>
    .left (q := 3) (by decide +kernel) (show Der nA Bs true 1 from .base b1 (by decide) (by decide)) (.base b3 (by decide) (by decide)) (by decide +kernel) (by decide +kernel)
  refine ⟨d _ (by simp) (by simp), .fo (show Der nA _ true 2 from ?_)⟩
  exact Der.sealed (h := 6) (.base (by simp) (by decide) (by decide)) (by decide +kernel) (show Der nA _ false 4 from d _ (by simp) (by simp))
theorem nA_no3 {b : Bool} {x : Int} (h : Der nA (fun y => y ∈ [3]) b x) : (b = true → x = 3) ∧ (b = false → x = 3 ∨ x = 5) := by
  induction h with
  | @base x h1 h2 h3 => exact ⟨fun _ => by simpa using h1, fun e => (by cases e)⟩
  | row _ k hx ih => have := ih.1 rfl; subst this; exfalso; revert k; decide +kernel
  | signed _ k ih => have := ih.1 rfl; subst this; revert k; decide +kernel
  | sealed _ k _ ih _ => have := ih.1 rfl; subst this; revert k; decide +kernel
  | fo _ ih => exact ⟨fun e => (by cases e), fun _ => .inl (ih.1 rfl)⟩
  | @made x h1 h2 k2 k8 _ ih =>
    refine ⟨fun e => (by cases e), fun _ => ?_⟩
    rcases nA_at h1 h2 with rfl | rfl | rfl | rfl | rfl | rfl
    · exact absurd (by decide +kernel) k2
    · exact absurd (by decide +kernel) k2
    · exact .inl rfl
    · exact absurd (by decide +kernel) k8
    · exact .inr rfl
    · have := (ih 4 (by decide +kernel)).2 rfl; omega
  | @both x k _ _ ih1 ih2 =>
    rcases nA_kind (x := x) (by rw [k]; decide) with rfl | rfl | rfl | rfl | rfl | rfl <;> first | (exfalso; revert k; decide +kernel) | (exfalso; have := ih1.1 rfl; revert this; decide +kernel)
  | @left x q k _ _ k7 hp ih1 ih2 =>
    rcases nA_kind (x := x) (by rw [k]; decide) with rfl | rfl | rfl | rfl | rfl | rfl <;> first | (exfalso; revert k; decide +kernel) | (exfalso; have := ih1.1 rfl; revert this; decide +kernel)
  | @right x q k _ _ k7 hp ih1 ih2 =>
    rcases nA_kind (x := x) (by rw [k]; decide) with rfl | rfl | rfl | rfl | rfl | rfl <;> first | (exfalso; revert k; decide +kernel) | (exfalso; have := ih1.1 rfl; revert this; decide +kernel)
theorem nA_no6 {b : Bool} {x : Int} (h : Der nA (fun y => y ∈ [6]) b x) : (b = true → x = 6) ∧ (b = false → x = 6 ∨ x = 5) := by
  induction h with
  | @base x h1 h2 h3 => exact ⟨fun _ => by simpa using h1, fun e => (by cases e)⟩
  | row _ k hx ih => have := ih.1 rfl; subst this; exfalso; revert k; decide +kernel
  | signed _ k ih => have := ih.1 rfl; subst this; revert k; decide +kernel
  | sealed _ k _ ih ih2 =>
    have := ih.1 rfl; subst this
    have h2 := ih2.2 rfl
    exfalso; revert h2; decide +kernel
  | fo _ ih => exact ⟨fun e => (by cases e), fun _ => .inl (ih.1 rfl)⟩
  | @made x h1 h2 k2 k8 _ ih =>
    refine ⟨fun e => (by cases e), fun _ => ?_⟩
    rcases nA_at h1 h2 with rfl | rfl | rfl | rfl | rfl | rfl
    · exact absurd (by decide +kernel) k2
    · exact absurd (by decide +kernel) k2
    · have := (ih 2 (by decide +kernel)).2 rfl; omega
    · exact absurd (by decide +kernel) k8
    · exact .inr rfl
    · exact .inl rfl
  | @both x k _ _ ih1 ih2 =>
    rcases nA_kind (x := x) (by rw [k]; decide) with rfl | rfl | rfl | rfl | rfl | rfl <;> first | (exfalso; revert k; decide +kernel) | (exfalso; have := ih1.1 rfl; revert this; decide +kernel)
  | @left x q k _ _ k7 hp ih1 ih2 =>
    rcases nA_kind (x := x) (by rw [k]; decide) with rfl | rfl | rfl | rfl | rfl | rfl <;> first | (exfalso; revert k; decide +kernel) | (exfalso; have := ih1.1 rfl; revert this; decide +kernel)
  | @right x q k _ _ k7 hp ih1 ih2 =>
    rcases nA_kind (x := x) (by rw [k]; decide) with rfl | rfl | rfl | rfl | rfl | rfl <;> first | (exfalso; revert k; decide +kernel) | (exfalso; have := ih1.1 rfl; revert this; decide +kernel)
theorem Tab.text {w : World} {B tb mb : Nat} {nv : Value} {N : List Nd} (h : TabAt w B tb mb nv N) {vb : Value} {zb : List Int} (hb : Rd .u8 w vb zb) (hl : zb.length ≤ 2048) (hroom : N.length < 65536) :
    Calls Try.prog 25 #[.pointer (some ⟨tb, 0, none⟩), vb] w fun e w' => Put w B tb mb nv N (1, bstr zb, []) e w' := by
  obtain ⟨L, h1, rfl⟩ := h.ex
  exact (text_any h1 hb hl (by rw [← nds_len]; exact hroom)).mono fun e w' hm => Numbered.put (n := (1, bstr zb, [])) hm
theorem TabAt.tp {w : World} {B tb mb : Nat} {nv : Value} {N : List Nd} (h : TabAt w B tb mb nv N) : Tp w (fun _ => False) (.pointer (some ⟨tb, 0, none⟩)) N := by
  obtain ⟨L, h1, h2⟩ := h.ex
  exact .inr ⟨B, tb, mb, nv, rfl, ⟨L, h1, h2, fun _ _ h => h⟩⟩
theorem kcan_lit {W : World} {B tb mb : Nat} {nv : Value} (t : TabAt W B tb mb nv nA) (l : List Int) (hl : l.length ≤ 1000) (hwf : ∀ y ∈ l, (Lit.int .i64 y).wf = true) {h : Int} (hh : (Lit.int .i64 h).wf = true) (b : Bool) (hb : b = true ↔ Der nA (fun y => y ∈ l) false h) :
    Calls Try.prog 16 #[.pointer (some ⟨tb, 0, none⟩), .slice (some ⟨W.heap.size, 0, none⟩) l.length l.length, .int .i64 h] (W.alloc (.cells (cs .i64 l).toArray 42)) fun e w' => e = .returned (.bool b) ∧ Below W.heap.size W w' :=
  (kcan_any (t.keep (below_alloc W _)).tp nA_wf (Rd.lit .i64 42 W l hl) hwf hh).mono fun e w' ⟨b', e1, e2, e3⟩ => by
    have : b' = b := by
      cases b <;> cases b' <;> simp_all
    subst this
    exact ⟨e1, (below_alloc W _).trans (e3.mono (by simp))⟩
theorem bstr_nil : bstr [] = ByteArray.empty := rfl
set_option maxHeartbeats 4000000 in
set_option maxRecDepth 20000 in
theorem kawake_any (w : World) : Calls Try.prog 17 #[] w fun e w' => e = .returned (.bool true) ∧ Below w.heap.size w w' := by
  go_enter Try.func17, Try.ntmps17
  go_wp2_with fail
  refine (Tab.new w).mono ?_
  rintro e w1 ⟨rfl, t1, b1⟩
  have s1 := b1.size
  go_wp2_with fail
  refine (Tab.secret t1 (by decide)).mono ?_
  rintro e w2 ⟨rfl, nv2, t2, f2, m2⟩
  have b2 := b1.trans (t1.below f2)
  have s2 := b2.size
  go_wp2_with fail
  refine (Tab.secret t2 (by decide)).mono ?_
  rintro e w3 ⟨rfl, nv3, t3, f3, m3⟩
  have b3 := b2.trans (t2.below f3)
  have s3 := b3.size
  go_wp2_with fail
  have q4 := Tab.make (N := [nS, nS]) (t3.keep (below_alloc w3 (.cells #[.int .i64 2] 42))) 7 (Rd.lit .i64 42 w3 [2] (by decide)) (by decide) ak1.1 (by decide) (Nat.le_trans s3 (by simp))
  rw [ak1.2.1] at q4
  refine q4.mono ?_
  intro e w4 p4
  clear q4
  obtain ⟨rfl, nv4, t4, f4, m4⟩ := p4.new ak1.2.2
  have b4 := b3.trans (((below_alloc w3 (.cells #[.int .i64 2] 42)).mono s3).trans ((t3.keep (below_alloc w3 _)).below f4))
  have s4 := b4.size
  go_wp2_with fail
  have q5 := Tab.make (N := [nS, nS, nd 7 [2]]) (t4.keep (below_alloc w4 (.cells #[.int .i64 1, .int .i64 3] 42))) 8 (Rd.lit .i64 42 w4 [1, 3] (by decide)) (by decide) ak2.1 (by decide) (Nat.le_trans s4 (by simp))
  rw [ak2.2.1] at q5
  refine q5.mono ?_
  intro e w5 p5
  clear q5
  obtain ⟨rfl, nv5, t5, f5, m5⟩ := p5.new ak2.2.2
  have b5 := b4.trans (((below_alloc w4 (.cells #[.int .i64 1, .int .i64 3] 42)).mono s4).trans ((t4.keep (below_alloc w4 _)).below f5))
  have s5 := b5.size
  go_wp2_with fail
  have q6 := Tab.text (N := [nS, nS, nd 7 [2], nd 8 [1, 2]]) t5 (Rd.nil .u8 w5) (by decide) (by decide)
  rw [bstr_nil] at q6
  refine q6.mono ?_
  intro e w6 p6
  clear q6
  obtain ⟨rfl, nv6, t6, f6, m6⟩ := p6.new ak3
  have b6 := b5.trans ((t5.below f6).mono (Nat.le_refl _))
  have s6 := b6.size
  go_wp2_with fail
  have q7 := Tab.make (N := [nS, nS, nd 7 [2], nd 8 [1, 2], nd 1 []]) (t6.keep (below_alloc w6 (.cells #[.int .i64 4, .int .i64 5, .int .i64 2] 42))) 10 (Rd.lit .i64 42 w6 [4, 5, 2] (by decide)) (by decide) ak4.1 (by decide) (Nat.le_trans s6 (by simp))
  rw [ak4.2.1] at q7
  refine q7.mono ?_
  intro e w7 p7
  clear q7
  obtain ⟨rfl, nv7, t7, f7, m7⟩ := p7.new ak4.2.2
  have b7 := b6.trans (((below_alloc w6 (.cells #[.int .i64 4, .int .i64 5, .int .i64 2] 42)).mono s6).trans ((t6.keep (below_alloc w6 _)).below f7))
  have s7 := b7.size
  have T7 : TabAt w7 w.heap.size (w.heap.size + 1) w.heap.size nv7 nA := t7
  have HB := Lib.hid b7
  clear t1 t2 t3 t4 t5 t6 t7 f2 f3 f4 f5 f6 f7 m2 m3 m4 m5 m6 m7 b1 b2 b3 b4 b5 b6 b7 s1 s2 s3 s4 s5 s6
  go_wp2_with fail
  refine (kcan_lit T7 [1, 3] (by decide) (by decide) (by decide) true ⟨fun _ => nA_yes.1, fun _ => rfl⟩).mono ?_
  rintro e w8 ⟨rfl, b8⟩
  have T8 := T7.keep b8
  have HB8 := Lib.hid b8
  clear T7 b8
  go_wp2_with fail
  refine (kcan_lit T8 [3] (by decide) (by decide) (by decide) false ⟨fun e => (by cases e), fun d => absurd ((nA_no3 d).2 rfl) (by decide)⟩).mono ?_
  rintro e w9 ⟨rfl, b9⟩
  have T9 := T8.keep b9
  have HB9 := Lib.hid b9
  clear T8 b9
  go_wp2_with fail
  refine (kcan_lit T9 [6] (by decide) (by decide) (by decide) false ⟨fun e => (by cases e), fun d => absurd ((nA_no6 d).2 rfl) (by decide)⟩).mono ?_
  rintro e w10 ⟨rfl, b10⟩
  have T10 := T9.keep b10
  have HB10 := Lib.hid b10
  clear T9 b10
  go_wp2_with fail
  refine (kcan_lit T10 [1, 3, 6] (by decide) (by decide) (by decide) true ⟨fun _ => nA_yes.2, fun _ => rfl⟩).mono ?_
  rintro e w11 ⟨rfl, b11⟩
  have HB11 := Lib.hid b11
  clear T10 b11
  go_wp2_with fail
  go_ret
  have h8 := HB.out.trans (HB8.out.mono HB.out.size)
  have h9 := h8.trans (HB9.out.mono h8.size)
  have h10 := h9.trans (HB10.out.mono h9.size)
  exact ⟨rfl, h10.trans (HB11.out.mono h10.size)⟩
#print axioms kawake_any
#print axioms nA_wf
#print axioms nA_no6
end Go.Proofs.Ytinncmljffcobaa
namespace Go.Proofs.Ytinncmljffcobaa
open Go Go.RowKit

set_option maxHeartbeats 1000000 in
set_option maxRecDepth 20000 in
theorem kterms_any {w : World} {v : Value} {xs : List Int} (h : Rd .i64 w v xs) (hl : xs.length ≤ 1000000) :
    Calls Try.prog 13 #[v] w fun e w' => ∃ u, e = .returned u ∧ w'.ownsRow w.heap.size 42 1 u xs.length (cs .i64 xs) ∧ Below w.heap.size w w' := by
  have h' := h
  obtain ⟨ao, cap, rfl, _, _, _, _⟩ := h'
  have HL := Lib.hid hl
  clear hl
  go_enter Try.func13, Try.ntmps13
  go_wp2_with fail
  go_loopw [3, 4] (fun u i wr => ∃ j : Nat, j ≤ xs.length ∧ i = .int .i64 j ∧ wr.ownsRow w.heap.size 42 1 u j (cs .i64 (xs.take j)) ∧ Below w.heap.size w wr) (fun _ i _ => xs.length - (intOf i).toNat)
  case atStart => exact ⟨0, Nat.zero_le _, rfl, World.ownsRow_nil _ _ _ _, Below.refl _ _⟩
  case round =>
    obtain ⟨j, hj, rfl, hown, hb⟩ := hrel
    have hsw := hb.size
    by_cases hlt : j < xs.length
    · have hlt' : (j : Int) < (xs.length : Int) := by omega
      rcases (h.below hb).cases with ⟨h0, _⟩ | ⟨b, off, c, e, _, _, _, _, hc⟩
      · rw [h0] at hlt; simp at hlt
      · cases e
        have hcj := hc j hlt
        clear hc
        have HT := Lib.hid (take_succ_getD xs j hlt)
        generalize xs.getD j 0 = x at *
        have hj6 : j ≤ 1000000 := by have := HL.out; omega
        go_wp2_with (at_builtin; refine wpList_append_ints .i64 42 8 (.tmp 11) (.tmp 16) 37 rfl rfl info32 Try.underlying37 w.heap.size _ j (xs.take j) rfl (own_alloc hown _) _ [x] rfl (Rd.lit .i64 42 wr [x] (by simp)) (by simp; omega) (by simp; omega) (by simp; omega) ?_; intro v5 w5 hown5 hb5 _)
        go_roundw
        case rel => exact ⟨j + 1, by omega, by go_num, (by rw [HT.out]; exact hown5), hb.trans (((below_alloc _ _).mono hsw).trans hb5)⟩
        case measure => simp [intOf]; omega
    · obtain rfl : j = xs.length := by omega
      rw [List.take_length] at hown
      go_wp2_with fail
      go_ret
      exact ⟨_, rfl, hown, hb⟩
#print axioms kterms_any
end Go.Proofs.Ytinncmljffcobaa
