/- hello.Write tells a right message's bytes; none of another. -/
import Derived.Test.YtefcjggmlhoebaaDoorHW3
import Derived.Test.YtefcjggmlhoebaaDoorSLst
namespace Go.Proofs.YtefcjggmlhoebaaDoor
open Go Go.RowKit

/-- Right params have at most 500 bytes. -/
def OkLen (ok : List Int → Bool) : Prop := ∀ ys, ok ys = true → ys.length ≤ 500
theorem right_plen {ok : List Int → Bool} (hk : OkLen ok) {x : Hm} (h : rightM ok x) : x.p.length ≤ 500 := by
  rcases h with ⟨_, _, _, h, _⟩ | ⟨_, _, _, _, _, _, h, _⟩ | ⟨_, _, _, _, _, _, _, h, _⟩ | ⟨_, h, _⟩ | ⟨_, _, _, _, _, _, _, h, _⟩ | ⟨_, _, _, _, _, _, h, _⟩
  · exact hk _ h
  · rw [h]; simp
  · rw [h]; simp
  · exact hk _ h
  · rw [h]; simp
  · rw [h]; simp
theorem if_nil_len (c : Prop) [Decidable c] (l : List Int) (k : Nat) (h : l.length ≤ k) : (if c then [] else l).length ≤ k := by
  split
  · exact Nat.zero_le _
  · exact h
theorem body_len {ok : List Int → Bool} (hk : OkLen ok) {x : Hm} (h : rightM ok x) : (bodyM x).length ≤ 600 := by
  have hp := right_plen hk h
  have e1 := enc_len (x.p.length : Int)
  have e2 := enc_len x.l
  have hn : x.k = 11 → x.n.length ≤ 50 := fun e => by
    rcases h with h | h | h | h | h | h
    all_goals first | (exact h.2.1.2) | (have := h.1; omega)
  have i1 := if_nil_len (x.t = 0) (gbig x.t 4) 4 (by rw [gbig_len]; omega)
  have i2 := if_nil_len (x.m = 0) (gbig x.m 4) 4 (by rw [gbig_len]; omega)
  unfold bodyM
  split
  · simp only [List.length_append, List.length_cons, gbig_len]; omega
  split
  · simp only [List.length_append, List.length_cons, List.length_nil, gbig_len]; omega
  split
  · simp only [List.length_append, gbig_len]; omega
  split
  · simp only [List.length_append, List.length_cons]; omega
  split
  · rename_i h11
    exact Nat.le_trans (hn h11) (by omega)
  · rw [gbig_len]; omega
theorem right_kind {ok : List Int → Bool} {x : Hm} (h : rightM ok x) : 1 ≤ x.k ∧ x.k ≤ 20 := by
  rcases h with h | h | h | h | h | h
  all_goals have := h.1; omega
theorem wr_msg {ok : List Int → Bool} (hk : OkLen ok) {x : Hm} (h : rightM ok x) : msgB x.k (bodyM x) = wrM x := by
  have hl := body_len hk h
  have hk1 := right_kind h
  unfold msgB wrM headB
  rw [if_neg (by omega)]
  simp [gbig]
  omega
theorem hbp_eq {w : World} {zs ys : List Int} (h : zs = ys) {F : Nat} {args : Array Value} (hc : Calls Tryd.prog F args w (HBP w zs)) : Calls Tryd.prog F args w (HBP w ys) := by rw [← h]; exact hc
set_option maxRecDepth 20000 in
set_option maxHeartbeats 2000000 in
theorem body_1 (w : World) (r s t m : Int) (f : Bool) (a : Option Addr) (pl c : Nat) (n : ByteArray) (v l : Int) (zs : List Int) (h : ∀ W, Below w.heap.size w W → Calls Tryd.prog 49 #[.agg (mcl 1 r s t m f (.slice a pl c) n v l)] W (HBP W zs)) : Calls Tryd.prog 21 #[.agg (mcl 1 r s t m f (.slice a pl c) n v l)] w (HBP w zs) := by
  have hm0 := mbox_new w 1 r s t m f (.slice a pl c) n v l
  have B0 := below_alloc w (.cells (mcl 1 r s t m f (.slice a pl c) n v l) 28)
  obtain ⟨⟨c0, c1, c2, c3, c4, c5, c6, c7, c8, c9⟩, cf⟩ := hm0.cells
  have hc := h _ B0
  unfold mcl at *
  clear h
  go_enter Tryd.func21, Tryd.ntmps21
  go_wp2_with (go_at_call 49; refine hc.mono ?_; rintro e w2 ⟨v2, rfl, hr2, hb2⟩)
  go_ret
  exact ⟨_, rfl, hr2, B0.trans (hb2.mono B0.size)⟩
/-- body, of a right message. -/
theorem body_any {ok : List Int → Bool} (hk : OkLen ok) {w : World} {x : Hm} {vp : Value} (h : rightM ok x) (hr : Rd w vp x.p) (hn : Byt x.n) (hT : Tab w) (hw : 1 < w.heap.size) :
    Calls Tryd.prog 21 #[mAgg x vp] w (HBP w (bodyM x)) := by
  have hp := right_plen hk h
  obtain ⟨k, r, s, t, m, f, p, n, v, l⟩ := x
  unfold mAgg
  simp only at hp hr hn ⊢
  obtain ⟨a, c, rfl⟩ := hr.shape
  rcases h with ⟨h1, h2, h3, _, h5, h6, h7, h8⟩ | ⟨h1, h2, h3, h4, _⟩ | ⟨h1, h2, h3, _⟩ | ⟨h1, _⟩ | ⟨h1, h2, _⟩ | ⟨h1, h2, _⟩
  · simp only at h1 h2 h3 h5
    subst h1
    have hnt : ∀ z : Int, z = 0 ∨ tmR z → numB z = (if z = 0 then [] else gbig z 4) := fun z hz => by
      rcases hz with rfl | hz
      · rw [numB_zero, if_pos rfl]
      · rw [if_neg (by have := hz.1; omega), numB_gbig hz]
    have ht := hnt t (by rcases h5 with h | h; exact .inl h.1; exact .inr h.1)
    have hm := hnt m (by rcases h5 with h | h; exact .inl h.2; exact .inr h.2)
    refine body_1 w r s t m f a _ c _ v l _ fun W hW => hbp_eq ?_ (cbody_any W 1 r s t m f (t != 0) rfl a p c _ v l h2 h3 (hr.below hW) (by omega) (hT.below hW) (Nat.lt_of_lt_of_le hw hW.size))
    unfold bodyM
    rw [if_pos rfl, ht, hm]
    have : flB (t != 0) = if t = 0 then 0 else 1 := by by_cases h0 : t = 0 <;> simp [h0, flB]
    rw [this]
    simp only [List.append_assoc, List.cons_append, List.nil_append]
  · simp only at h1 h2 h3 h4
    subst h1
    refine hbp_eq ?_ (body_2 w r s t m f a _ c _ v l h2 h3 h4)
    simp [bodyM]
  · simp only at h1 h2 h3
    subst h1
    refine hbp_eq ?_ (body_4 w r s t m f a _ c _ v l h2 hT hw)
    simp [bodyM]
  · simp only at h1
    subst h1
    refine hbp_eq ?_ (body_8 w r s t m f a p c _ v l hr (by omega) hT hw)
    simp [bodyM]
  · simp only at h1 h2
    subst h1
    refine hbp_eq ?_ (body_11 w r s t m f a _ c _ v l (by rw [bstr_size]; exact h2.2))
    simp [bodyM, sbytes_bstr hn]
  · simp only at h1 h2
    refine hbp_eq ?_ (body_mac w k r s t m f a _ c _ v l h1 h2)
    rcases h1 with rfl | rfl <;> simp [bodyM]
#print axioms body_any
end Go.Proofs.YtefcjggmlhoebaaDoor
namespace Go.Proofs.YtefcjggmlhoebaaDoor
open Go Go.RowKit

/-- What Write tells. -/
def wrH (ok : List Int → Bool) (x : Hm) : List Int := if rightB (ok x.p) x = true then wrM x else []
def HWP (ok : List Int → Bool) (x : Hm) (w : World) (e : Ending) (w' : World) : Prop := ∃ v', e = .returned v' ∧ Rd w' v' (wrH ok x) ∧ Plain v' ∧ Below w.heap.size w w'
set_option maxRecDepth 20000 in
set_option maxHeartbeats 4000000 in
theorem hwrite_any {ok : List Int → Bool} (hp : PrOk ok) (hv : VrOk) (hk : OkLen ok) {w : World} (x : Hm) {vp : Value} (hr : Rd w vp x.p) (hpl : Plain vp) (hl : x.p.length ≤ 1000000) (hn : Byt x.n) (hT : Tab w) (hw : 1 < w.heap.size) :
    Calls Tryd.prog 10 #[mAgg x vp] w (HWP ok x w) := by
  have hm0 := mbox_new w x.k x.r x.s x.t x.m x.f vp (bstr x.n) x.v x.l
  have B0 := below_alloc w (.cells (mcl x.k x.r x.s x.t x.m x.f vp (bstr x.n) x.v x.l) 28)
  have hrt := mright_any hp hv x (hr.below B0) hpl hl
  have HR := Lib.hid hr
  have HT := Lib.hid hT
  have HPL := Lib.hid hpl
  have HB0 := Lib.hid B0
  have HM0 := Lib.hid hm0
  obtain ⟨⟨c0, c1, c2, c3, c4, c5, c6, c7, c8, c9⟩, cf⟩ := hm0.cells
  obtain ⟨a, c, rfl⟩ := hr.shape
  unfold mAgg
  unfold mcl at *
  clear hr hT B0 hm0 hpl
  cases hrb : rightB (ok x.p) x with
  | false =>
    have HW : Hid (wrH ok x = []) := Lib.hid (by unfold wrH; rw [hrb]; rfl)
    rw [hrb] at hrt
    clear hrb
    go_enter Tryd.func10, Tryd.ntmps10
    go_wp2_with (go_at_call 12; refine hrt.mono ?_; rintro e w2 ⟨rfl, hb2⟩)
    go_ret
    exact ⟨_, rfl, by rw [HW.out]; exact Rd.nil _, .inl rfl, HB0.out.trans (hb2.mono HB0.out.size)⟩
  | true =>
    have hright := (rightB_iff ok x).1 hrb
    have HW : Hid (wrH ok x = msgB x.k (bodyM x)) := Lib.hid (by unfold wrH; rw [if_pos hrb, wr_msg hk hright])
    rw [hrb] at hrt
    have hbd := fun (W : World) (hW : Below w.heap.size w W) => body_any hk hright (HR.out.below hW) hn (HT.out.below hW) (Nat.lt_of_lt_of_le hw hW.size)
    have hbl := body_len hk hright
    unfold mAgg mcl at hbd
    clear hrb hright
    go_enter Tryd.func10, Tryd.ntmps10
    go_wp2_with (go_at_call 12; refine hrt.mono ?_; rintro e w2 ⟨rfl, hb2⟩; have HM2 := Lib.hid (HM0.out.below hb2); have HB2 := Lib.hid (HB0.out.trans (hb2.mono HB0.out.size)); clear c0 c1 c2 c3 c4 c5 c6 c7 c8 c9 cf; obtain ⟨⟨c0, c1, c2, c3, c4, c5, c6, c7, c8, c9⟩, cf⟩ := HM2.out.cells)
    have hbd2 := hbd w2.drew HB2.out.drew
    clear hbd hrt hb2
    have hS : (w2.drew.cell? ⟨w.heap.size, 0, none⟩ = some (.int .i64 x.k) ∧ w2.drew.cell? ⟨w.heap.size, 1, none⟩ = some (.int .i64 x.r) ∧ w2.drew.cell? ⟨w.heap.size, 2, none⟩ = some (.int .i64 x.s) ∧ w2.drew.cell? ⟨w.heap.size, 3, none⟩ = some (.int .i64 x.t) ∧ w2.drew.cell? ⟨w.heap.size, 4, none⟩ = some (.int .i64 x.m) ∧ w2.drew.cell? ⟨w.heap.size, 5, none⟩ = some (.bool x.f) ∧ w2.drew.cell? ⟨w.heap.size, 6, none⟩ = some (.slice a x.p.length c) ∧ w2.drew.cell? ⟨w.heap.size, 7, none⟩ = some (.string (bstr x.n)) ∧ w2.drew.cell? ⟨w.heap.size, 8, none⟩ = some (.int .i64 x.v) ∧ w2.drew.cell? ⟨w.heap.size, 9, none⟩ = some (.int .i64 x.l)) := HM2.out.drew.cells.1
    go_region_held3 (fun w' => (w'.cell? ⟨w.heap.size, 0, none⟩ = some (.int .i64 x.k) ∧ w'.cell? ⟨w.heap.size, 1, none⟩ = some (.int .i64 x.r) ∧ w'.cell? ⟨w.heap.size, 2, none⟩ = some (.int .i64 x.s) ∧ w'.cell? ⟨w.heap.size, 3, none⟩ = some (.int .i64 x.t) ∧ w'.cell? ⟨w.heap.size, 4, none⟩ = some (.int .i64 x.m) ∧ w'.cell? ⟨w.heap.size, 5, none⟩ = some (.bool x.f) ∧ w'.cell? ⟨w.heap.size, 6, none⟩ = some (.slice a x.p.length c) ∧ w'.cell? ⟨w.heap.size, 7, none⟩ = some (.string (bstr x.n)) ∧ w'.cell? ⟨w.heap.size, 8, none⟩ = some (.int .i64 x.v) ∧ w'.cell? ⟨w.heap.size, 9, none⟩ = some (.int .i64 x.l)))
      (first | with_reducible exact hS | with_reducible exact hS3 | with_reducible exact hS4)
      (first
        | (go_at_call 21; refine hbd2.mono ?_; rintro e w3 ⟨v3, rfl, hr3, hb3⟩; have hm3 := HM2.out.drew.below hb3; have hS3 := hm3.cells.1; obtain ⟨a3, k3, rfl⟩ := hr3.shape; have hms := message_any x.k hr3 (by omega))
        | (go_at_call 20; refine hms.mono ?_; rintro e w4 ⟨v4, rfl, ⟨hra4, hpl4⟩, hb4⟩; have hS4 := (hm3.below hb4).cells.1))
    go_wp2_with fail
    go_ret
    refine ⟨_, rfl, by rw [HW.out]; exact hra4.rd, hpl4, ?_⟩
    exact (HB2.out.drew.trans (hb3.mono HB2.out.drew.size)).trans (hb4.mono (Nat.le_trans HB2.out.drew.size hb3.size))
#print axioms hwrite_any
end Go.Proofs.YtefcjggmlhoebaaDoor
