/- token's Look and Check: what a term says as a token. -/
import Derived.Test.YtepkhhpdpmhfaaaDoorZGive
import Derived.Test.YtepkhhpdpmhfaaaDoorZKMint
namespace Go.Proofs.YtepkhhpdpmhfaaaDoor
open Go Go.RowKit

/-- The bytes' box: what is left, read in w0. -/
structure Bx (w0 w : World) (B : Nat) (v : Value) (zs : List Int) : Prop where
  bel : Below w0.heap.size w0 w
  lo : w0.heap.size ≤ B
  bx : w.heap[B]? = some (.cells #[v] 22 (0, 0))
  rd : Rd w0 v zs
  pl : Plain v
theorem Bx.cells {w0 w : World} {B : Nat} {v : Value} {zs : List Int} (h : Bx w0 w B v zs) : w.cell? ⟨B, 0, none⟩ = some v ∧ w.frozen? ⟨B, 0, none⟩ = false ∧ B < w.heap.size :=
  ⟨(cell_of_row _ B 0 _ _ (0, 0) h.bx).trans rfl, by simp [World.frozen?, h.bx], (Array.getElem?_eq_some_iff.1 h.bx).1⟩
theorem Bx.set {w0 w : World} {B : Nat} {v v' : Value} {zs zs' : List Int} (h : Bx w0 w B v zs) (hr : Rd w0 v' zs') (hp : Plain v') : Bx w0 (w.setCell ⟨B, 0, none⟩ v') B v' zs' := by
  refine ⟨h.bel.setCell (p := ⟨B, 0, none⟩) h.lo _, h.lo, ?_, hr, hp⟩
  have e := heap_setCell_same w B 0 _ _ v' h.bx
  simpa using e
theorem Rd.shape {w : World} {v : Value} {zs : List Int} (h : Rd w v zs) : ∃ ao cap, v = .slice ao zs.length cap := by obtain ⟨ao, cap, hv, _⟩ := h; exact ⟨ao, cap, hv⟩
/-- One number is cut off. -/
def Nx (w0 w w' : World) (B : Nat) (zs : List Int) : Prop := ∃ v', Bx w0 w' B v' zs ∧ But B w w'
set_option maxRecDepth 20000 in
set_option maxHeartbeats 1000000 in
theorem next_any {w0 w : World} {B : Nat} {v : Value} {zs : List Int} (h : Bx w0 w B v zs) :
    Calls Tryd.prog 35 #[.pointer (some ⟨B, 0, none⟩)] w fun e w' => e = .returned (.int .i64 (nextP zs).1) ∧ Nx w0 w w' B (nextP zs).2 := by
  obtain ⟨c0, cf, hB⟩ := h.cells
  have hr := h.rd
  have hp := h.pl
  obtain ⟨s, hs, hsl⟩ := rd_bound hr.byt
  obtain ⟨ao, cap, rfl⟩ := hr.shape
  have c1 := read_any (hr.below h.bel)
  have e : nextP zs = ((rd zs).1, zs.drop s) := by unfold nextP; rw [hs]; rfl
  rw [hs] at c1
  rw [e]
  obtain ⟨_, _, hv, hc1, hc2, _⟩ := (show Rd w0 (.slice ao zs.length cap) zs from hr)
  simp only [Value.slice.injEq] at hv
  obtain ⟨rfl, _, rfl⟩ := hv
  have hcm : cap ≤ 9223372036854775807 := by unfold maxLen at hc2; omega
  have H := Lib.hid h
  have HR := Lib.hid (And.intro hr hp)
  have hl : (zs.drop s).length = zs.length - s := by simp
  have hd : (zs.drop s).take (zs.length - s) = zs.drop s := List.take_of_length_le (by simp)
  have HP1 := Lib.hid (rd_part HR.out.1 HR.out.2 s (zs.length - s) (by omega))
  have HP2 := Lib.hid (fun hc => rd_part0 HR.out.1 HR.out.2 s (zs.length - s) (by omega) hc)
  rw [hd] at HP1 HP2
  clear hs e h hr hp hc2 hl hd
  go_enter Tryd.func35, Tryd.ntmps35
  go_wp2_with (go_at_call 36; refine c1.mono ?_; rintro e w' ⟨rfl, rfl⟩)
  · go_ret
    exact ⟨rfl, _, H.out.set (HP2.out ‹_›).1 (HP2.out ‹_›).2, But.set _ _ _ _⟩
  · go_ret
    exact ⟨rfl, _, H.out.set HP1.out.1 HP1.out.2, But.set _ _ _ _⟩
/-- What read tells. -/
def RdP (w w' : World) (e : Ending) : Option (Bool × Int × Int × List Int) → Prop
  | none => e = .returned (.tuple #[.agg #[.bool false, .int .i64 0, .int .i64 0, .slice none 0 0], .bool false]) ∧ Below w.heap.size w w'
  | some (l, a, t, nm) => ∃ vn, e = .returned (.tuple #[.agg #[.bool l, .int .i64 a, .int .i64 t, vn], .bool true]) ∧ Rd w' vn nm ∧ Below w.heap.size w w'
theorem nextP_len (zs : List Int) : (nextP zs).2.length ≤ zs.length := by unfold nextP; simp
theorem tokQ_of {zs : List Int} {k a c : Int × List Int} {t : List Int × List Int × Int} (hk : nextP zs = k) (ha : nextP k.2 = a) (hc : nextP a.2 = c) (ht : tk c.2 = t) :
    tokQ zs = if t.2.2 ≠ 0 ∨ 1 < k.1 ∨ 20 < t.1.length ∨ 0 < t.2.1.length then none else some (decide (k.1 = 1), a.1, c.1, t.1) := by
  subst hk; subst ha; subst hc; subst ht; rfl
set_option maxRecDepth 20000 in
set_option maxHeartbeats 1000000 in
theorem tread_any {w : World} {ao : Option Addr} {cap : Nat} {zs : List Int} (h : Rd w (.slice ao zs.length cap) zs) (hp : Plain (.slice ao zs.length cap)) (hl : zs.length ≤ 2048) :
    Calls Tryd.prog 24 #[.slice ao zs.length cap] w fun e w' => RdP w w' e (tokQ zs) := by
  obtain ⟨k, hk⟩ : ∃ k, nextP zs = k := ⟨_, rfl⟩
  obtain ⟨a, ha⟩ : ∃ a, nextP k.2 = a := ⟨_, rfl⟩
  obtain ⟨c, hc⟩ : ∃ c, nextP a.2 = c := ⟨_, rfl⟩
  obtain ⟨t, ht⟩ : ∃ t, tk c.2 = t := ⟨_, rfl⟩
  have HQ := Lib.hid (tokQ_of hk ha hc ht)
  have hcl : c.2.length ≤ 100000 := by
    have h1 := nextP_len zs
    have h2 := nextP_len k.2
    have h3 := nextP_len a.2
    rw [hk] at h1; rw [ha] at h2; rw [hc] at h3
    omega
  have HL := Lib.hid hcl
  have HK := Lib.hid hk
  have HA := Lib.hid ha
  have HC := Lib.hid hc
  have HT := Lib.hid ht
  obtain ⟨kn, ks⟩ := k
  obtain ⟨an, az⟩ := a
  obtain ⟨cn, cs'⟩ := c
  obtain ⟨t1, t2, te⟩ := t
  simp only at HQ HL HK HA HC HT
  have b0 : Bx w ((w.alloc (.cells #[.slice ao zs.length cap] 22)).alloc (.cells #[.bool false, .int .i64 0, .int .i64 0, .slice none 0 0] 30)) w.heap.size (.slice ao zs.length cap) zs :=
    ⟨((Below.refl w.heap.size w).alloc (Nat.le_refl _) _).alloc (by simp) _, Nat.le_refl _, by rw [(below_alloc _ _).block _ (by simp)]; exact heap_alloc_new _ _, h, hp⟩
  have r0 := Lib.hid (heap_alloc_new (w.alloc (.cells #[.slice ao zs.length cap] 22)) (.cells #[.bool false, .int .i64 0, .int .i64 0, .slice none 0 0] 30))
  have s0 := Lib.hid (show w.heap.size + 1 < ((w.alloc (.cells #[.slice ao zs.length cap] 22)).alloc (.cells #[.bool false, .int .i64 0, .int .i64 0, .slice none 0 0] 30)).heap.size by simp)
  rw [show (w.alloc (.cells #[.slice ao zs.length cap] 22)).heap.size = w.heap.size + 1 by simp] at r0
  have n1 := next_any b0
  rw [HK.out] at n1
  clear h hp hl hk ha hc ht hcl b0
  go_enter Tryd.func24, Tryd.ntmps24
  go_wp2_with fail
  refine n1.mono ?_
  rintro e w1 ⟨rfl, v1, b1, u1⟩
  have n2 := next_any b1
  rw [HA.out] at n2
  have U1 := Lib.hid u1
  clear n1 b1 u1
  go_wp2_with fail
  refine n2.mono ?_
  rintro e w2 ⟨rfl, v2, b2, u2⟩
  have n3 := next_any b2
  rw [HC.out] at n3
  have U2 := Lib.hid (U1.out.trans u2)
  clear n2 b2 u2 U1
  go_wp2_with fail
  refine n3.mono ?_
  rintro e w3 ⟨rfl, v3, b3, u3⟩
  obtain ⟨c0, cf, hB⟩ := b3.cells
  have n4 := take_any (b3.rd.below b3.bel) HL.out
  rw [HT.out] at n4
  have U3 := Lib.hid (U2.out.trans u3)
  have B3 := Lib.hid b3.bel
  clear n3 b3 u3 U2
  go_wp2_with fail
  refine n4.mono ?_
  rintro e w4 ⟨v4, v5, rfl, g4, g5, b4⟩
  obtain ⟨a4, p4, rfl⟩ := g4.shape
  obtain ⟨a5, p5, rfl⟩ := g5.shape
  have R4 : w4.heap[w.heap.size + 1]? = some (.cells #[.bool false, .int .i64 0, .int .i64 0, .slice none 0 0] 30 (0, 0)) := by
    have z := U3.out.size
    rw [b4.block _ (by have := s0.out; omega), U3.out.block _ s0.out (by omega)]
    exact r0.out
  have RR := Lib.hid R4
  have G4 := Lib.hid g4
  have B4 := Lib.hid (B3.out.trans (b4.mono B3.out.size))
  obtain ⟨m0, m1, m2, m3, mf⟩ := cells4 R4
  clear R4 n4 b4 U3 B3 s0 r0 c0 cf hB g4 g5
  have no : ∀ (h : te ≠ 0 ∨ 1 < kn ∨ 20 < t1.length ∨ 0 < t2.length), tokQ zs = none := fun h => by rw [HQ.out, if_pos h]
  have NO := Lib.hid no
  clear no
  by_cases q1 : te = 0
  · subst q1
    by_cases q2 : 1 < kn
    · have HN := Lib.hid (NO.out (.inr (.inl q2)))
      go_wp2_with fail
      refine bodyPost_ret (res_token_read _ _ (w.heap.size + 1) _ _ _ _ _ rfl rfl (chain4_row RR.out _ _ _ _)) rfl ?_
      rw [HN.out]
      exact ⟨rfl, (chain4_but _ _ _ _ _ _).below B4.out (by omega)⟩
    · by_cases q3 : 20 < t1.length
      · have HN := Lib.hid (NO.out (.inr (.inr (.inl q3))))
        have q3' : 20 < (t1.length : Int) := by omega
        go_wp2_with fail
        refine bodyPost_ret (res_token_read _ _ (w.heap.size + 1) _ _ _ _ _ rfl rfl (chain4_row RR.out _ _ _ _)) rfl ?_
        rw [HN.out]
        exact ⟨rfl, (chain4_but _ _ _ _ _ _).below B4.out (by omega)⟩
      · have q3' : ¬ 20 < (t1.length : Int) := by omega
        by_cases q4 : 0 < t2.length
        · have HN := Lib.hid (NO.out (.inr (.inr (.inr q4))))
          have q4' : 0 < (t2.length : Int) := by omega
          go_wp2_with fail
          refine bodyPost_ret (res_token_read _ _ (w.heap.size + 1) _ _ _ _ _ rfl rfl (chain4_row RR.out _ _ _ _)) rfl ?_
          rw [HN.out]
          exact ⟨rfl, (chain4_but _ _ _ _ _ _).below B4.out (by omega)⟩
        · have HN : Hid (tokQ zs = some (decide (kn = 1), an, cn, t1)) := Lib.hid (by rw [HQ.out, if_neg (show ¬ ((0 : Int) ≠ 0 ∨ 1 < kn ∨ 20 < t1.length ∨ 0 < t2.length) by omega)])
          have q4' : ¬ 0 < (t2.length : Int) := by omega
          go_wp2_with fail
          refine bodyPost_ret (res_token_read _ _ (w.heap.size + 1) _ _ _ _ _ rfl rfl (chain4_row RR.out _ _ _ _)) rfl ?_
          rw [HN.out]
          refine ⟨_, rfl, G4.out.but (chain4_but _ _ _ _ _ _) RR.out ?_, (chain4_but _ _ _ _ _ _).below B4.out (by omega)⟩
          intro c e f hc x hx z
          cases hc
          simp at hx
          rcases hx with rfl | rfl | rfl | rfl <;> simp
  · have q1' : (te != 0) = true := bne_iff_ne.2 q1
    have HN := Lib.hid (NO.out (.inl q1))
    go_wp2_with fail
    refine bodyPost_ret (res_token_read _ _ (w.heap.size + 1) _ _ _ _ _ rfl rfl (chain4_row RR.out _ _ _ _)) rfl ?_
    rw [HN.out]
    exact ⟨rfl, (chain4_but _ _ _ _ _ _).below B4.out (by omega)⟩
#print axioms tread_any
end Go.Proofs.YtepkhhpdpmhfaaaDoor
namespace Go.Proofs.YtepkhhpdpmhfaaaDoor
open Go Go.RowKit

variable {w0 w : World} {tb mb n : Nat} {rs : List (Nat × Obj)}
/-- What Look tells: the token, or the error. -/
def TkP (w' : World) (e : Ending) (er : Int) : Option (Bool × Int × Int × List Int) → Prop
  | none => e = .returned (.tuple #[.agg #[.bool false, .int .i64 0, .int .i64 0, .slice none 0 0], .int .i64 er])
  | some (l, a, t, nm) => ∃ vn, e = .returned (.tuple #[.agg #[.bool l, .int .i64 a, .int .i64 t, vn], .int .i64 0]) ∧ Rd w' vn nm
theorem Rd.ofT {w : World} {v : Value} {zs : List Int} (h : T.Rd .u8 w v zs) (hb : Byt zs) : Rd w v zs := by
  obtain ⟨ao, cap, h1, h2, h3, h4, h6⟩ := h
  exact ⟨ao, cap, h1, h2, h3, h4, hb, h6⟩
theorem sbytes_byt (s : ByteArray) : Byt (T.sbytes s) := by
  intro z hz
  unfold T.sbytes at hz
  obtain ⟨b, _, rfl⟩ := List.mem_map.1 hz
  have := b.toNat_lt
  omega
theorem endG {N : List T.Nd} (h : T.Gd w0 w tb mb N n rs) {w' : World} (hb : Below w.heap.size w w') {P : Prop} (hp : P) : P ∧ T.Gd w0 w' tb mb N n rs ∧ Below w.heap.size w w' := ⟨hp, h.keep hb, hb⟩
/-- That Open tells nothing of m with k. -/
def Shut (w0 : World) (tb mb n : Nat) (N : List T.Nd) (rs : List (Nat × Obj)) (hd : List Int) (k m : Int) : Prop :=
  ∀ w vb, T.Gd w0 w tb mb N n rs → T.Rd .u8 w vb hd → Calls Tryd.prog 22 #[.pointer (some ⟨tb, 0, none⟩), .int .i64 k, vb, .int .i64 m] w fun e w' => e = .returned (.tuple #[.int .i64 0, .bool false]) ∧ T.Gd w0 w' tb mb N n rs ∧ Below w.heap.size w w'
theorem Shut.seal {N : List T.Nd} {hd : ByteArray} {zs : List Int} {k k' m x : Int} (hm : T.IsSeal N m k' hd x) (hb : ¬ (k' = k ∧ hd = T.bstr zs)) : Shut w0 tb mb n N rs zs k m := fun w vb h hr => by
  have := h.openG hm k hr
  have e2 : T.openB k k' hd (T.bstr zs) = false := by
    cases hc : T.openB k k' hd (T.bstr zs) with
    | false => rfl
    | true => exact absurd (by simpa [T.openB] using hc) hb
  rw [e2] at this
  exact this
theorem Shut.no {N : List T.Nd} {zs : List Int} {k m : Int} (hm : T.NoSeal N m) : Shut w0 tb mb n N rs zs k m := fun _ vb h _ => h.openNo hm k vb
set_option maxRecDepth 20000 in
set_option maxHeartbeats 2000000 in
theorem look_shut {N : List T.Nd} (h : T.Gd w0 w tb mb N n rs) {k m : Int} (hs : Shut w0 tb mb n N rs tokH k m) :
    Calls Tryd.prog 10 #[.pointer (some ⟨tb, 0, none⟩), .int .i64 k, .int .i64 m] w fun e w' => TkP w' e 14 none ∧ T.Gd w0 w' tb mb N n rs ∧ Below w.heap.size w w' := by
  obtain ⟨W, hW⟩ : ∃ W, w.alloc (.cells #[.bool false, .int .i64 0, .int .i64 0, .slice none 0 0] 30) = W := ⟨_, rfl⟩
  have hbW : Below w.heap.size w W := by rw [← hW]; exact below_alloc w _
  have hM : W.heap[w.heap.size]? = some (.cells #[.bool false, .int .i64 0, .int .i64 0, .slice none 0 0] 30 (0, 0)) := by rw [← hW]; exact heap_alloc_new w _
  have hcv := T.conv_const
  have b1 := below_alloc W (.cells (T.cs .u8 tokH).toArray 5 ((T.cs .u8 tokH).toArray.size, (T.cs .u8 tokH).toArray.size + 1))
  have c1 := hs _ _ ((h.keep hbW).keep b1) (T.Rd.litM W tokH 5 rfl (by simp))
  have HG := Lib.hid h
  have HM := Lib.hid (And.intro ((b1.block _ (blkLt hM)).trans hM) (hbW.trans (b1.mono hbW.size)))
  clear hs h hbW hM b1
  go_enter Tryd.func10, Tryd.ntmps10
  go_wp2_with fail
  refine c1.mono ?_
  rintro e w1 ⟨rfl, g1, b1⟩
  have c2 := g1.lookNo 0 (.inl (by omega))
  have H1 := Lib.hid (And.intro ((b1.block _ (blkLt HM.out.1)).trans HM.out.1) (HM.out.2.trans (b1.mono HM.out.2.size)))
  clear c1 g1 b1 HM hcv
  go_wp2_with fail
  refine c2.mono ?_
  rintro e w2 ⟨rfl, g2, b2⟩
  have b3 := below_alloc w2 (.cells #[.int .i64 0, .string ByteArray.empty, .slice none 0 0] 54)
  have hM2 := (b2.block _ (blkLt H1.out.1)).trans H1.out.1
  have hM3 := (b3.block _ (blkLt hM2)).trans hM2
  have B2 := H1.out.2.trans (b2.mono H1.out.2.size)
  have H2 := Lib.hid (And.intro hM3 (B2.trans (b3.mono B2.size)))
  obtain ⟨m0, m1, m2, m3, mf⟩ := cells4 hM3
  clear c2 g2 b2 b3 hM2 hM3 B2 H1
  go_wp2_with fail
  refine bodyPost_ret (res_token_Look _ _ w.heap.size _ _ _ _ _ rfl rfl (chain4_row H2.out.1 _ _ _ _)) rfl ?_
  exact endG HG.out ((chain4_but _ _ _ _ _ _).below H2.out.2 (Nat.le_refl _)) rfl
set_option maxRecDepth 20000 in
set_option maxHeartbeats 2000000 in
/-- What is in a sealed one is no text. -/
theorem look_kind {N : List T.Nd} (h : T.Gd w0 w tb mb N n rs) {k m x : Int} (hm : T.IsSeal N m k (T.bstr tokH) x) (hx : 1 ≤ x) {d : T.Nd} (hd : N[(x - 1).toNat]? = some d) (hk : d.1 ≠ 1) :
    Calls Tryd.prog 10 #[.pointer (some ⟨tb, 0, none⟩), .int .i64 k, .int .i64 m] w fun e w' => TkP w' e 14 none ∧ T.Gd w0 w' tb mb N n rs ∧ Below w.heap.size w w' := by
  obtain ⟨W, hW⟩ : ∃ W, w.alloc (.cells #[.bool false, .int .i64 0, .int .i64 0, .slice none 0 0] 30) = W := ⟨_, rfl⟩
  have hbW : Below w.heap.size w W := by rw [← hW]; exact below_alloc w _
  have hM : W.heap[w.heap.size]? = some (.cells #[.bool false, .int .i64 0, .int .i64 0, .slice none 0 0] 30 (0, 0)) := by rw [← hW]; exact heap_alloc_new w _
  have hcv := T.conv_const
  have b1 := below_alloc W (.cells (T.cs .u8 tokH).toArray 5 ((T.cs .u8 tokH).toArray.size, (T.cs .u8 tokH).toArray.size + 1))
  have c1 := ((h.keep hbW).keep b1).openG hm k (T.Rd.litM W tokH 5 rfl (by simp))
  have e2 : T.openB k k (T.bstr tokH) (T.bstr tokH) = true := by simp [T.openB]
  rw [e2] at c1
  simp only [if_true] at c1
  have HG := Lib.hid h
  have HD := Lib.hid (And.intro hx hd)
  have HM := Lib.hid (And.intro ((b1.block _ (blkLt hM)).trans hM) (hbW.trans (b1.mono hbW.size)))
  have q1 : (d.1 != 1) = true := by simp [hk]
  obtain ⟨dk, ds, dp⟩ := d
  simp only at q1
  clear h hbW hM b1 hm hx hd hk e2
  go_enter Tryd.func10, Tryd.ntmps10
  go_wp2_with fail
  refine c1.mono ?_
  rintro e w1 ⟨rfl, g1, b1⟩
  have c2 := g1.lookAt HD.out.1 HD.out.2
  have H1 := Lib.hid (And.intro ((b1.block _ (blkLt HM.out.1)).trans HM.out.1) (HM.out.2.trans (b1.mono HM.out.2.size)))
  clear c1 g1 b1 HM hcv
  go_wp2_with fail
  refine c2.mono ?_
  rintro e w2 ⟨pv, rfl, ho, g2, b2⟩
  obtain ⟨ao, cap, rfl, _, _⟩ := T.own_shape ho
  have b3 := fun o => below_alloc w2 o
  have hM2 := (b2.block _ (blkLt H1.out.1)).trans H1.out.1
  have B2 := H1.out.2.trans (b2.mono H1.out.2.size)
  have hM3 := fun o => ((b3 o).block _ (blkLt hM2)).trans hM2
  have H2 := Lib.hid (And.intro hM3 (fun o => B2.trans ((b3 o).mono B2.size)))
  have m0 := fun o => (cells4 (hM3 o)).1
  have m1 := fun o => (cells4 (hM3 o)).2.1
  have m2 := fun o => (cells4 (hM3 o)).2.2.1
  have m3 := fun o => (cells4 (hM3 o)).2.2.2.1
  have mf := fun o => (cells4 (hM3 o)).2.2.2.2
  clear c2 g2 b2 b3 hM2 hM3 B2 H1 ho
  go_wp2_with fail
  refine bodyPost_ret (res_token_Look _ _ w.heap.size _ _ _ _ _ rfl rfl (chain4_row (H2.out.1 _) _ _ _ _)) rfl ?_
  exact endG HG.out ((chain4_but _ _ _ _ _ _).below (H2.out.2 _) (Nat.le_refl _)) rfl
set_option maxRecDepth 20000 in
set_option maxHeartbeats 1000000 in
theorem look_yes {N : List T.Nd} (h : T.Gd w0 w tb mb N n rs) {k m x : Int} (hm : T.IsSeal N m k (T.bstr tokH) x) {s : ByteArray} (hx : T.Has N x (1, s, [])) (hs : s.size ≤ 2048) :
    Calls Tryd.prog 10 #[.pointer (some ⟨tb, 0, none⟩), .int .i64 k, .int .i64 m] w fun e w' => TkP w' e 14 (tokQ (T.sbytes s)) ∧ T.Gd w0 w' tb mb N n rs ∧ Below w.heap.size w w' := by
  obtain ⟨W, hW⟩ : ∃ W, w.alloc (.cells #[.bool false, .int .i64 0, .int .i64 0, .slice none 0 0] 30) = W := ⟨_, rfl⟩
  have hbW : Below w.heap.size w W := by rw [← hW]; exact below_alloc w _
  have hM : W.heap[w.heap.size]? = some (.cells #[.bool false, .int .i64 0, .int .i64 0, .slice none 0 0] 30 (0, 0)) := by rw [← hW]; exact heap_alloc_new w _
  have hcv := T.conv_const
  have b1 := below_alloc W (.cells (T.cs .u8 tokH).toArray 5 ((T.cs .u8 tokH).toArray.size, (T.cs .u8 tokH).toArray.size + 1))
  have c1 := ((h.keep hbW).keep b1).openG hm k (T.Rd.litM W tokH 5 rfl (by simp))
  have e2 : T.openB k k (T.bstr tokH) (T.bstr tokH) = true := by simp [T.openB]
  rw [e2] at c1
  simp only [if_true] at c1
  have HG := Lib.hid h
  have HD := Lib.hid (And.intro hx hs)
  obtain ⟨r, hq⟩ : ∃ r, tokQ (T.sbytes s) = r := ⟨_, rfl⟩
  rw [hq]
  have HQ := Lib.hid hq
  have HM := Lib.hid (And.intro ((b1.block _ (blkLt hM)).trans hM) (hbW.trans (b1.mono hbW.size)))
  clear h hbW hM b1 hm hx hs e2 hq
  go_enter Tryd.func10, Tryd.ntmps10
  go_wp2_with fail
  refine c1.mono ?_
  rintro e w1 ⟨rfl, g1, b1⟩
  have c2 := g1.st.look1 HD.out.1
  have H1 := Lib.hid (And.intro ((b1.block _ (blkLt HM.out.1)).trans HM.out.1) (HM.out.2.trans (b1.mono HM.out.2.size)))
  clear c1 g1 b1 HM hcv
  go_wp2_with fail
  refine c2.mono ?_
  rintro e w2 ⟨ao, cap, rfl, _, b2⟩
  have hM2 := (b2.block _ (blkLt H1.out.1)).trans H1.out.1
  have B2 := H1.out.2.trans (b2.mono H1.out.2.size)
  have b3 := below_alloc w2 (.cells #[.int .i64 1, .string s, .slice ao 0 cap] 54)
  obtain ⟨cp, w3, hv, hr, b4⟩ := T.conv_strP (w2.alloc (.cells #[.int .i64 1, .string s, .slice ao 0 cap] 54)) s (by have := HD.out.2; unfold maxLen; omega)
  have c3 := tread_any (w := w3) (zs := T.sbytes s) (by rw [T.sbytes_len]; exact Rd.ofT hr (sbytes_byt s)) (.inr ⟨_, _, _, _, rfl⟩) (by rw [T.sbytes_len]; exact HD.out.2)
  rw [T.sbytes_len, HQ.out, World.size_alloc] at c3
  have hM3 := (b4.block _ (blkLt ((b3.block _ (blkLt hM2)).trans hM2))).trans ((b3.block _ (blkLt hM2)).trans hM2)
  have B3 := B2.trans (b3.mono B2.size)
  have B4 := B3.trans (b4.mono B3.size)
  have H3 := Lib.hid (And.intro hM3 B4)
  clear c2 b2 b3 hM2 hM3 B2 H1 B3 B4 b4 hr
  go_wp2_with fail
  refine c3.mono ?_
  rintro e w4 hp
  clear c3 hv
  cases r with
  | none =>
    obtain ⟨rfl, b5⟩ := hp
    have hM4 := (b5.block _ (blkLt H3.out.1)).trans H3.out.1
    have B5 := H3.out.2.trans (b5.mono H3.out.2.size)
    have hM5 := fun o => ((below_alloc w4 o).block _ (blkLt hM4)).trans hM4
    have H5 := Lib.hid (And.intro hM5 (fun o => B5.trans ((below_alloc w4 o).mono B5.size)))
    have m0 := fun o => (cells4 (hM5 o)).1
    have m1 := fun o => (cells4 (hM5 o)).2.1
    have m2 := fun o => (cells4 (hM5 o)).2.2.1
    have m3 := fun o => (cells4 (hM5 o)).2.2.2.1
    have mf := fun o => (cells4 (hM5 o)).2.2.2.2
    clear b5 hM4 B5 hM5 H3
    go_wp2_with fail
    refine bodyPost_ret (res_token_Look _ _ w.heap.size _ _ _ _ _ rfl rfl (chain4_row (H5.out.1 _) _ _ _ _)) rfl ?_
    exact endG HG.out ((chain4_but _ _ _ _ _ _).below (H5.out.2 _) (Nat.le_refl _)) rfl
  | some r =>
    obtain ⟨l, a, t, nm⟩ := r
    obtain ⟨vn, rfl, rn, b5⟩ := hp
    have hM4 := (b5.block _ (blkLt H3.out.1)).trans H3.out.1
    have B5 := H3.out.2.trans (b5.mono H3.out.2.size)
    have hM5 := fun o => ((below_alloc w4 o).block _ (blkLt hM4)).trans hM4
    have H5 := Lib.hid (And.intro hM5 (And.intro (fun o => B5.trans ((below_alloc w4 o).mono B5.size)) (fun o => rn.below (below_alloc w4 o))))
    have m0 := fun o => (cells4 (hM5 o)).1
    have m1 := fun o => (cells4 (hM5 o)).2.1
    have m2 := fun o => (cells4 (hM5 o)).2.2.1
    have m3 := fun o => (cells4 (hM5 o)).2.2.2.1
    have mf := fun o => (cells4 (hM5 o)).2.2.2.2
    obtain ⟨an, cn, rfl⟩ := rn.shape
    clear b5 hM4 B5 hM5 H3 rn
    go_wp2_with fail
    refine bodyPost_ret (res_token_Look _ _ w.heap.size _ _ _ _ _ rfl rfl (chain4_row (H5.out.1 _) _ _ _ _)) rfl ?_
    refine endG HG.out ((chain4_but _ _ _ _ _ _).below (H5.out.2.1 _) (Nat.le_refl _)) ⟨_, rfl, (H5.out.2.2 _).but (chain4_but _ _ _ _ _ _) (H5.out.1 _) ?_⟩
    intro c e f hc x hx z
    cases hc
    simp at hx
    rcases hx with rfl | rfl | rfl | rfl <;> simp
#print axioms look_yes
end Go.Proofs.YtepkhhpdpmhfaaaDoor
