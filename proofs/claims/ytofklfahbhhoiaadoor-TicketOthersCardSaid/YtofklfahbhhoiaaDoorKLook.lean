/- token's Look and Check: what a term says as a token. -/
import Derived.Test.YtofklfahbhhoiaaDoorKMint
import Derived.Test.YtofklfahbhhoiaaDoorKRead
namespace Go.Proofs.YtofklfahbhhoiaaDoor
open Go Go.RowKit

variable {w0 w : World} {tb mb n : Nat} {rs : List (Nat × Obj)}
/-- What Look tells: the token, or the error. -/
def TkP (w' : World) (e : Ending) (er : Int) : Option (Bool × Int × Int × List Int) → Prop
  | none => e = .returned (.tuple #[.agg #[.bool false, .int .i64 0, .int .i64 0, .slice none 0 0], .int .i64 er])
  | some (l, a, t, nm) => ∃ vn, e = .returned (.tuple #[.agg #[.bool l, .int .i64 a, .int .i64 t, vn], .int .i64 0]) ∧ Rd w' vn nm
theorem Rd.ofT {w : World} {v : Value} {zs : List Int} (h : T.Rd .u8 w v zs) (hb : Byt zs) : Rd w v zs := by
  obtain ⟨ao, cap, h1, h2, h3, h4, h6⟩ := h
  exact ⟨ao, cap, h1, h2, h3, h4, hb, h6⟩
theorem sbytes_byt (s : ByteArray) : Byt (T.sbytes s) := by
  intro z hz
  unfold T.sbytes at hz
  obtain ⟨b, _, rfl⟩ := List.mem_map.1 hz
  have := b.toNat_lt
  omega
theorem endG {N : List T.Nd} (h : T.Gd w0 w tb mb N n rs) {w' : World} (hb : Below w.heap.size w w') {P : Prop} (hp : P) : P ∧ T.Gd w0 w' tb mb N n rs ∧ Below w.heap.size w w' := ⟨hp, h.keep hb, hb⟩
/-- That Open tells nothing of m with k. -/
def Shut (w0 : World) (tb mb n : Nat) (N : List T.Nd) (rs : List (Nat × Obj)) (hd : List Int) (k m : Int) : Prop :=
  ∀ w vb, T.Gd w0 w tb mb N n rs → T.Rd .u8 w vb hd → Calls Tryd.prog 17 #[.pointer (some ⟨tb, 0, none⟩), .int .i64 k, vb, .int .i64 m] w fun e w' => e = .returned (.tuple #[.int .i64 0, .bool false]) ∧ T.Gd w0 w' tb mb N n rs ∧ Below w.heap.size w w'
theorem Shut.seal {N : List T.Nd} {hd : ByteArray} {zs : List Int} {k k' m x : Int} (hm : T.IsSeal N m k' hd x) (hb : ¬ (k' = k ∧ hd = T.bstr zs)) : Shut w0 tb mb n N rs zs k m := fun w vb h hr => by
  have := h.openG hm k hr
  have e2 : T.openB k k' hd (T.bstr zs) = false := by
    cases hc : T.openB k k' hd (T.bstr zs) with
    | false => rfl
    | true => exact absurd (by simpa [T.openB] using hc) hb
  rw [e2] at this
  exact this
theorem Shut.no {N : List T.Nd} {zs : List Int} {k m : Int} (hm : T.NoSeal N m) : Shut w0 tb mb n N rs zs k m := fun _ vb h _ => h.openNo hm k vb
set_option maxRecDepth 20000 in
set_option maxHeartbeats 2000000 in
theorem look_shut {N : List T.Nd} (h : T.Gd w0 w tb mb N n rs) {k m : Int} (hs : Shut w0 tb mb n N rs tokH k m) :
    Calls Tryd.prog 19 #[.pointer (some ⟨tb, 0, none⟩), .int .i64 k, .int .i64 m] w fun e w' => TkP w' e 14 none ∧ T.Gd w0 w' tb mb N n rs ∧ Below w.heap.size w w' := by
  obtain ⟨W, hW⟩ : ∃ W, w.alloc (.cells #[.bool false, .int .i64 0, .int .i64 0, .slice none 0 0] 32) = W := ⟨_, rfl⟩
  have hbW : Below w.heap.size w W := by rw [← hW]; exact below_alloc w _
  have hM : W.heap[w.heap.size]? = some (.cells #[.bool false, .int .i64 0, .int .i64 0, .slice none 0 0] 32 (0, 0)) := by rw [← hW]; exact heap_alloc_new w _
  have hcv := T.conv_const
  have b1 := below_alloc W (.cells (T.cs .u8 tokH).toArray 5 ((T.cs .u8 tokH).toArray.size, (T.cs .u8 tokH).toArray.size + 1))
  have c1 := hs _ _ ((h.keep hbW).keep b1) (T.Rd.litM W tokH 5 rfl (by simp))
  have HG := Lib.hid h
  have HM := Lib.hid (And.intro ((b1.block _ (blkLt hM)).trans hM) (hbW.trans (b1.mono hbW.size)))
  clear hs h hbW hM b1
  go_enter Tryd.func19, Tryd.ntmps19
  go_wp2_with fail
  refine c1.mono ?_
  rintro e w1 ⟨rfl, g1, b1⟩
  have c2 := g1.lookNo 0 (.inl (by omega))
  have H1 := Lib.hid (And.intro ((b1.block _ (blkLt HM.out.1)).trans HM.out.1) (HM.out.2.trans (b1.mono HM.out.2.size)))
  clear c1 g1 b1 HM hcv
  go_wp2_with fail
  refine c2.mono ?_
  rintro e w2 ⟨rfl, g2, b2⟩
  have b3 := below_alloc w2 (.cells #[.int .i64 0, .string ByteArray.empty, .slice none 0 0] 40)
  have hM2 := (b2.block _ (blkLt H1.out.1)).trans H1.out.1
  have hM3 := (b3.block _ (blkLt hM2)).trans hM2
  have B2 := H1.out.2.trans (b2.mono H1.out.2.size)
  have H2 := Lib.hid (And.intro hM3 (B2.trans (b3.mono B2.size)))
  obtain ⟨m0, m1, m2, m3, mf⟩ := cells4 hM3
  clear c2 g2 b2 b3 hM2 hM3 B2 H1
  go_wp2_with fail
  refine bodyPost_ret (res_token_Look _ _ w.heap.size _ _ _ _ _ rfl rfl (chain4_row H2.out.1 _ _ _ _)) rfl ?_
  exact endG HG.out ((chain4_but _ _ _ _ _ _).below H2.out.2 (Nat.le_refl _)) rfl
set_option maxRecDepth 20000 in
set_option maxHeartbeats 2000000 in
/-- What is in a sealed one is no text. -/
theorem look_kind {N : List T.Nd} (h : T.Gd w0 w tb mb N n rs) {k m x : Int} (hm : T.IsSeal N m k (T.bstr tokH) x) (hx : 1 ≤ x) {d : T.Nd} (hd : N[(x - 1).toNat]? = some d) (hk : d.1 ≠ 1) :
    Calls Tryd.prog 19 #[.pointer (some ⟨tb, 0, none⟩), .int .i64 k, .int .i64 m] w fun e w' => TkP w' e 14 none ∧ T.Gd w0 w' tb mb N n rs ∧ Below w.heap.size w w' := by
  obtain ⟨W, hW⟩ : ∃ W, w.alloc (.cells #[.bool false, .int .i64 0, .int .i64 0, .slice none 0 0] 32) = W := ⟨_, rfl⟩
  have hbW : Below w.heap.size w W := by rw [← hW]; exact below_alloc w _
  have hM : W.heap[w.heap.size]? = some (.cells #[.bool false, .int .i64 0, .int .i64 0, .slice none 0 0] 32 (0, 0)) := by rw [← hW]; exact heap_alloc_new w _
  have hcv := T.conv_const
  have b1 := below_alloc W (.cells (T.cs .u8 tokH).toArray 5 ((T.cs .u8 tokH).toArray.size, (T.cs .u8 tokH).toArray.size + 1))
  have c1 := ((h.keep hbW).keep b1).openG hm k (T.Rd.litM W tokH 5 rfl (by simp))
  have e2 : T.openB k k (T.bstr tokH) (T.bstr tokH) = true := by simp [T.openB]
  rw [e2] at c1
  simp only [if_true] at c1
  have HG := Lib.hid h
  have HD := Lib.hid (And.intro hx hd)
  have HM := Lib.hid (And.intro ((b1.block _ (blkLt hM)).trans hM) (hbW.trans (b1.mono hbW.size)))
  have q1 : (d.1 != 1) = true := by simp [hk]
  obtain ⟨dk, ds, dp⟩ := d
  simp only at q1
  clear h hbW hM b1 hm hx hd hk e2
  go_enter Tryd.func19, Tryd.ntmps19
  go_wp2_with fail
  refine c1.mono ?_
  rintro e w1 ⟨rfl, g1, b1⟩
  have c2 := g1.lookAt HD.out.1 HD.out.2
  have H1 := Lib.hid (And.intro ((b1.block _ (blkLt HM.out.1)).trans HM.out.1) (HM.out.2.trans (b1.mono HM.out.2.size)))
  clear c1 g1 b1 HM hcv
  go_wp2_with fail
  refine c2.mono ?_
  rintro e w2 ⟨pv, rfl, ho, g2, b2⟩
  obtain ⟨ao, cap, rfl, _, _⟩ := T.own_shape ho
  have b3 := fun o => below_alloc w2 o
  have hM2 := (b2.block _ (blkLt H1.out.1)).trans H1.out.1
  have B2 := H1.out.2.trans (b2.mono H1.out.2.size)
  have hM3 := fun o => ((b3 o).block _ (blkLt hM2)).trans hM2
  have H2 := Lib.hid (And.intro hM3 (fun o => B2.trans ((b3 o).mono B2.size)))
  have m0 := fun o => (cells4 (hM3 o)).1
  have m1 := fun o => (cells4 (hM3 o)).2.1
  have m2 := fun o => (cells4 (hM3 o)).2.2.1
  have m3 := fun o => (cells4 (hM3 o)).2.2.2.1
  have mf := fun o => (cells4 (hM3 o)).2.2.2.2
  clear c2 g2 b2 b3 hM2 hM3 B2 H1 ho
  go_wp2_with fail
  refine bodyPost_ret (res_token_Look _ _ w.heap.size _ _ _ _ _ rfl rfl (chain4_row (H2.out.1 _) _ _ _ _)) rfl ?_
  exact endG HG.out ((chain4_but _ _ _ _ _ _).below (H2.out.2 _) (Nat.le_refl _)) rfl
set_option maxRecDepth 20000 in
set_option maxHeartbeats 1000000 in
theorem look_yes {N : List T.Nd} (h : T.Gd w0 w tb mb N n rs) {k m x : Int} (hm : T.IsSeal N m k (T.bstr tokH) x) {s : ByteArray} (hx : T.Has N x (1, s, [])) (hs : s.size ≤ 2048) :
    Calls Tryd.prog 19 #[.pointer (some ⟨tb, 0, none⟩), .int .i64 k, .int .i64 m] w fun e w' => TkP w' e 14 (tokQ (T.sbytes s)) ∧ T.Gd w0 w' tb mb N n rs ∧ Below w.heap.size w w' := by
  obtain ⟨W, hW⟩ : ∃ W, w.alloc (.cells #[.bool false, .int .i64 0, .int .i64 0, .slice none 0 0] 32) = W := ⟨_, rfl⟩
  have hbW : Below w.heap.size w W := by rw [← hW]; exact below_alloc w _
  have hM : W.heap[w.heap.size]? = some (.cells #[.bool false, .int .i64 0, .int .i64 0, .slice none 0 0] 32 (0, 0)) := by rw [← hW]; exact heap_alloc_new w _
  have hcv := T.conv_const
  have b1 := below_alloc W (.cells (T.cs .u8 tokH).toArray 5 ((T.cs .u8 tokH).toArray.size, (T.cs .u8 tokH).toArray.size + 1))
  have c1 := ((h.keep hbW).keep b1).openG hm k (T.Rd.litM W tokH 5 rfl (by simp))
  have e2 : T.openB k k (T.bstr tokH) (T.bstr tokH) = true := by simp [T.openB]
  rw [e2] at c1
  simp only [if_true] at c1
  have HG := Lib.hid h
  have HD := Lib.hid (And.intro hx hs)
  obtain ⟨r, hq⟩ : ∃ r, tokQ (T.sbytes s) = r := ⟨_, rfl⟩
  rw [hq]
  have HQ := Lib.hid hq
  have HM := Lib.hid (And.intro ((b1.block _ (blkLt hM)).trans hM) (hbW.trans (b1.mono hbW.size)))
  clear h hbW hM b1 hm hx hs e2 hq
  go_enter Tryd.func19, Tryd.ntmps19
  go_wp2_with fail
  refine c1.mono ?_
  rintro e w1 ⟨rfl, g1, b1⟩
  have c2 := g1.st.look1 HD.out.1
  have H1 := Lib.hid (And.intro ((b1.block _ (blkLt HM.out.1)).trans HM.out.1) (HM.out.2.trans (b1.mono HM.out.2.size)))
  clear c1 g1 b1 HM hcv
  go_wp2_with fail
  refine c2.mono ?_
  rintro e w2 ⟨ao, cap, rfl, _, b2⟩
  have hM2 := (b2.block _ (blkLt H1.out.1)).trans H1.out.1
  have B2 := H1.out.2.trans (b2.mono H1.out.2.size)
  have b3 := below_alloc w2 (.cells #[.int .i64 1, .string s, .slice ao 0 cap] 40)
  obtain ⟨cp, w3, hv, hr, b4⟩ := T.conv_strP (w2.alloc (.cells #[.int .i64 1, .string s, .slice ao 0 cap] 40)) s (by have := HD.out.2; unfold maxLen; omega)
  have c3 := tread_any (w := w3) (zs := T.sbytes s) (by rw [T.sbytes_len]; exact Rd.ofT hr (sbytes_byt s)) (.inr ⟨_, _, _, _, rfl⟩) (by rw [T.sbytes_len]; exact HD.out.2)
  rw [T.sbytes_len, HQ.out, World.size_alloc] at c3
  have hM3 := (b4.block _ (blkLt ((b3.block _ (blkLt hM2)).trans hM2))).trans ((b3.block _ (blkLt hM2)).trans hM2)
  have B3 := B2.trans (b3.mono B2.size)
  have B4 := B3.trans (b4.mono B3.size)
  have H3 := Lib.hid (And.intro hM3 B4)
  clear c2 b2 b3 hM2 hM3 B2 H1 B3 B4 b4 hr
  go_wp2_with fail
  refine c3.mono ?_
  rintro e w4 hp
  clear c3 hv
  cases r with
  | none =>
    obtain ⟨rfl, b5⟩ := hp
    have hM4 := (b5.block _ (blkLt H3.out.1)).trans H3.out.1
    have B5 := H3.out.2.trans (b5.mono H3.out.2.size)
    have hM5 := fun o => ((below_alloc w4 o).block _ (blkLt hM4)).trans hM4
    have H5 := Lib.hid (And.intro hM5 (fun o => B5.trans ((below_alloc w4 o).mono B5.size)))
    have m0 := fun o => (cells4 (hM5 o)).1
    have m1 := fun o => (cells4 (hM5 o)).2.1
    have m2 := fun o => (cells4 (hM5 o)).2.2.1
    have m3 := fun o => (cells4 (hM5 o)).2.2.2.1
    have mf := fun o => (cells4 (hM5 o)).2.2.2.2
    clear b5 hM4 B5 hM5 H3
    go_wp2_with fail
    refine bodyPost_ret (res_token_Look _ _ w.heap.size _ _ _ _ _ rfl rfl (chain4_row (H5.out.1 _) _ _ _ _)) rfl ?_
    exact endG HG.out ((chain4_but _ _ _ _ _ _).below (H5.out.2 _) (Nat.le_refl _)) rfl
  | some r =>
    obtain ⟨l, a, t, nm⟩ := r
    obtain ⟨vn, rfl, rn, b5⟩ := hp
    have hM4 := (b5.block _ (blkLt H3.out.1)).trans H3.out.1
    have B5 := H3.out.2.trans (b5.mono H3.out.2.size)
    have hM5 := fun o => ((below_alloc w4 o).block _ (blkLt hM4)).trans hM4
    have H5 := Lib.hid (And.intro hM5 (And.intro (fun o => B5.trans ((below_alloc w4 o).mono B5.size)) (fun o => rn.below (below_alloc w4 o))))
    have m0 := fun o => (cells4 (hM5 o)).1
    have m1 := fun o => (cells4 (hM5 o)).2.1
    have m2 := fun o => (cells4 (hM5 o)).2.2.1
    have m3 := fun o => (cells4 (hM5 o)).2.2.2.1
    have mf := fun o => (cells4 (hM5 o)).2.2.2.2
    obtain ⟨an, cn, rfl⟩ := rn.shape
    clear b5 hM4 B5 hM5 H3 rn
    go_wp2_with fail
    refine bodyPost_ret (res_token_Look _ _ w.heap.size _ _ _ _ _ rfl rfl (chain4_row (H5.out.1 _) _ _ _ _)) rfl ?_
    refine endG HG.out ((chain4_but _ _ _ _ _ _).below (H5.out.2.1 _) (Nat.le_refl _)) ⟨_, rfl, (H5.out.2.2 _).but (chain4_but _ _ _ _ _ _) (H5.out.1 _) ?_⟩
    intro c e f hc x hx z
    cases hc
    simp at hx
    rcases hx with rfl | rfl | rfl | rfl <;> simp
#print axioms look_yes
end Go.Proofs.YtofklfahbhhoiaaDoor
