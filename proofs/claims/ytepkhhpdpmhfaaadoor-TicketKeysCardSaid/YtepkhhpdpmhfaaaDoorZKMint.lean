/- token's Mint: the token's term; none, if it may not be. -/
import Derived.Test.YtepkhhpdpmhfaaaDoorZKRText
import Derived.Test.YtepkhhpdpmhfaaaDoorZTWGd
namespace Go.Proofs.YtepkhhpdpmhfaaaDoor
open Go Go.RowKit

theorem Rd.toT {w : World} {v : Value} {zs : List Int} (h : Rd w v zs) : T.Rd .u8 w v zs := by
  obtain ⟨ao, cap, h1, h2, h3, h4, _, h6⟩ := h
  exact ⟨ao, cap, h1, h2, h3, h4, h6⟩
theorem bstr_inj {zs ys : List Int} (h1 : Byt zs) (h2 : Byt ys) (h : T.bstr zs = T.bstr ys) : zs = ys := by
  have key : ∀ (l : List Int) (r : ByteArray), (l.foldl (fun r n => r.push (UInt8.ofNat n.toNat)) r).data.toList = r.data.toList ++ l.map fun n => UInt8.ofNat n.toNat := by
    intro l
    induction l with
    | nil => intro r; simp
    | cons b l ih =>
      intro r
      simp only [List.foldl_cons, List.map_cons]
      rw [ih]
      simp [ByteArray.push]
  have e : zs.map (fun n => UInt8.ofNat n.toNat) = ys.map (fun n => UInt8.ofNat n.toNat) := by
    have a := key zs ByteArray.empty
    have b := key ys ByteArray.empty
    have h' : (zs.foldl (fun r n => r.push (UInt8.ofNat n.toNat)) ByteArray.empty) = (ys.foldl (fun r n => r.push (UInt8.ofNat n.toNat)) ByteArray.empty) := h
    rw [h'] at a
    rw [a] at b
    exact List.append_cancel_left b
  clear h key
  induction zs generalizing ys with
  | nil => cases ys with
    | nil => rfl
    | cons y ys => simp at e
  | cons z zs ih =>
    cases ys with
    | nil => simp at e
    | cons y ys =>
      simp only [List.map_cons, List.cons.injEq] at e
      have hz := h1 z (by simp)
      have hy := h2 y (by simp)
      have e1 := congrArg UInt8.toNat e.1
      simp only [UInt8.toNat_ofNat'] at e1
      rw [ih (fun x hx => h1 x (by simp [hx])) (fun x hx => h2 x (by simp [hx])) e.2, show z = y by omega]
theorem TRd.same {w w' : World} {g n cap off : Nat} {zs : List Int} (h : T.Rd .u8 w (.slice (some ⟨g, off, none⟩) n cap) zs) (hb : w'.heap[g]? = w.heap[g]?) : T.Rd .u8 w' (.slice (some ⟨g, off, none⟩) n cap) zs := by
  obtain ⟨a2, c2, h1, h2, h3, h4, h6⟩ := h
  simp only [Value.slice.injEq] at h1
  obtain ⟨rfl, rfl, rfl⟩ := h1
  refine ⟨some ⟨g, off, none⟩, cap, rfl, h2, h3, h4, fun a ha j hj => ?_⟩
  cases ha
  rw [← h6 _ rfl j hj]
  unfold World.cell?
  rw [Addr.add_lit]
  simp only
  rw [hb]
/-- Do two tokens say the same? -/
def toldB (l : Bool) (a t : Int) (nm : List Int) (l' : Bool) (a' t' : Int) (nm' : List Int) : Bool := decide (l = l') && (decide (a = a') && (decide (t = t') && decide (nm = nm')))
theorem toldB_iff {l l' : Bool} {a a' t t' : Int} {nm nm' : List Int} : toldB l a t nm l' a' t' nm' = true ↔ l = l' ∧ a = a' ∧ t = t' ∧ nm = nm' := by simp [toldB]
theorem retB {a b : Bool} (h : a = b) : Ending.returned (.bool a) = .returned (.bool b) := by rw [h]
set_option maxRecDepth 20000 in
set_option maxHeartbeats 2000000 in
theorem told_any {w : World} {v v' : Value} {nm nm' : List Int} {l l' : Bool} {a t a' t' : Int} (hx : Rd w v nm) (hy : Rd w v' nm') :
    Calls Tryd.prog 11 #[.agg #[.bool l, .int .i64 a, .int .i64 t, v], .agg #[.bool l', .int .i64 a', .int .i64 t', v']] w fun e w' => e = .returned (.bool (toldB l a t nm l' a' t' nm')) ∧ Below w.heap.size w w' := by
  obtain ⟨W, hW⟩ : ∃ W, (w.alloc (.cells #[.bool l, .int .i64 a, .int .i64 t, v] 30)).alloc (.cells #[.bool l', .int .i64 a', .int .i64 t', v'] 24) = W := ⟨_, rfl⟩
  have hbW : Below w.heap.size w W := by rw [← hW]; exact ((Below.refl _ _).alloc (Nat.le_refl _) _).alloc (by simp) _
  have hM : W.heap[w.heap.size]? = some (.cells #[.bool l, .int .i64 a, .int .i64 t, v] 30 (0, 0)) := by rw [← hW, (below_alloc _ _).block _ (by simp)]; exact heap_alloc_new w _
  have hM2 : W.heap[w.heap.size + 1]? = some (.cells #[.bool l', .int .i64 a', .int .i64 t', v'] 24 (0, 0)) := by
    rw [← hW]
    have := heap_alloc_new (w.alloc (.cells #[.bool l, .int .i64 a, .int .i64 t, v] 30)) (.cells #[.bool l', .int .i64 a', .int .i64 t', v'] 24)
    rw [World.size_alloc] at this
    exact this
  obtain ⟨m0, m1, m2, m3, mf⟩ := cells4 hM
  obtain ⟨n0, n1, n2, n3, nf⟩ := cells4 hM2
  have k1 := T.conv_any (hx.below hbW).toT
  have k2 := T.conv_any (hy.below hbW).toT
  have HB := Lib.hid (And.intro hx.byt hy.byt)
  have HT : Hid (toldB l a t nm l' a' t' nm' = (decide (l = l') && (decide (a = a') && (decide (t = t') && decide (nm = nm'))))) := Lib.hid rfl
  generalize toldB l a t nm l' a' t' nm' = R at *
  obtain ⟨ax, cx, rfl⟩ := hx.shape'
  obtain ⟨ay, cy, rfl⟩ := hy.shape'
  have HW := Lib.hid hbW
  clear hbW hM hM2 hx hy
  by_cases q1 : l = l'
  · subst q1
    have p1 : (l == l) = true := by simp
    by_cases q2 : a = a'
    · subst q2
      have p2 : (a == a) = true := by simp
      by_cases q3 : t = t'
      · subst q3
        have p3 : (t == t) = true := by simp
        by_cases q4 : nm = nm'
        · subst q4
          have HR : Hid (R = true) := Lib.hid (by rw [HT.out]; simp)
          have p4 : ((T.bstr nm).toList == (T.bstr nm).toList) = true := by simp
          go_enter Tryd.func11, Tryd.ntmps11
          go_wp2_with fail
          go_ret
          exact ⟨retB (by rw [HR.out]), HW.out⟩
        · have HR : Hid (R = false) := Lib.hid (by rw [HT.out]; simp [q4])
          have p4 : ((T.bstr nm).toList == (T.bstr nm').toList) = false := by
            have := T.str_ne (fun e => q4 (bstr_inj HB.out.1 HB.out.2 e))
            simpa using this
          go_enter Tryd.func11, Tryd.ntmps11
          go_wp2_with fail
          go_ret
          exact ⟨retB (by rw [HR.out]), HW.out⟩
      · have HR : Hid (R = false) := Lib.hid (by rw [HT.out]; simp [q3])
        have p3 : (t == t') = false := by simp [q3]
        go_enter Tryd.func11, Tryd.ntmps11
        go_wp2_with fail
        go_ret
        exact ⟨retB (by rw [HR.out]), HW.out⟩
    · have HR : Hid (R = false) := Lib.hid (by rw [HT.out]; simp [q2])
      have p2 : (a == a') = false := by simp [q2]
      go_enter Tryd.func11, Tryd.ntmps11
      go_wp2_with fail
      go_ret
      exact ⟨retB (by rw [HR.out]), HW.out⟩
  · have HR : Hid (R = false) := Lib.hid (by rw [HT.out]; simp [q1])
    have p1 : (l == l') = false := by simp [q1]
    go_enter Tryd.func11, Tryd.ntmps11
    go_wp2_with fail
    go_ret
    exact ⟨retB (by rw [HR.out]), HW.out⟩
#print axioms told_any
end Go.Proofs.YtepkhhpdpmhfaaaDoor
namespace Go.Proofs.YtepkhhpdpmhfaaaDoor
open Go Go.RowKit

variable {w0 w : World} {tb mb n : Nat} {rs : List (Nat × Obj)}
/-- The head of a token. -/
abbrev tokH : List Int := [116, 111, 107, 101, 110]
/-- c is a token with the key k, of the text b. -/
def T.IsTok (M : List T.Nd) (c k : Int) (b : ByteArray) : Prop := ∃ x, T.Has M x (1, b, []) ∧ T.IsSeal M c k (T.bstr tokH) x
theorem T.IsTok.ext {M M' : List T.Nd} {c k : Int} {b : ByteArray} (h : T.IsTok M c k b) (hp : M <+: M') : T.IsTok M' c k b := by
  obtain ⟨x, h1, h2⟩ := h; exact ⟨x, h1.ext hp, h2.ext hp⟩
set_option maxRecDepth 20000 in
set_option maxHeartbeats 2000000 in
theorem mint_no {N : List T.Nd} (h : T.Gd w0 w tb mb N n rs) {k a t : Int} {l : Bool} {ao : Option Addr} {cap : Nat} {nm : List Int} (hok : tokOk a t nm.length = false) :
    Calls Tryd.prog 7 #[.pointer (some ⟨tb, 0, none⟩), .int .i64 k, .agg #[.bool l, .int .i64 a, .int .i64 t, .slice ao nm.length cap]] w fun e w' => e = .returned (.int .i64 0) ∧ T.Gd w0 w' tb mb N n rs ∧ Below w.heap.size w w' := by
  obtain ⟨W, hW⟩ : ∃ W, w.alloc (.cells #[.bool l, .int .i64 a, .int .i64 t, .slice ao nm.length cap] 30) = W := ⟨_, rfl⟩
  have hbW : Below w.heap.size w W := by rw [← hW]; exact below_alloc w _
  have hM : W.heap[w.heap.size]? = some (.cells #[.bool l, .int .i64 a, .int .i64 t, .slice ao nm.length cap] 30 (0, 0)) := by rw [← hW]; exact heap_alloc_new w _
  obtain ⟨m0, m1, m2, m3, mf⟩ := cells4 hM
  have z1 := size_any a W
  have z2 := size_any t W
  have HW := Lib.hid (And.intro (h.keep hbW) hbW)
  unfold tokOk at hok
  generalize sz a = sa at *
  generalize sz t = st at *
  clear hbW hM h
  by_cases q1 : sa = 0
  · have q1' : (sa == 0) = true := by simp [q1]
    clear q1 hok
    go_enter Tryd.func7, Tryd.ntmps7
    go_wp2_with fail
    refine z1.mono ?_
    rintro e w1 ⟨rfl, rfl⟩
    clear z1
    go_wp2_with fail
    go_ret
    exact ⟨rfl, HW.out⟩
  · have q1' : (sa == 0) = false := by simp [q1]
    by_cases q2 : st = 0
    · have q2' : (st == 0) = true := by simp [q2]
      clear q1 q2 hok
      go_enter Tryd.func7, Tryd.ntmps7
      go_wp2_with fail
      refine z1.mono ?_
      rintro e w1 ⟨rfl, rfl⟩
      clear z1
      go_wp2_with fail
      refine z2.mono ?_
      rintro e w1 ⟨rfl, rfl⟩
      clear z2
      go_wp2_with fail
      go_ret
      exact ⟨rfl, HW.out⟩
    · have q2' : (st == 0) = false := by simp [q2]
      have q3 : 20 < nm.length := by simp [q1', q2'] at hok; exact hok
      have q3' : 20 < (nm.length : Int) := by omega
      clear q1 q2 hok q3
      go_enter Tryd.func7, Tryd.ntmps7
      go_wp2_with fail
      refine z1.mono ?_
      rintro e w1 ⟨rfl, rfl⟩
      clear z1
      go_wp2_with fail
      refine z2.mono ?_
      rintro e w1 ⟨rfl, rfl⟩
      clear z2
      go_wp2_with fail
      go_ret
      exact ⟨rfl, HW.out⟩
set_option maxRecDepth 20000 in
set_option maxHeartbeats 2000000 in
theorem mint_yes {N : List T.Nd} (h : T.Gd w0 w tb mb N n rs) {k a t : Int} {l : Bool} {ao : Option Addr} {cap : Nat} {nm : List Int} (hok : tokOk a t nm.length = true) (hk : 1 ≤ k ∧ k ≤ (N.length : Int)) (hr : Rd w (.slice ao nm.length cap) nm) (ht : Tab w0) (hw : 1 < w0.heap.size) (hn : n ≤ 50000) :
    Calls Tryd.prog 7 #[.pointer (some ⟨tb, 0, none⟩), .int .i64 k, .agg #[.bool l, .int .i64 a, .int .i64 t, .slice ao nm.length cap]] w fun e w' => T.Tells w0 w' tb mb (n + 3) N rs e fun M c => T.IsTok M c k (T.bstr (tokB l a t nm)) := by
  obtain ⟨W, hW⟩ : ∃ W, w.alloc (.cells #[.bool l, .int .i64 a, .int .i64 t, .slice ao nm.length cap] 30) = W := ⟨_, rfl⟩
  have hbW : Below w.heap.size w W := by rw [← hW]; exact below_alloc w _
  have hM : W.heap[w.heap.size]? = some (.cells #[.bool l, .int .i64 a, .int .i64 t, .slice ao nm.length cap] 30 (0, 0)) := by rw [← hW]; exact heap_alloc_new w _
  obtain ⟨m0, m1, m2, m3, mf⟩ := cells4 hM
  have z1 := size_any a W
  have z2 := size_any t W
  have hcv := T.conv_const
  have hk2 := fun o => cells4 (((below_alloc W o).block _ (blkLt hM)).trans hM)
  have k0 := fun o => (hk2 o).1
  have k1 := fun o => (hk2 o).2.1
  have k2 := fun o => (hk2 o).2.2.1
  have k3 := fun o => (hk2 o).2.2.2.1
  have g0 := h.keep hbW
  have hl : nm.length ≤ 20 := by
    unfold tokOk at hok
    simp at hok
    omega
  have hlen := tokB_len l a t nm
  have G1 : Hid (T.Gd w0 (W.alloc (.cells (T.cs .u8 tokH).toArray 5 ((T.cs .u8 tokH).toArray.size, (T.cs .u8 tokH).toArray.size + 1))) tb mb N n ((W.heap.size, (.cells (T.cs .u8 tokH).toArray 5 ((T.cs .u8 tokH).toArray.size, (T.cs .u8 tokH).toArray.size + 1))) :: rs)) := Lib.hid ⟨g0.st.guest _ _ rfl, g0.good, g0.len⟩
  have R1 := Lib.hid (T.Rd.litM W tokH 5 rfl (by simp))
  have rb : Below w.heap.size w (W.alloc (.cells (T.cs .u8 tokH).toArray 5 ((T.cs .u8 tokH).toArray.size, (T.cs .u8 tokH).toArray.size + 1))) := hbW.trans ((below_alloc W _).mono hbW.size)
  have c1 := write_any (l := l) (a := a) (t := t) (hr.below rb) (by omega) (ht.below (G1.out.st.bel)) (by have := G1.out.st.bel.size; omega)
  have HH := Lib.hid (And.intro hk (And.intro hn (And.intro hl (And.intro hlen (And.intro (tokB_byt l a t hr.byt) (below_alloc W (.cells (T.cs .u8 tokH).toArray 5 ((T.cs .u8 tokH).toArray.size, (T.cs .u8 tokH).toArray.size + 1))))))))
  have hO := heap_alloc_new W (.cells (T.cs .u8 tokH).toArray 5 ((T.cs .u8 tokH).toArray.size, (T.cs .u8 tokH).toArray.size + 1))
  have HO := Lib.hid hO
  unfold tokOk at hok
  generalize sz a = sa at *
  generalize sz t = st at *
  have q1' : (sa == 0) = false := by simp at hok; simp [hok]
  have q2' : (st == 0) = false := by simp at hok; simp [hok]
  have q3' : ¬ 20 < (nm.length : Int) := by omega
  clear hbW hM h hok hl hk hr ht hw hn hk2 g0 rb hlen hO
  go_enter Tryd.func7, Tryd.ntmps7
  go_wp2_with fail
  refine z1.mono ?_
  rintro e w1 ⟨rfl, rfl⟩
  clear z1
  go_wp2_with fail
  refine z2.mono ?_
  rintro e w1 ⟨rfl, rfl⟩
  clear z2
  go_wp2_with fail
  refine c1.mono ?_
  rintro e w1 ⟨v1, rfl, o1, b1⟩
  have r1 := (Rd.of_own o1 HH.out.2.2.2.2.1).1
  have g1 := G1.out.keep b1
  have c2 := g1.textG r1.toT (by have := HH.out; omega) (by have := HH.out; omega)
  clear c1 m0 m1 m2 m3 mf k0 k1 k2 k3 o1 b1 r1 g1 hcv
  go_wp2_with fail
  refine c2.mono ?_
  rintro e w2 ⟨N2, x, rfl, g2, p2, f2⟩
  have r2 := TRd.same R1.out ((g2.st.own _ List.mem_cons_self).trans HO.out.symm)
  have c3 := g2.sealG ⟨HH.out.1.1, by have := HH.out.1.2; have := p2.length_le; omega⟩ ⟨f2.pos, f2.le⟩ r2 (by simp) (by have := HH.out; omega)
  have H2 := Lib.hid (And.intro p2 f2)
  clear c2 g2 p2 f2 r2
  go_wp2_with fail
  refine c3.mono ?_
  rintro e w3 ⟨N3, c, rfl, g3, p3, f3⟩
  have H3 : Hid (T.Gd w0 w3 tb mb N3 (n + 3) rs ∧ N <+: N3 ∧ T.IsTok N3 c k (T.bstr (tokB l a t nm))) := Lib.hid ⟨⟨g3.st.sub fun u hu => List.mem_cons_of_mem _ hu, g3.good, g3.len⟩, H2.out.1.trans p3, x, H2.out.2.ext p3, f3⟩
  clear c3 g3 p3 f3
  go_wp2_with fail
  go_ret
  exact ⟨N3, c, rfl, H3.out⟩
#print axioms mint_yes
end Go.Proofs.YtepkhhpdpmhfaaaDoor
