/- token's Mint: the token's term; none, if it may not be. -/
import Derived.Test.YtofklfahbhhoiaaDoorKTold
namespace Go.Proofs.YtofklfahbhhoiaaDoor
open Go Go.RowKit

variable {w0 w : World} {tb mb n : Nat} {rs : List (Nat × Obj)}
/-- The head of a token. -/
abbrev tokH : List Int := [116, 111, 107, 101, 110]
/-- c is a token with the key k, of the text b. -/
def T.IsTok (M : List T.Nd) (c k : Int) (b : ByteArray) : Prop := ∃ x, T.Has M x (1, b, []) ∧ T.IsSeal M c k (T.bstr tokH) x
theorem T.IsTok.ext {M M' : List T.Nd} {c k : Int} {b : ByteArray} (h : T.IsTok M c k b) (hp : M <+: M') : T.IsTok M' c k b := by
  obtain ⟨x, h1, h2⟩ := h; exact ⟨x, h1.ext hp, h2.ext hp⟩
set_option maxRecDepth 20000 in
set_option maxHeartbeats 2000000 in
theorem mint_no {N : List T.Nd} (h : T.Gd w0 w tb mb N n rs) {k a t : Int} {l : Bool} {ao : Option Addr} {cap : Nat} {nm : List Int} (hok : tokOk a t nm.length = false) :
    Calls Tryd.prog 13 #[.pointer (some ⟨tb, 0, none⟩), .int .i64 k, .agg #[.bool l, .int .i64 a, .int .i64 t, .slice ao nm.length cap]] w fun e w' => e = .returned (.int .i64 0) ∧ T.Gd w0 w' tb mb N n rs ∧ Below w.heap.size w w' := by
  obtain ⟨W, hW⟩ : ∃ W, w.alloc (.cells #[.bool l, .int .i64 a, .int .i64 t, .slice ao nm.length cap] 32) = W := ⟨_, rfl⟩
  have hbW : Below w.heap.size w W := by rw [← hW]; exact below_alloc w _
  have hM : W.heap[w.heap.size]? = some (.cells #[.bool l, .int .i64 a, .int .i64 t, .slice ao nm.length cap] 32 (0, 0)) := by rw [← hW]; exact heap_alloc_new w _
  obtain ⟨m0, m1, m2, m3, mf⟩ := cells4 hM
  have z1 := size_any a W
  have z2 := size_any t W
  have HW := Lib.hid (And.intro (h.keep hbW) hbW)
  unfold tokOk at hok
  generalize sz a = sa at *
  generalize sz t = st at *
  clear hbW hM h
  by_cases q1 : sa = 0
  · have q1' : (sa == 0) = true := by simp [q1]
    clear q1 hok
    go_enter Tryd.func13, Tryd.ntmps13
    go_wp2_with fail
    refine z1.mono ?_
    rintro e w1 ⟨rfl, rfl⟩
    clear z1
    go_wp2_with fail
    go_ret
    exact ⟨rfl, HW.out⟩
  · have q1' : (sa == 0) = false := by simp [q1]
    by_cases q2 : st = 0
    · have q2' : (st == 0) = true := by simp [q2]
      clear q1 q2 hok
      go_enter Tryd.func13, Tryd.ntmps13
      go_wp2_with fail
      refine z1.mono ?_
      rintro e w1 ⟨rfl, rfl⟩
      clear z1
      go_wp2_with fail
      refine z2.mono ?_
      rintro e w1 ⟨rfl, rfl⟩
      clear z2
      go_wp2_with fail
      go_ret
      exact ⟨rfl, HW.out⟩
    · have q2' : (st == 0) = false := by simp [q2]
      have q3 : 20 < nm.length := by simp [q1', q2'] at hok; exact hok
      have q3' : 20 < (nm.length : Int) := by omega
      clear q1 q2 hok q3
      go_enter Tryd.func13, Tryd.ntmps13
      go_wp2_with fail
      refine z1.mono ?_
      rintro e w1 ⟨rfl, rfl⟩
      clear z1
      go_wp2_with fail
      refine z2.mono ?_
      rintro e w1 ⟨rfl, rfl⟩
      clear z2
      go_wp2_with fail
      go_ret
      exact ⟨rfl, HW.out⟩
set_option maxRecDepth 20000 in
set_option maxHeartbeats 2000000 in
theorem mint_yes {N : List T.Nd} (h : T.Gd w0 w tb mb N n rs) {k a t : Int} {l : Bool} {ao : Option Addr} {cap : Nat} {nm : List Int} (hok : tokOk a t nm.length = true) (hk : 1 ≤ k ∧ k ≤ (N.length : Int)) (hr : Rd w (.slice ao nm.length cap) nm) (ht : Tab w0) (hw : 1 < w0.heap.size) (hn : n ≤ 50000) :
    Calls Tryd.prog 13 #[.pointer (some ⟨tb, 0, none⟩), .int .i64 k, .agg #[.bool l, .int .i64 a, .int .i64 t, .slice ao nm.length cap]] w fun e w' => T.Tells w0 w' tb mb (n + 3) N rs e fun M c => T.IsTok M c k (T.bstr (tokB l a t nm)) := by
  obtain ⟨W, hW⟩ : ∃ W, w.alloc (.cells #[.bool l, .int .i64 a, .int .i64 t, .slice ao nm.length cap] 32) = W := ⟨_, rfl⟩
  have hbW : Below w.heap.size w W := by rw [← hW]; exact below_alloc w _
  have hM : W.heap[w.heap.size]? = some (.cells #[.bool l, .int .i64 a, .int .i64 t, .slice ao nm.length cap] 32 (0, 0)) := by rw [← hW]; exact heap_alloc_new w _
  obtain ⟨m0, m1, m2, m3, mf⟩ := cells4 hM
  have z1 := size_any a W
  have z2 := size_any t W
  have hcv := T.conv_const
  have hk2 := fun o => cells4 (((below_alloc W o).block _ (blkLt hM)).trans hM)
  have k0 := fun o => (hk2 o).1
  have k1 := fun o => (hk2 o).2.1
  have k2 := fun o => (hk2 o).2.2.1
  have k3 := fun o => (hk2 o).2.2.2.1
  have g0 := h.keep hbW
  have hl : nm.length ≤ 20 := by
    unfold tokOk at hok
    simp at hok
    omega
  have hlen := tokB_len l a t nm
  have G1 : Hid (T.Gd w0 (W.alloc (.cells (T.cs .u8 tokH).toArray 5 ((T.cs .u8 tokH).toArray.size, (T.cs .u8 tokH).toArray.size + 1))) tb mb N n ((W.heap.size, (.cells (T.cs .u8 tokH).toArray 5 ((T.cs .u8 tokH).toArray.size, (T.cs .u8 tokH).toArray.size + 1))) :: rs)) := Lib.hid ⟨g0.st.guest _ _ rfl, g0.good, g0.len⟩
  have R1 := Lib.hid (T.Rd.litM W tokH 5 rfl (by simp))
  have rb : Below w.heap.size w (W.alloc (.cells (T.cs .u8 tokH).toArray 5 ((T.cs .u8 tokH).toArray.size, (T.cs .u8 tokH).toArray.size + 1))) := hbW.trans ((below_alloc W _).mono hbW.size)
  have c1 := write_any (l := l) (a := a) (t := t) (hr.below rb) (by omega) (ht.below (G1.out.st.bel)) (by have := G1.out.st.bel.size; omega)
  have HH := Lib.hid (And.intro hk (And.intro hn (And.intro hl (And.intro hlen (And.intro (tokB_byt l a t hr.byt) (below_alloc W (.cells (T.cs .u8 tokH).toArray 5 ((T.cs .u8 tokH).toArray.size, (T.cs .u8 tokH).toArray.size + 1))))))))
  have hO := heap_alloc_new W (.cells (T.cs .u8 tokH).toArray 5 ((T.cs .u8 tokH).toArray.size, (T.cs .u8 tokH).toArray.size + 1))
  have HO := Lib.hid hO
  unfold tokOk at hok
  generalize sz a = sa at *
  generalize sz t = st at *
  have q1' : (sa == 0) = false := by simp at hok; simp [hok]
  have q2' : (st == 0) = false := by simp at hok; simp [hok]
  have q3' : ¬ 20 < (nm.length : Int) := by omega
  clear hbW hM h hok hl hk hr ht hw hn hk2 g0 rb hlen hO
  go_enter Tryd.func13, Tryd.ntmps13
  go_wp2_with fail
  refine z1.mono ?_
  rintro e w1 ⟨rfl, rfl⟩
  clear z1
  go_wp2_with fail
  refine z2.mono ?_
  rintro e w1 ⟨rfl, rfl⟩
  clear z2
  go_wp2_with fail
  refine c1.mono ?_
  rintro e w1 ⟨v1, rfl, o1, b1⟩
  have r1 := (Rd.of_own o1 HH.out.2.2.2.2.1).1
  have g1 := G1.out.keep b1
  have c2 := g1.textG r1.toT (by have := HH.out; omega) (by have := HH.out; omega)
  clear c1 m0 m1 m2 m3 mf k0 k1 k2 k3 o1 b1 r1 g1 hcv
  go_wp2_with fail
  refine c2.mono ?_
  rintro e w2 ⟨N2, x, rfl, g2, p2, f2⟩
  have r2 := TRd.same R1.out ((g2.st.own _ List.mem_cons_self).trans HO.out.symm)
  have c3 := g2.sealG ⟨HH.out.1.1, by have := HH.out.1.2; have := p2.length_le; omega⟩ ⟨f2.pos, f2.le⟩ r2 (by simp) (by have := HH.out; omega)
  have H2 := Lib.hid (And.intro p2 f2)
  clear c2 g2 p2 f2 r2
  go_wp2_with fail
  refine c3.mono ?_
  rintro e w3 ⟨N3, c, rfl, g3, p3, f3⟩
  have H3 : Hid (T.Gd w0 w3 tb mb N3 (n + 3) rs ∧ N <+: N3 ∧ T.IsTok N3 c k (T.bstr (tokB l a t nm))) := Lib.hid ⟨⟨g3.st.sub fun u hu => List.mem_cons_of_mem _ hu, g3.good, g3.len⟩, H2.out.1.trans p3, x, H2.out.2.ext p3, f3⟩
  clear c3 g3 p3 f3
  go_wp2_with fail
  go_ret
  exact ⟨N3, c, rfl, H3.out⟩
#print axioms mint_yes
end Go.Proofs.YtofklfahbhhoiaaDoor
