/- TokenOthers, for every input. -/
import Derived.Test.YtofklfahbhhoiaaDoorKAwk
namespace Go.Proofs.YtofklfahbhhoiaaDoor.TokenOthers
open Go Go.RowKit

variable {w0 w : World} {tb mb n : Nat} {N : List T.Nd} {rs : List (Nat × Obj)}
theorem bk {v v' : World} {k : Nat} {o : Obj} (hb : Below v.heap.size v v') (h : v.heap[k]? = some o) : v'.heap[k]? = some o := (hb.block _ (blkLt h)).trans h
theorem gd_fresh (h : T.Gd w0 w tb mb N n rs) {w' : World} {us : List (Nat × Obj)} (hb : Below w.heap.size w w') (h' : T.Gd w0 w' tb mb N n us) (hu : ∀ u ∈ us, u ∈ rs ∨ w.heap.size ≤ u.1) {g : Nat} {o : Obj} (hg : w.heap.size ≤ g) (ho : w'.heap[g]? = some o) : T.Gd w0 w' tb mb N n ((g, o) :: us) := by
  have hk := h.keep hb
  obtain ⟨nv, ht, hr⟩ := h.st.tab
  obtain ⟨L, hL, _, _⟩ := ht.ex
  have l1 := blkLt hL.tab
  have l2 := hL.map.lt
  have l3 := fun k (e : some k = nv.ownBlock) => (hL.nodes.lt k e.symm).2
  refine ⟨⟨⟨nv, ht.keep hb, fun r hm => ?_⟩, fun r hm => ?_, h'.st.bel⟩, h.good, h.len⟩
  · rcases List.mem_cons.1 hm with rfl | hm
    · exact ⟨by simp only; omega, by simp only; omega, fun e => by have := l3 _ e; simp only at this; omega⟩
    · rcases hu r hm with h1 | h1
      · exact hr r h1
      · exact ⟨by omega, by omega, fun e => by have := l3 _ e; omega⟩
  · rcases List.mem_cons.1 hm with rfl | hm
    · exact ho
    · exact h'.st.own r hm
/-- A row of the call's own, not empty, beside the table. -/
theorem gd_own (h : T.Gd w0 w tb mb N n []) {w' : World} {v : Value} {zs : List Int} (hz : zs ≠ []) (hb : Below w.heap.size w w') (ho : w'.ownsRow w.heap.size 5 1 v zs.length (by8 zs)) (hy : Byt zs) :
    ∃ g cap o, v = .slice (some ⟨g, 0, none⟩) zs.length cap ∧ T.Gd w0 w' tb mb N n ((g, o) :: []) ∧ T.Rd .u8 w' v zs := by
  have hr := (Rd.of_own ho hy).1
  rcases ho.2 with ⟨_, h0⟩ | ⟨g, cap, cur, rfl, hg, hh, _⟩
  · exact absurd (List.eq_nil_of_length_eq_zero h0) hz
  · exact ⟨g, cap, _, rfl, gd_fresh h hb (h.keep hb) (fun u hu => by cases hu) hg hh, hr.toT⟩
/-- The text token, as the program has it. -/
theorem tok_lit : T.bstr tokH = (⟨#[116, 111, 107, 101, 110]⟩ : ByteArray) := by decide +kernel
/-- What Look says of what is sealed under a head. -/
def LkE (w' : World) (e : Ending) (R : Bool) : Prop := ∃ l a t an m cn E, e = .returned (.tuple #[.agg #[.bool l, .int .i64 a, .int .i64 t, .slice an m cn], .int .i64 E]) ∧ (E == 0) = R ∧ w' = w'
theorem look_e (h : T.Gd w0 w tb mb N n rs) {k c x a t : Int} {l : Bool} {nm zh : List Int} (hx : T.Has N x (1, T.bstr (tokB l a t nm), [])) (hs : T.IsSeal N c k (T.bstr zh) x) (hok : tokOk a t nm.length = true) (hb : Byt nm) (hh : Byt zh) :
    Calls Tryd.prog 19 #[.pointer (some ⟨tb, 0, none⟩), .int .i64 k, .int .i64 c] w fun e w' => LkE w' e (decide (zh = tokH)) ∧ T.Gd w0 w' tb mb N n rs ∧ Below w.heap.size w w' := by
  by_cases hz : zh = tokH
  · subst hz
    refine (look_tok h ⟨x, hx, hs⟩ hok hb).mono fun e w' ⟨⟨v, he, hr⟩, g, b⟩ => ⟨?_, g, b⟩
    obtain ⟨an, cn, rfl⟩ := hr.shape
    exact ⟨_, _, _, _, _, _, _, he, rfl, rfl⟩
  · have hby : Byt tokH := by intro z hz; simp at hz; omega
    refine (look_shut h (Shut.seal hs fun e => hz (bstr_inj hh hby e.2))).mono fun e w' ⟨he, g, b⟩ => ⟨?_, g, b⟩
    exact ⟨_, _, _, _, _, _, _, he, by simp [hz], rfl⟩
set_option maxRecDepth 20000 in
set_option maxHeartbeats 4000000 in
theorem walk {w : World} {ah ao : Option Addr} {ch cap : Nat} {zh nm : List Int} {l : Bool} {a t : Int} (hh : Rd w (.slice ah zh.length ch) zh) (hr : Rd w (.slice ao nm.length cap) nm) (ht : Tab w) (hw : 1 < w.heap.size) :
    Calls Tryd.prog 6 #[.slice ah zh.length ch, .agg #[.bool l, .int .i64 a, .int .i64 t, .slice ao nm.length cap]] w fun e w' => e = .returned (.bool true) ∧ Below w.heap.size w w' := by
  obtain ⟨X, hX⟩ : ∃ X, w.alloc (.cells #[.bool l, .int .i64 a, .int .i64 t, .slice ao nm.length cap] 24) = X := ⟨_, rfl⟩
  have hbX : Below w.heap.size w X := by rw [← hX]; exact below_alloc w _
  have hA : X.heap[w.heap.size]? = some (.cells #[.bool l, .int .i64 a, .int .i64 t, .slice ao nm.length cap] 24 (0, 0)) := by rw [← hX]; exact heap_alloc_new w _
  have H := Lib.hid (And.intro hbX (And.intro hA (And.intro (ht.below hbX) (And.intro (show 1 < X.heap.size by have := hbX.size; omega) (And.intro (hh.below hbX) (hr.below hbX))))))
  obtain ⟨x0, x1, x2, x3, -⟩ := cells4 hA
  clear hh hr ht hw hbX hA
  by_cases hlen : 50 < zh.length
  · have hl : 50 < (zh.length : Int) := by omega
    go_enter Tryd.func6, Tryd.ntmps6
    go_wp2_with fail
    go_ret
    exact ⟨rfl, H.out.1⟩
  · have hl : ¬ 50 < (zh.length : Int) := by omega
    by_cases hlen' : 50 < nm.length
    · have hl' : 50 < (nm.length : Int) := by omega
      go_enter Tryd.func6, Tryd.ntmps6
      go_wp2_with fail
      go_ret
      exact ⟨rfl, H.out.1⟩
    · have hl' : ¬ 50 < (nm.length : Int) := by omega
      have HL := Lib.hid (And.intro hlen hlen')
      clear hlen hlen'
      go_enter Tryd.func6, Tryd.ntmps6
      go_wp2_with fail
      refine (T.St.new X).mono ?_
      rintro e w1 ⟨tb, mb, rfl, s1⟩
      have g1 : T.Gd X w1 tb mb [] 0 [] := ⟨T.Sg.of_st s1, T.good_nil, Nat.le_refl _⟩
      have c1 := g1.secretG (by omega)
      clear s1 g1 x0 x1 x2 x3
      go_wp2_with fail
      refine c1.mono ?_
      rintro e w2 ⟨N2, k, rfl, g2, -, f2, -⟩
      obtain ⟨x0, x1, x2, x3, -⟩ := cells4 (bk g2.st.bel H.out.2.1)
      have c2 := rtext_any (l := l) (a := a) (t := t) (H.out.2.2.2.2.2.below g2.st.bel) (by have := HL.out; omega)
      have G2 := Lib.hid (And.intro g2 f2)
      clear c1 g2 f2
      cases hok : tokOk a t nm.length with
      | false =>
        rw [textB_no hok] at c2
        clear hok
        go_wp2_with fail
        refine c2.mono ?_
        rintro e w3 ⟨v3, rfl, o3, b3⟩
        obtain ⟨a3, p3, rfl⟩ := (Rd.of_own o3 Byt.nil).1.shape'
        have B3 := Lib.hid (G2.out.1.st.bel.trans (b3.mono G2.out.1.st.bel.size))
        clear c2 o3 b3 x0 x1 x2 x3
        go_wp2_with fail
        refine (awake16_any (H.out.2.2.1.below B3.out) (by have := B3.out.size; have := H.out.2.2.2.1; omega)).mono ?_
        rintro e w4 ⟨rfl, b4⟩
        have B4 := Lib.hid (B3.out.trans (b4.mono B3.out.size))
        clear b4
        go_wp2_with fail
        go_ret
        exact ⟨rfl, H.out.1.trans (B4.out.mono H.out.1.size)⟩
      | true =>
        rw [textB_ok hok] at c2
        have hTl := tokB_len l a t nm
        have hne : tokB l a t nm ≠ [] := by simp [tokB]
        have hTy := tokB_byt l a t H.out.2.2.2.2.2.byt
        have HO := Lib.hid hok
        obtain ⟨TB, hTB⟩ : ∃ TB, tokB l a t nm = TB := ⟨_, rfl⟩
        rw [hTB] at c2 hTl hne hTy
        have hpos : ((TB.length : Int) == 0) = false := by
          rw [beq_eq_false_iff_ne]
          intro e
          exact hne (List.eq_nil_of_length_eq_zero (by omega))
        have HT := Lib.hid (And.intro hTB (And.intro hTl (And.intro hne hTy)))
        clear hok hTB hTl hne hTy
        go_wp2_with fail
        refine c2.mono ?_
        rintro e w3 ⟨v3, rfl, o3, b3⟩
        obtain ⟨gb, cb, ob, rfl, g3, r3⟩ := gd_own G2.out.1 HT.out.2.2.1 b3 o3 HT.out.2.2.2
        have c3 := g3.textG r3 (by have := HT.out.2.1; have := HL.out; omega) (by omega)
        have G3 := Lib.hid (And.intro (g3.st.own _ List.mem_cons_self) r3)
        clear c2 o3 b3 x0 x1 x2 x3 g3 r3
        go_wp2_with fail
        refine c3.mono ?_
        rintro e w4 ⟨N4, x, rfl, g4, p4, f4⟩
        have c4 := g4.sealG (G2.out.2.ext p4).2 ⟨f4.pos, f4.le⟩ (H.out.2.2.2.2.1.below g4.st.bel).toT (by have := HL.out; omega) (by omega)
        have F4 := Lib.hid (And.intro f4 p4)
        clear c3 g4 p4 f4
        go_wp2_with fail
        refine c4.mono ?_
        rintro e w5 ⟨N5, c, rfl, g5, p5, f5⟩
        have c5 := look_e (l := l) (a := a) (t := t) (nm := nm) g5 (by rw [HT.out.1]; exact F4.out.1.ext p5) f5 HO.out H.out.2.2.2.2.2.byt H.out.2.2.2.2.1.byt
        have F5 := Lib.hid (F4.out.2.trans p5)
        clear c4 g5 p5 f5
        go_wp2_with fail
        refine c5.mono ?_
        rintro e w6 ⟨⟨l6, a6, t6, an6, m6, cn6, E, rfl, hE, -⟩, g6, -⟩
        have HE := Lib.hid hE
        have g7 : T.Gd X ((w6.alloc (.cells #[.bool l6, .int .i64 a6, .int .i64 t6, .slice an6 m6 cn6] 32)).alloc (.cells (T.cs .u8 tokH).toArray 5 ((T.cs .u8 tokH).toArray.size, (T.cs .u8 tokH).toArray.size + 1))) tb mb N5 (0 + 1 + 1 + 2) ((w6.heap.size + 1, (.cells (T.cs .u8 tokH).toArray 5 ((T.cs .u8 tokH).toArray.size, (T.cs .u8 tokH).toArray.size + 1))) :: (gb, ob) :: []) :=
          ⟨(g6.keep (below_alloc w6 _)).st.guest _ _ (by simp), g6.good, g6.len⟩
        have l7 := T.Rd.litM (w6.alloc (.cells #[.bool l6, .int .i64 a6, .int .i64 t6, .slice an6 m6 cn6] 32)) tokH 5 rfl (by simp)
        rw [World.size_alloc] at l7
        have L7 := Lib.hid (And.intro l7 (g7.st.own _ List.mem_cons_self))
        have c7 := g7.secretG (by omega)
        have hcv : ∀ (wx : World) (o : Obj) (C : Array Value) (n c : Nat), (convert 22 22 (.slice (some ⟨wx.heap.size + 1, 0, none⟩) n c)).run Tryd.prog ((wx.alloc o).alloc (.cells C 5)) = .ok (.slice (some ⟨wx.heap.size + 1, 0, none⟩) n c) ((wx.alloc o).alloc (.cells C 5 (C.size, C.size + 1))) := fun wx o C n c => by
          have := T.conv_const (wx.alloc o) C n c
          rwa [World.size_alloc] at this
        clear c5 g6 hE g7 l7
        go_wp2_with fail
        refine c7.mono ?_
        rintro e w8 ⟨N8, s8, rfl, g8, p8, f8, -⟩
        have r8 := TRd.same L7.out.1 ((g8.st.own _ List.mem_cons_self).trans L7.out.2.symm)
        have c8 := g8.sealG (G2.out.2.ext (F5.out.trans p8)).2 f8.2 r8 (by simp) (by omega)
        have F8 := Lib.hid f8
        clear c7 g8 p8 f8 r8 hcv L7
        go_wp2_with fail
        refine c8.mono ?_
        rintro e w9 ⟨N9, d, rfl, g9, p9, f9⟩
        have f8' := F8.out.ext p9
        have c9 := look_kind g9 f9 f8'.2.1 f8'.1 (by decide)
        clear c8 g9 p9 f9 f8' F8
        go_wp2_with fail
        refine c9.mono ?_
        rintro e w10 ⟨rfl, g10, -⟩
        have g11 := fun o => g10.keep (below_alloc w10 o)
        have c11 := fun o => (g11 o).textG (TRd.same G3.out.2 (((g11 o).st.own _ (List.mem_cons_of_mem _ List.mem_cons_self)).trans G3.out.1.symm)) (by have := HT.out.2.1; have := HL.out; omega) (by omega)
        clear c9 g10 g11
        go_wp2_with fail
        refine (c11 _).mono ?_
        rintro e w12 ⟨N12, y, rfl, g12, -, f12⟩
        have c12 := look_shut (k := k) g12 (Shut.no (.inr ⟨f12.pos, _, f12.at', by simp⟩))
        clear c11 g12 f12
        go_wp2_with fail
        refine c12.mono ?_
        rintro e w13 ⟨rfl, g13, -⟩
        have g14 := fun o => g13.keep (below_alloc w13 o)
        have c14 := fun o => look_shut (k := k) (m := 0) (g14 o) (Shut.no (.inl (.inl (by omega))))
        clear c12 g13 g14
        go_wp2_with fail
        refine (c14 _).mono ?_
        rintro e w15 ⟨rfl, g15, -⟩
        have b15 := g15.st.bel
        have B15 := Lib.hid (fun o => b15.trans ((below_alloc w15 o).mono b15.size))
        have cv := fun o => T.conv_any (H.out.2.2.2.2.1.below (B15.out o)).toT
        have q : ((T.bstr zh).toList == [116, 111, 107, 101, 110]) = decide (zh = tokH) := by
          rw [show ([116, 111, 107, 101, 110] : List UInt8) = (T.bstr tokH).toList by rw [tok_lit]; first | rfl | decide +kernel | simp]
          by_cases hz : zh = tokH
          · subst hz; simp
          · have hby : Byt tokH := by intro z hz; simp at hz; omega
            have := T.str_ne (fun e => hz (bstr_inj H.out.2.2.2.2.1.byt hby e))
            simpa [hz] using this
        have hE := HE.out
        generalize decide (zh = tokH) = R at *
        clear c14 g15 b15 HE
        cases R
        all_goals
          go_wp2_with fail
          refine (awake16_any (H.out.2.2.1.below (B15.out _)) (by have := (B15.out (.cells #[.bool false, .int .i64 0, .int .i64 0, .slice none 0 0] 32)).size; have := H.out.2.2.2.1; simp at *; omega)).mono ?_
          rintro e w16 ⟨rfl, b16⟩
          have B16 := Lib.hid ((B15.out _).trans (b16.mono (B15.out _).size))
          clear b16 cv q hE
          go_wp2_with fail
          go_ret
          exact ⟨rfl, H.out.1.trans (B16.out.mono H.out.1.size)⟩
#print axioms walk
end Go.Proofs.YtofklfahbhhoiaaDoor.TokenOthers
