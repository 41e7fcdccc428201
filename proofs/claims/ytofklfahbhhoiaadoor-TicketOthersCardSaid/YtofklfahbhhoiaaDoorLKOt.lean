/- TicketOthers, for every input. -/
import Derived.Test.YtofklfahbhhoiaaDoorKRdm
import Derived.Test.YtofklfahbhhoiaaDoorKRT17
namespace Go.Proofs.YtofklfahbhhoiaaDoor.TicketOthers
open Go Go.RowKit

variable {w0 w : World} {tb mb n : Nat} {N : List T.Nd} {rs : List (Nat × Obj)}
theorem bk {v v' : World} {k : Nat} {o : Obj} (hb : Below v.heap.size v v') (h : v.heap[k]? = some o) : v'.heap[k]? = some o := (hb.block _ (blkLt h)).trans h
theorem gd_fresh (h : T.Gd w0 w tb mb N n rs) {w' : World} {us : List (Nat × Obj)} (hb : Below w.heap.size w w') (h' : T.Gd w0 w' tb mb N n us) (hu : ∀ u ∈ us, u ∈ rs ∨ w.heap.size ≤ u.1) {g : Nat} {o : Obj} (hg : w.heap.size ≤ g) (ho : w'.heap[g]? = some o) : T.Gd w0 w' tb mb N n ((g, o) :: us) := by
  have hk := h.keep hb
  obtain ⟨nv, ht, hr⟩ := h.st.tab
  obtain ⟨L, hL, _, _⟩ := ht.ex
  have l1 := blkLt hL.tab
  have l2 := hL.map.lt
  have l3 := fun k (e : some k = nv.ownBlock) => (hL.nodes.lt k e.symm).2
  refine ⟨⟨⟨nv, ht.keep hb, fun r hm => ?_⟩, fun r hm => ?_, h'.st.bel⟩, h.good, h.len⟩
  · rcases List.mem_cons.1 hm with rfl | hm
    · exact ⟨by simp only; omega, by simp only; omega, fun e => by have := l3 _ e; simp only at this; omega⟩
    · rcases hu r hm with h1 | h1
      · exact hr r h1
      · exact ⟨by omega, by omega, fun e => by have := l3 _ e; omega⟩
  · rcases List.mem_cons.1 hm with rfl | hm
    · exact ho
    · exact h'.st.own r hm
/-- A row of the call's own, not empty, beside the table. -/
theorem gd_own (h : T.Gd w0 w tb mb N n []) {w' : World} {v : Value} {zs : List Int} (hz : zs ≠ []) (hb : Below w.heap.size w w') (ho : w'.ownsRow w.heap.size 5 1 v zs.length (by8 zs)) (hy : Byt zs) :
    ∃ g cap o, v = .slice (some ⟨g, 0, none⟩) zs.length cap ∧ T.Gd w0 w' tb mb N n ((g, o) :: []) ∧ T.Rd .u8 w' v zs := by
  have hr := (Rd.of_own ho hy).1
  rcases ho.2 with ⟨_, h0⟩ | ⟨g, cap, cur, rfl, hg, hh, _⟩
  · exact absurd (List.eq_nil_of_length_eq_zero h0) hz
  · exact ⟨g, cap, _, rfl, gd_fresh h hb (h.keep hb) (fun u hu => by cases hu) hg hh, hr.toT⟩
theorem fitsR {N : List T.Nd} {ps : List Int} (hl : ps.length ≤ 16) (h : ∀ p ∈ ps, 1 ≤ p ∧ p ≤ (N.length : Int)) : T.fitsN N 3 ps = true := by
  have hask : T.askL 3 ps.length = some (List.replicate ps.length 0) := by
    unfold T.askL
    rw [if_pos rfl, if_neg (by omega)]
  unfold T.fitsN
  rw [hask]
  simp only [List.length_replicate, decide_true, Bool.true_and, List.all_eq_true, List.mem_range]
  intro j hj
  have hp := h (ps.getD j 0) (by simp [hj])
  have e : (List.replicate ps.length (0 : Int)).getD j 0 = 0 := by simp [hj]
  rw [e]
  have hp' := hp
  simp only [List.getD_eq_getElem?_getD] at hp'
  simp [T.okN, hp']
theorem gd_rows (h : T.Gd w0 w tb mb N n rs) {ps : List Int} (hl : ps.length ≤ 16) (hp : ∀ p ∈ ps, 1 ≤ p ∧ p ≤ (N.length : Int)) {pv : Value} (hr : T.Rd .i64 w pv ps) (hn : n ≤ 60000) :
    Calls Tryd.prog 30 #[.pointer (some ⟨tb, 0, none⟩), .int .i64 3, pv] w fun e w' => T.Tells w0 w' tb mb (n + 1) N rs e fun M c => T.Has M c (3, ByteArray.empty, ps) := by
  have := T.makeN_len N 3 ps
  have := h.len
  obtain ⟨h1, h2, h3⟩ := T.make_has h.good (by omega) (by omega) (fitsR hl hp) (fun p hq => (hp p hq).1)
  exact (h.st.makes 3 hr (by omega) (by omega)).mono fun e w' ⟨he, hs⟩ => ⟨_, _, he, ⟨hs, h3, by omega⟩, h2, h1⟩
/-- The text ticket, as the program has it. -/
theorem tick_lit : T.bstr tickH = (⟨#[116, 105, 99, 107, 101, 116]⟩ : ByteArray) := by decide +kernel
/-- Of what is no row of a text and another term nothing is told. -/
def Bad (N : List T.Nd) (r : Int) : Prop := (1 ≤ r ∧ ∃ d, N[(r - 1).toNat]? = some d ∧ (d.1 ≠ 3 ∨ d.2.2.length ≠ 2)) ∨ ∃ p q, T.Has N r (3, ByteArray.empty, [p, q]) ∧ T.IsSec N p
theorem at_ext {M M' : List T.Nd} {c : Nat} {d : T.Nd} (h : M[c]? = some d) (hp : M <+: M') : M'[c]? = some d := by
  obtain ⟨r, rfl⟩ := hp
  have hlt := (List.getElem?_eq_some_iff.1 h).1
  rw [List.getElem?_append_left hlt]
  exact h
theorem Bad.ext {M M' : List T.Nd} {r : Int} (h : Bad M r) (hp : M <+: M') : Bad M' r := by
  rcases h with ⟨h1, d, h2, h3⟩ | ⟨p, q, h3, h4⟩
  · exact .inl ⟨h1, d, at_ext h2 hp, h3⟩
  · exact .inr ⟨p, q, h3.ext hp, h4.ext hp⟩
theorem look_bad (h : T.Gd w0 w tb mb N n rs) {k m r : Int} (hm : T.IsSeal N m k (T.bstr tickH) r) (hb : Bad N r) :
    Calls Tryd.prog 45 #[.pointer (some ⟨tb, 0, none⟩), .int .i64 k, .int .i64 m] w fun e w' => KlV none e ∧ T.Gd w0 w' tb mb N n rs ∧ Below w.heap.size w w' := by
  rcases hb with ⟨h1, d, h2, h3⟩ | ⟨p, q, hp, h4⟩
  · exact klook_kind h hm h1 h2 h3
  · have := klook_row h hm hp h4.2.1 h4.1 (by decide)
    rw [show sayK T.secretNd q = none from rfl] at this
    exact this
/-- The error of a ticket that is none. -/
theorem redeem_bad (h : T.Gd w0 w tb mb N n rs) {k m now : Int} (hnow : -9223372036854775808 ≤ now ∧ now ≤ 9223372036854775807)
    (hL : ∀ w1, T.Gd w0 w1 tb mb N n rs → Calls Tryd.prog 45 #[.pointer (some ⟨tb, 0, none⟩), .int .i64 k, .int .i64 m] w1 fun e w' => KlV none e ∧ T.Gd w0 w' tb mb N n rs ∧ Below w1.heap.size w1 w') :
    Calls Tryd.prog 29 #[.pointer (some ⟨tb, 0, none⟩), .int .i64 k, .int .i64 m, .int .i64 now] w fun e w' => e = .returned (.tuple #[.agg #[.int .i64 0, .int .i64 0, .int .i64 0, .int .i64 0], .int .i64 14]) ∧ T.Gd w0 w' tb mb N n rs ∧ Below w.heap.size w w' :=
  redeem_any h hL hnow (fun x hx => by cases hx)
abbrev zK : Obj := .cells #[.int .i64 0, .int .i64 0, .int .i64 0, .int .i64 0] 60
abbrev cK : Obj := .cells #[.int .u8 116, .int .u8 105, .int .u8 99, .int .u8 107, .int .u8 101, .int .u8 116] 5 (6, 7)
/-- The literal is marked where another box has been made behind it. -/
theorem conv_const2 (w : World) (C : Array Value) (z : Obj) (n c : Nat) : (convert 22 22 (.slice (some ⟨w.heap.size, 0, none⟩) n c)).run Tryd.prog ((w.alloc (.cells C 5)).alloc z) = .ok (.slice (some ⟨w.heap.size, 0, none⟩) n c) ((w.alloc (.cells C 5 (C.size, C.size + 1))).alloc z) := by
  have hsh : ((w.alloc (.cells C 5)).alloc z).shape? w.heap.size = some (5, C.size) := by
    have : ((w.alloc (.cells C 5)).alloc z).heap[w.heap.size]? = some (.cells C 5) := by
      show ((w.heap.push (.cells C 5)).push z)[w.heap.size]? = _
      simp [Array.getElem?_push]
    unfold World.shape?
    rw [this]
  have hfr : ∀ (k : Nat), ((w.alloc (.cells C 5)).alloc z).freeze ⟨w.heap.size, k, none⟩ 1 = (w.alloc (.cells C 5 (k, k + 1))).alloc z := fun k => by
    have hm : ∀ (a : Array Obj) (x y : Obj) (f : Obj → Obj), ((a.push x).push y).modify a.size f = (a.push (f x)).push y := by
      intro a x y f
      apply Array.ext
      · simp
      · intro i h1 h2
        simp only [Array.getElem_modify, Array.getElem_push]
        by_cases h : a.size = i
        · subst h
          simp
        · by_cases h3 : i < a.size
          · simp [h, h3, show i < a.size + 1 by omega]
          · have : ¬ i < a.size + 1 := by omega
            simp [h, this]
    unfold World.freeze
    rw [if_neg (by decide)]
    show ({ (w.alloc (.cells C 5)).alloc z with heap := ((w.heap.push (.cells C 5)).push z).modify w.heap.size _ } : World) = _
    rw [hm]
    rfl
  simp [convert, run_underlying Tryd.underlying22, run_underlying Tryd.underlying5, markStringish, hsh]
  exact hfr _
/-- A guest's box of four is written: the table is as it was, the guest is let go. -/
theorem gd_chain {N : List T.Nd} {us : List (Nat × Obj)} {zb : Nat} {d0 d1 d2 d3 : Value} (h : T.Gd w0 w tb mb N n ((zb, .cells #[d0, d1, d2, d3] 60 (0, 0)) :: us)) (hne : ∀ u ∈ us, u.1 ≠ zb) (hlo : w0.heap.size ≤ zb) (c0 c1 c2 c3 : Value) :
    T.Gd w0 ((((w.setCell ⟨zb, 0, none⟩ c0).setCell ⟨zb, 1, none⟩ c1).setCell ⟨zb, 2, none⟩ c2).setCell ⟨zb, 3, none⟩ c3) tb mb N n us := by
  obtain ⟨nv, ht, hr⟩ := h.st.tab
  obtain ⟨L, hL, e1, e2⟩ := ht.ex
  obtain ⟨x1, x2, x3⟩ := hr _ List.mem_cons_self
  have hg := h.st.own _ List.mem_cons_self
  have hb := chain4_but w zb c0 c1 c2 c3
  have hblk : ∀ k, k ≠ zb → ((((w.setCell ⟨zb, 0, none⟩ c0).setCell ⟨zb, 1, none⟩ c1).setCell ⟨zb, 2, none⟩ c2).setCell ⟨zb, 3, none⟩ c3).heap[k]? = w.heap[k]? := fun k hk => by
    rw [Below.heap_setCell _ ⟨zb, 3, none⟩ c3 k hk, Below.heap_setCell _ ⟨zb, 2, none⟩ c2 k hk, Below.heap_setCell _ ⟨zb, 1, none⟩ c1 k hk, Below.heap_setCell _ ⟨zb, 0, none⟩ c0 k hk]
  refine ⟨⟨⟨nv, ⟨L, hL.same fun k hk => hblk k ?_, e1, fun _ hv => by cases hv⟩, fun r hm => hr r (List.mem_cons_of_mem _ hm)⟩, fun r hm => ?_, hb.below h.st.bel hlo⟩, h.good, h.len⟩
  · rcases hk with rfl | rfl | hk | ⟨p, hp, hk⟩
    · exact fun e => x1 e.symm
    · exact fun e => x2 e.symm
    · rintro rfl; exact x3 hk.symm
    · rintro rfl
      obtain ⟨cur, hc⟩ := T.own_blk (hL.parts p hp) hk
      simp only at hg
      rw [hg] at hc; cases hc
  · rw [hblk r.1 (hne r hm)]
    exact h.st.own r (List.mem_cons_of_mem _ hm)
/-- What Redeem says of what is sealed under a head. -/
def RdE (e : Ending) (R : Bool) : Prop := ∃ a b c d E : Int, e = .returned (.tuple #[.agg #[.int .i64 a, .int .i64 b, .int .i64 c, .int .i64 d], .int .i64 E]) ∧ (E == 0) = R
theorem redeem_e {N : List T.Nd} (h : T.Gd w0 w tb mb N n rs) {k c x r0 v t l s : Int} {zh : List Int} (hx : T.Has N x (1, T.bstr (tickB v t l), [])) (hr : T.Has N r0 (3, ByteArray.empty, [x, s])) (hs : T.IsSeal N c k (T.bstr zh) r0) (hok : tickOk v t l = true) (hh : Byt zh) :
    Calls Tryd.prog 29 #[.pointer (some ⟨tb, 0, none⟩), .int .i64 k, .int .i64 c, .int .i64 t] w fun e w' => RdE e (decide (zh = tickH)) ∧ T.Gd w0 w' tb mb N n rs ∧ Below w.heap.size w w' := by
  obtain ⟨_, ht, hl⟩ := tickOk_num hok
  by_cases hz : zh = tickH
  · subst hz
    have := redeem_any h (r := some (v, t, l, s)) (fun w1 g => klook_tick g ⟨x, r0, hx, hr, hs⟩ hok) (now := t) (by omega) (fun q hq => by cases hq; exact ht)
    rw [show rdm (some (v, t, l, s)) t = (0, some (v, t, l, s)) by unfold rdm; simp only; rw [if_neg (by omega)]] at this
    exact this.mono fun e w' ⟨he, g, b⟩ => ⟨⟨_, _, _, _, _, he, rfl⟩, g, b⟩
  · have hby : Byt tickH := by intro z hz; simp at hz; omega
    exact (redeem_bad h (by omega) (fun w1 g => klook_shut g (Shut.seal hs fun e => hz (bstr_inj hh hby e.2)))).mono fun e w' ⟨he, g, b⟩ => ⟨⟨_, _, _, _, _, he, by simp [hz]⟩, g, b⟩
set_option maxRecDepth 20000 in
set_option maxHeartbeats 4000000 in
theorem walk {w : World} {ah : Option Addr} {ch : Nat} {zh : List Int} {v t l : Int} (hh : Rd w (.slice ah zh.length ch) zh) (ht : Tab w) (hw : 1 < w.heap.size) :
    Calls Tryd.prog 9 #[.slice ah zh.length ch, .agg #[.int .i64 v, .int .i64 t, .int .i64 l]] w fun e w' => e = .returned (.bool true) ∧ Below w.heap.size w w' := by
  obtain ⟨X, hX⟩ : ∃ X, w.alloc (.cells #[.int .i64 v, .int .i64 t, .int .i64 l] 58) = X := ⟨_, rfl⟩
  have hbX : Below w.heap.size w X := by rw [← hX]; exact below_alloc w _
  have hA : X.heap[w.heap.size]? = some (.cells #[.int .i64 v, .int .i64 t, .int .i64 l] 58 (0, 0)) := by rw [← hX]; exact heap_alloc_new w _
  have H := Lib.hid (And.intro hbX (And.intro hA (And.intro (ht.below hbX) (And.intro (show 1 < X.heap.size by have := hbX.size; omega) (hh.below hbX)))))
  clear ht hw hbX hA hh
  by_cases hlen : 50 < zh.length
  · have hl : 50 < (zh.length : Int) := by omega
    go_enter Tryd.func9, Tryd.ntmps9
    go_wp2_with fail
    go_ret
    exact ⟨rfl, H.out.1⟩
  · have hl : ¬ 50 < (zh.length : Int) := by omega
    have HL := Lib.hid hlen
    clear hlen
    go_enter Tryd.func9, Tryd.ntmps9
    go_wp2_with fail
    refine (T.St.new X).mono ?_
    rintro e w1 ⟨tb, mb, rfl, s1⟩
    have g1 : T.Gd X w1 tb mb [] 0 [] := ⟨T.Sg.of_st s1, T.good_nil, Nat.le_refl _⟩
    have c1 := g1.secretG (by omega)
    clear s1 g1
    go_wp2_with fail
    refine c1.mono ?_
    rintro e w2 ⟨N2, k, rfl, g2, -, f2, -⟩
    have c2 := g2.secretG (by omega)
    have H2 := Lib.hid f2
    clear c1 g2 f2
    go_wp2_with fail
    refine c2.mono ?_
    rintro e w3 ⟨N3, s, rfl, g3, p3, f3, -⟩
    obtain ⟨x0, x1, x2, -⟩ := cells3 (bk g3.st.bel H.out.2.1)
    have H3 := Lib.hid (And.intro (H2.out.ext p3) (And.intro f3 g3))
    have c3 := rktext_any (w := w3) (v := v) (t := t) (l := l)
    clear c2 g3 p3 f3
    cases hok : tickOk v t l with
    | false =>
      rw [tickT_no hok] at c3
      clear hok
      go_wp2_with fail
      refine c3.mono ?_
      rintro e w4 ⟨v4, rfl, o4, b4⟩
      obtain ⟨a4, p4, rfl⟩ := (Rd.of_own o4 Byt.nil).1.shape'
      have B4 := Lib.hid (H3.out.2.2.st.bel.trans (b4.mono H3.out.2.2.st.bel.size))
      clear c3 o4 b4 x0 x1 x2
      go_wp2_with fail
      refine (awake17_any (H.out.2.2.1.below B4.out) (Nat.lt_of_lt_of_le H.out.2.2.2.1 B4.out.size)).mono ?_
      rintro e w5 ⟨rfl, b5⟩
      have B5 := Lib.hid (B4.out.trans (b5.mono B4.out.size))
      clear b5
      go_wp2_with fail
      go_ret
      exact ⟨rfl, H.out.1.trans (B5.out.mono H.out.1.size)⟩
    | true =>
      rw [tickT_ok hok] at c3
      have HO := Lib.hid hok
      have hTl := tickB_len v t l
      have hTy := tickB_byt v t l
      obtain ⟨TB, hTB⟩ : ∃ TB, tickB v t l = TB := ⟨_, rfl⟩
      have hne : TB ≠ [] := by
        intro e
        obtain ⟨i1, i2, i3⟩ := tickOk_num hok
        have := tick_back i1 i2 i3
        rw [hTB, e] at this
        simp [tickR, rd] at this
      rw [hTB] at c3 hTl hTy
      have hpos : ((TB.length : Int) == 0) = false := by
        rw [beq_eq_false_iff_ne]
        intro e
        exact hne (List.eq_nil_of_length_eq_zero (by omega))
      have HT := Lib.hid (And.intro hTB (And.intro hTl hTy))
      clear hTB hTl hTy hne hok
      go_wp2_with fail
      refine c3.mono ?_
      rintro e w4 ⟨v4, rfl, o4, b4⟩
      have r4 := (Rd.of_own o4 HT.out.2.2).1
      obtain ⟨a4, p4, rfl⟩ := r4.shape'
      have c4 := (H3.out.2.2.keep b4).textG r4.toT (by have := HT.out.2.1; omega) (by omega)
      clear c3 o4 b4 r4 x0 x1 x2
      go_wp2_with fail
      refine c4.mono ?_
      rintro e w5 ⟨N5, x, rfl, g5, p5, f5⟩
      have S5 := H3.out.2.1.ext p5
      have c5 := gd_rows (g5.keep (below_alloc w5 (.cells (T.cs .i64 [x, s]).toArray 29))) (ps := [x, s]) (by simp) (by intro p hp; simp at hp; rcases hp with rfl | rfl; exact ⟨f5.pos, f5.le⟩; exact S5.2) (T.Rd.lit .i64 29 w5 [x, s] (by simp)) (by omega)
      have H5 := Lib.hid (And.intro (H3.out.1.ext p5) (And.intro S5 f5))
      clear c4 g5 p5 f5 S5
      go_wp2_with fail
      refine c5.mono ?_
      rintro e w6 ⟨N6, r0, rfl, g6, p6, f6⟩
      have S6 := H5.out.2.1.ext p6
      have x6 := H5.out.2.2.ext p6
      have c6 := gd_rows (g6.keep (below_alloc w6 (.cells (T.cs .i64 [x]).toArray 29))) (ps := [x]) (by simp) (by intro p hp; simp at hp; subst hp; exact ⟨x6.pos, x6.le⟩) (T.Rd.lit .i64 29 w6 [x] (by simp)) (by omega)
      have H6 := Lib.hid (And.intro (H5.out.1.ext p6) (And.intro S6 (And.intro x6 f6)))
      clear c5 g6 p6 f6 S6 x6
      go_wp2_with fail
      refine c6.mono ?_
      rintro e w7 ⟨N7, r1, rfl, g7, p7, f7⟩
      have S7 := H6.out.2.1.ext p7
      have x7 := H6.out.2.2.1.ext p7
      have c7 := gd_rows (g7.keep (below_alloc w7 (.cells (T.cs .i64 [s, x]).toArray 29))) (ps := [s, x]) (by simp) (by intro p hp; simp at hp; rcases hp with rfl | rfl; exact S7.2; exact ⟨x7.pos, x7.le⟩) (T.Rd.lit .i64 29 w7 [s, x] (by simp)) (by omega)
      have H7 := Lib.hid (And.intro (H6.out.1.ext p7) (And.intro S7 (And.intro x7 (And.intro (H6.out.2.2.2.ext p7) f7))))
      clear c6 g7 p7 f7 S7 x7
      go_wp2_with fail
      refine c7.mono ?_
      rintro e w8 ⟨N8, r2, rfl, g8, p8, f8⟩
      have S8 := H7.out.2.1.ext p8
      have x8 := H7.out.2.2.1.ext p8
      have c8 := gd_rows (g8.keep (below_alloc w8 (.cells (T.cs .i64 [x, s, s]).toArray 29))) (ps := [x, s, s]) (by simp) (by intro p hp; simp at hp; rcases hp with rfl | rfl; exact ⟨x8.pos, x8.le⟩; exact S8.2) (T.Rd.lit .i64 29 w8 [x, s, s] (by simp)) (by omega)
      have H8 := Lib.hid (And.intro (H7.out.1.ext p8) (And.intro S8 (And.intro x8 (And.intro (H7.out.2.2.2.1.ext p8) (And.intro (H7.out.2.2.2.2.ext p8) f8)))))
      clear c7 g8 p8 f8 S8 x8
      go_wp2_with fail
      refine c8.mono ?_
      rintro e w9 ⟨N9, r3, rfl, g9, p9, f9⟩
      have S9 := H8.out.2.1.ext p9
      have x9 := H8.out.2.2.1.ext p9
      have B1 := H8.out.2.2.2.2.1.ext p9
      have B2 := H8.out.2.2.2.2.2.ext p9
      have HR : Hid (∀ j, j < 4 → ∃ r, [r1, r2, r3, x][j]? = some r ∧ (1 ≤ r ∧ r ≤ (N9.length : Int)) ∧ Bad N9 r) := Lib.hid (fun j hj => by
        rcases (by omega : j = 0 ∨ j = 1 ∨ j = 2 ∨ j = 3) with rfl | rfl | rfl | rfl
        · exact ⟨r1, rfl, ⟨B1.pos, B1.le⟩, .inl ⟨B1.pos, _, B1.at', .inr (by simp)⟩⟩
        · exact ⟨r2, rfl, ⟨B2.pos, B2.le⟩, .inr ⟨_, _, B2, S9⟩⟩
        · exact ⟨r3, rfl, ⟨f9.pos, f9.le⟩, .inl ⟨f9.pos, _, f9.at', .inr (by simp)⟩⟩
        · exact ⟨x, rfl, ⟨x9.pos, x9.le⟩, .inl ⟨x9.pos, _, x9.at', .inl (by simp)⟩⟩)
      have g10 : T.Gd X (w9.alloc (.cells #[.int .i64 r1, .int .i64 r2, .int .i64 r3, .int .i64 x] 29)) tb mb N9 7 ((w9.heap.size, (.cells #[.int .i64 r1, .int .i64 r2, .int .i64 r3, .int .i64 x] 29)) :: []) := ⟨g9.st.guest _ _ rfl, g9.good, g9.len⟩
      have p9' := Lib.hid p9
      have H9 := Lib.hid (And.intro (H8.out.1.ext p9) (And.intro (H8.out.2.2.2.1.ext p9) g10))
      clear c8 g9 p9 f9 S9 x9 B1 B2 g10
      go_wp2_with fail
      go_loopw [12] (fun i wr => ∃ (j : Nat) (M : List T.Nd), j ≤ 4 ∧ i = .int .i64 j ∧ Hid (T.Gd X wr tb mb M (7 + 2 * j) ((w9.heap.size, (.cells #[.int .i64 r1, .int .i64 r2, .int .i64 r3, .int .i64 x] 29)) :: []) ∧ N9 <+: M)) (fun i _ => 4 - (intOf i).toNat)
      case atStart => exact ⟨0, N9, by omega, rfl, Lib.hid ⟨H9.out.2.2, List.prefix_refl _⟩⟩
      case round =>
        obtain ⟨j, M, hj, rfl, hg⟩ := hrel
        have bn := tickOk_num HO.out
        have tnow : -9223372036854775808 ≤ t ∧ t ≤ 9223372036854775807 := by omega
        have HN := Lib.hid tnow
        clear bn tnow
        by_cases hlt : j < 4
        · have hlt' : (j : Int) < 4 := by omega
          obtain ⟨r, hr, hrr, hbad⟩ := HR.out j hlt
          have hrow := hg.out.1.st.own _ List.mem_cons_self
          simp only at hrow
          have HC : Hid (∀ w', w'.heap[w9.heap.size]? = some (.cells #[.int .i64 r1, .int .i64 r2, .int .i64 r3, .int .i64 x] 29 (0, 0)) → Below X.heap.size X w' → w'.cell? ⟨w9.heap.size, j, none⟩ = some (.int .i64 r) ∧ w'.cell? ⟨w.heap.size, 1, none⟩ = some (.int .i64 t)) := Lib.hid (fun w' h1 h2 => by
            refine ⟨?_, (cells3 (bk h2 H.out.2.1)).2.1⟩
            rw [cell_of_row w' w9.heap.size j _ _ (0, 0) h1]
            rcases (by omega : j = 0 ∨ j = 1 ∨ j = 2 ∨ j = 3) with rfl | rfl | rfl | rfl <;> (simp at hr; subst hr; rfl))
          have hS := HC.out wr.drew hrow hg.out.1.st.bel.drew
          have hSa := fun o => HC.out (wr.alloc o).drew (bk (below_alloc wr o).drew hrow) (hg.out.1.st.bel.trans ((below_alloc wr o).mono hg.out.1.st.bel.size)).drew
          have hSa2 := fun o o' => HC.out ((wr.alloc o).alloc o').drew (bk ((below_alloc wr o).trans ((below_alloc (wr.alloc o) o').mono (by simp))).drew hrow) (hg.out.1.st.bel.trans (((below_alloc wr o).trans ((below_alloc (wr.alloc o) o').mono (by simp))).mono hg.out.1.st.bel.size)).drew
          have HSa := Lib.hid hSa
          have HSa2 := Lib.hid hSa2
          clear hSa hSa2
          have HB := Lib.hid (And.intro hrr hbad)
          have hcvd : ∀ (wx : World) (C : Array Value) (n c : Nat), (convert 22 22 (.slice (some ⟨wx.heap.size, 0, none⟩) n c)).run Tryd.prog (wx.alloc (.cells C 5)).drew = .ok (.slice (some ⟨wx.heap.size, 0, none⟩) n c) (wx.alloc (.cells C 5 (C.size, C.size + 1))).drew := fun wx C n c => T.conv_const wx.drew C n c
          have hcvd2 : ∀ (wx : World) (C : Array Value) (z : Obj) (n c : Nat), (convert 22 22 (.slice (some ⟨wx.heap.size, 0, none⟩) n c)).run Tryd.prog ((wx.alloc (.cells C 5)).alloc z).drew = .ok (.slice (some ⟨wx.heap.size, 0, none⟩) n c) ((wx.alloc (.cells C 5 (C.size, C.size + 1))).alloc z).drew := fun wx C z n c => conv_const2 wx.drew C z n c
          have hcvd3 : ∀ (wx : World) (C : Array Value) (z : Obj) (n c : Nat), (convert 22 22 (.slice (some ⟨wx.heap.size + 1, 0, none⟩) n c)).run Tryd.prog ((wx.alloc z).alloc (.cells C 5)).drew = .ok (.slice (some ⟨wx.heap.size + 1, 0, none⟩) n c) ((wx.alloc z).alloc (.cells C 5 (C.size, C.size + 1))).drew := fun wx C z n c => by
            have := T.conv_const (wx.alloc z).drew C n c
            rw [show (wx.alloc z).drew.heap.size = wx.heap.size + 1 by simp] at this
            exact this
          have kr := (H9.out.1.ext hg.out.2).2
          have rr : 1 ≤ r ∧ r ≤ (M.length : Int) := ⟨hrr.1, by have := hrr.2; have := hg.out.2.length_le; omega⟩
          have cA1 : Calls Tryd.prog 23 #[.pointer (some ⟨tb, 0, none⟩), .int .i64 k, .slice (some ⟨wr.heap.size, 0, none⟩) 6 6, .int .i64 r] (wr.alloc cK).drew fun e w' => T.Tells X w' tb mb (7 + 2 * j + 2) M ((w9.heap.size, (.cells #[.int .i64 r1, .int .i64 r2, .int .i64 r3, .int .i64 x] 29)) :: []) e fun M c => T.IsSeal M c k (T.bstr tickH) r :=
            T.Gd.sealG (hg.out.1.keep (below_alloc _ _).drew) kr rr (T.Rd.litM wr.drew tickH 6 rfl (by simp)) (by simp) (by omega)
          have gZ2 : T.Gd X (wr.alloc zK) tb mb M (7 + 2 * j) ((wr.heap.size, zK) :: (w9.heap.size, (.cells #[.int .i64 r1, .int .i64 r2, .int .i64 r3, .int .i64 x] 29)) :: []) := ⟨hg.out.1.st.guest _ _ rfl, hg.out.1.good, hg.out.1.len⟩
          have cA2 : Calls Tryd.prog 23 #[.pointer (some ⟨tb, 0, none⟩), .int .i64 k, .slice (some ⟨wr.heap.size + 1, 0, none⟩) 6 6, .int .i64 r] ((wr.alloc zK).alloc cK).drew fun e w' => T.Tells X w' tb mb (7 + 2 * j + 2) M ((wr.heap.size, zK) :: (w9.heap.size, (.cells #[.int .i64 r1, .int .i64 r2, .int .i64 r3, .int .i64 x] 29)) :: []) e fun M c => T.IsSeal M c k (T.bstr tickH) r := by
            have rd := T.Rd.litM (wr.alloc zK).drew tickH 6 rfl (by simp)
            rw [show (wr.alloc zK).drew.heap.size = wr.heap.size + 1 by simp] at rd
            exact T.Gd.sealG (gZ2.keep (below_alloc _ _).drew) kr rr rd (by simp) (by omega)
          have gC3 := hg.out.1.keep (below_alloc wr cK)
          have gZ3 : T.Gd X ((wr.alloc cK).alloc zK) tb mb M (7 + 2 * j) ((wr.heap.size + 1, zK) :: (w9.heap.size, (.cells #[.int .i64 r1, .int .i64 r2, .int .i64 r3, .int .i64 x] 29)) :: []) := ⟨gC3.st.guest _ _ (by simp), gC3.good, gC3.len⟩
          have cA3 : Calls Tryd.prog 23 #[.pointer (some ⟨tb, 0, none⟩), .int .i64 k, .slice (some ⟨wr.heap.size, 0, none⟩) 6 6, .int .i64 r] ((wr.alloc cK).alloc zK).drew fun e w' => T.Tells X w' tb mb (7 + 2 * j + 2) M ((wr.heap.size + 1, zK) :: (w9.heap.size, (.cells #[.int .i64 r1, .int .i64 r2, .int .i64 r3, .int .i64 x] 29)) :: []) e fun M c => T.IsSeal M c k (T.bstr tickH) r := by
            have rd : T.Rd .u8 (wr.drew.alloc cK) (.slice (some ⟨wr.heap.size, 0, none⟩) 6 6) tickH := T.Rd.litM wr.drew tickH 6 rfl (by simp)
            exact T.Gd.sealG (gZ3.keep (Below.refl _ _).drew) kr rr (rd.below (below_alloc _ _)) (by simp) (by omega)
          have hszr : w9.heap.size < wr.heap.size := blkLt hrow
          have hXr : X.heap.size ≤ wr.heap.size := hg.out.1.st.bel.size
          have HSZ := Lib.hid (And.intro hszr hXr)
          clear hr hrr hbad hrow hlt kr rr gZ2 gC3 gZ3 hszr hXr
          go_wp2_with fail
          refine wp_region_noPanic ?_
          refine wp_region_held_drew (S := fun w' => w'.cell? ⟨w9.heap.size, j, none⟩ = some (.int .i64 r) ∧ w'.cell? ⟨w.heap.size, 1, none⟩ = some (.int .i64 t)) (by kernel_rfl) hS (fun hHeld => ?_)
          refine wpAnyH_take (i := 0) (oi := { dst := some 65, op := Op.move (Operand.tmp 5), type := 27, pos := "outright.go:39", after := #[], guard := none }) (v := ?_) rfl (by kernel_rfl) (by kernel_rfl) (by kernel_rfl) (fun _ _ _ h => h) (Or.inl ⟨by rfl, ?_⟩) (by assumption) ?_
          rotate_left
          · intro wq hSw; (try dsimp only at hSw); go_simp; try (with_reducible rfl)
          repeat (first | simp only [Act.put] | simp only [List.setIfInBounds_toArray] | simp only [List.set_cons_zero] | simp only [List.set_cons_succ])
          refine wpAnyH_take (i := 1) (oi := { dst := some 66, op := Op.move (Operand.tmp 6), type := 29, pos := "outright.go:39", after := #[], guard := none }) (v := ?_) rfl (by kernel_rfl) (by kernel_rfl) (by kernel_rfl) (fun _ _ _ h => h) (Or.inl ⟨by rfl, ?_⟩) (by assumption) ?_
          rotate_left
          · intro wq hSw; (try dsimp only at hSw); go_simp; try (with_reducible rfl)
          repeat (first | simp only [Act.put] | simp only [List.setIfInBounds_toArray] | simp only [List.set_cons_zero] | simp only [List.set_cons_succ])
          refine wpAnyH_take (i := 2) (oi := { dst := some 67, op := Op.move (Operand.tmp 5), type := 27, pos := "outright.go:39", after := #[], guard := none }) (v := ?_) rfl (by kernel_rfl) (by kernel_rfl) (by kernel_rfl) (fun _ _ _ h => h) (Or.inl ⟨by rfl, ?_⟩) (by assumption) ?_
          rotate_left
          · intro wq hSw; (try dsimp only at hSw); go_simp; try (with_reducible rfl)
          repeat (first | simp only [Act.put] | simp only [List.setIfInBounds_toArray] | simp only [List.set_cons_zero] | simp only [List.set_cons_succ])
          refine wpAnyH_take (i := 3) (oi := { dst := some 68, op := Op.move (Operand.tmp 6), type := 29, pos := "outright.go:39", after := #[], guard := none }) (v := ?_) rfl (by kernel_rfl) (by kernel_rfl) (by kernel_rfl) (fun _ _ _ h => h) (Or.inl ⟨by rfl, ?_⟩) (by assumption) ?_
          rotate_left
          · intro wq hSw; (try dsimp only at hSw); go_simp; try (with_reducible rfl)
          repeat (first | simp only [Act.put] | simp only [List.setIfInBounds_toArray] | simp only [List.set_cons_zero] | simp only [List.set_cons_succ])
          refine wpAnyH_take (i := 6) (oi := { dst := some 71, op := Op.move (Operand.tmp 11), type := 38, pos := "outright.go:39", after := #[], guard := none }) (v := ?_) rfl (by kernel_rfl) (by kernel_rfl) (by kernel_rfl) (fun _ _ _ h => h) (Or.inl ⟨by rfl, ?_⟩) (by assumption) ?_
          rotate_left
          · intro wq hSw; (try dsimp only at hSw); go_simp; try (with_reducible rfl)
          repeat (first | simp only [Act.put] | simp only [List.setIfInBounds_toArray] | simp only [List.set_cons_zero] | simp only [List.set_cons_succ])
          refine wpAnyH_take (i := 7) (oi := { dst := some 72, op := Op.move (Operand.tmp 12), type := 3, pos := "outright.go:39", after := #[], guard := none }) (v := ?_) rfl (by kernel_rfl) (by kernel_rfl) (by kernel_rfl) (fun _ _ _ h => h) (Or.inl ⟨by rfl, ?_⟩) (by assumption) ?_
          rotate_left
          · intro wq hSw; (try dsimp only at hSw); go_simp; try (with_reducible rfl)
          repeat (first | simp only [Act.put] | simp only [List.setIfInBounds_toArray] | simp only [List.set_cons_zero] | simp only [List.set_cons_succ])
          refine wpAnyH_take (i := 8) (oi := { dst := some 73, op := Op.indexAddr 38 (Operand.tmp 71) (Operand.tmp 72), type := 0, pos := "outright.go:39", after := #[{ on := 6, ground := Ground.data }, { on := 7, ground := Ground.data }], guard := none }) (v := ?_) rfl (by kernel_rfl) (by kernel_rfl) (by kernel_rfl) (fun _ _ _ h => h) (Or.inl ⟨by rfl, ?_⟩) (by assumption) ?_
          rotate_left
          · intro wq hSw; (try dsimp only at hSw); go_simp; try (with_reducible rfl)
          repeat (first | simp only [Act.put] | simp only [List.setIfInBounds_toArray] | simp only [List.set_cons_zero] | simp only [List.set_cons_succ])
          refine wpAnyH_take (i := 9) (oi := { dst := some 74, op := Op.load 29 (Operand.tmp 73), type := 29, pos := "outright.go:39", after := #[{ on := 8, ground := Ground.data }], guard := none }) (v := ?_) rfl (by kernel_rfl) (by kernel_rfl) (by kernel_rfl) (fun _ _ _ h => h) (Or.inl ⟨by rfl, ?_⟩) (by assumption) ?_
          rotate_left
          · intro wq hSw; (try dsimp only at hSw); go_simp; try (with_reducible rfl)
          repeat (first | simp only [Act.put] | simp only [List.setIfInBounds_toArray] | simp only [List.set_cons_zero] | simp only [List.set_cons_succ])
          refine wpAnyH_take (i := 11) (oi := { dst := some 76, op := Op.fieldAddr 58 (Operand.tmp 3) 1, type := 0, pos := "outright.go:39", after := #[], guard := none }) (v := ?_) rfl (by kernel_rfl) (by kernel_rfl) (by kernel_rfl) (fun _ _ _ h => h) (Or.inl ⟨by rfl, ?_⟩) (by assumption) ?_
          rotate_left
          · intro wq hSw; (try dsimp only at hSw); go_simp; try (with_reducible rfl)
          repeat (first | simp only [Act.put] | simp only [List.setIfInBounds_toArray] | simp only [List.set_cons_zero] | simp only [List.set_cons_succ])
          refine wpAnyH_take (i := 12) (oi := { dst := some 77, op := Op.load 3 (Operand.tmp 76), type := 3, pos := "outright.go:39", after := #[{ on := 11, ground := Ground.data }], guard := none }) (v := ?_) rfl (by kernel_rfl) (by kernel_rfl) (by kernel_rfl) (fun _ _ _ h => h) (Or.inl ⟨by rfl, ?_⟩) (by assumption) ?_
          rotate_left
          · intro wq hSw; (try dsimp only at hSw); go_simp; try (with_reducible rfl)
          repeat (first | simp only [Act.put] | simp only [List.setIfInBounds_toArray] | simp only [List.set_cons_zero] | simp only [List.set_cons_succ])
          refine wpAnyH_ready (rs := [4, 17]) (by kernel_rfl) (by simp) ?_
          refine AllReadyH.cons (o := { dst := some 69, op := Op.buildSlice 22 6 #[(0, Operand.const (Value.int IntKind.u8 116)), (1, Operand.const (Value.int IntKind.u8 105)), (2, Operand.const (Value.int IntKind.u8 99)), (3, Operand.const (Value.int IntKind.u8 107)), (4, Operand.const (Value.int IntKind.u8 101)), (5, Operand.const (Value.int IntKind.u8 116))], type := 22, pos := "outright.go:39", after := #[], guard := none }) rfl (fun K hK => ?_) ?_
          rotate_left
          refine AllReadyH.cons (o := { dst := some 13, op := Op.alloc 60, type := 0, pos := "outright.go:39", after := #[], guard := none }) rfl (fun K hK => ?_) ?_
          rotate_left
          exact AllReadyH.nil
          · skip
            go_simp
            refine hK.out _ _ ?_ (fun hHeld => ?_)
            · exact HSa.out _
            clear hK K
            repeat (first | simp only [Act.put] | simp only [List.setIfInBounds_toArray] | simp only [List.set_cons_zero] | simp only [List.set_cons_succ])
            refine wpAnyH_ready (rs := [5, 17]) (by kernel_rfl) (by simp) ?_
            refine AllReadyH.cons (o := { dst := some 70, op := Op.convert 22 22 (Operand.tmp 69), type := 22, pos := "outright.go:39", after := #[{ on := 4, ground := Ground.data }], guard := none }) rfl (fun K hK => ?_) ?_
            rotate_left
            refine AllReadyH.cons (o := { dst := some 13, op := Op.alloc 60, type := 0, pos := "outright.go:39", after := #[], guard := none }) rfl (fun K hK => ?_) ?_
            rotate_left
            exact AllReadyH.nil
            · skip
              go_simp
              refine hK.out _ _ ?_ (fun hHeld => ?_)
              · exact HSa.out _
              clear hK K
              repeat (first | simp only [Act.put] | simp only [List.setIfInBounds_toArray] | simp only [List.set_cons_zero] | simp only [List.set_cons_succ])
              refine wpAnyH_ready (rs := [10, 17]) (by kernel_rfl) (by simp) ?_
              refine AllReadyH.cons (o := { dst := some 75, op := Op.call { callee := Callee.value (Operand.func 23), args := #[Operand.tmp 67, Operand.tmp 68, Operand.tmp 70, Operand.tmp 74], argTypes := #[27, 29, 22, 29] }, type := 29, pos := "outright.go:39", after := #[{ on := 2, ground := Ground.data }, { on := 3, ground := Ground.data }, { on := 5, ground := Ground.data }, { on := 9, ground := Ground.data }], guard := none }) rfl (fun K hK => ?_) ?_
              rotate_left
              refine AllReadyH.cons (o := { dst := some 13, op := Op.alloc 60, type := 0, pos := "outright.go:39", after := #[], guard := none }) rfl (fun K hK => ?_) ?_
              rotate_left
              exact AllReadyH.nil
              · skip
                go_simp
                with_reducible refine cA1.mono ?_
                rintro e w11 ⟨N11, m, rfl, g11, p11, f11⟩
                refine hK.out _ _ ?_ (fun hHeld => ?_)
                · exact HC.out _ (g11.st.own _ List.mem_cons_self) g11.st.bel
                clear hK K
                repeat (first | simp only [Act.put] | simp only [List.setIfInBounds_toArray] | simp only [List.set_cons_zero] | simp only [List.set_cons_succ])
                refine wpAnyH_ready (rs := [13, 17]) (by kernel_rfl) (by simp) ?_
                refine AllReadyH.cons (o := { dst := some 78, op := Op.call { callee := Callee.value (Operand.func 29), args := #[Operand.tmp 65, Operand.tmp 66, Operand.tmp 75, Operand.tmp 77], argTypes := #[27, 29, 29, 3] }, type := 63, pos := "outright.go:39", after := #[{ on := 0, ground := Ground.data }, { on := 1, ground := Ground.data }, { on := 10, ground := Ground.data }, { on := 12, ground := Ground.data }, { on := 10, ground := Ground.chain }], guard := none }) rfl (fun K hK => ?_) ?_
                rotate_left
                refine AllReadyH.cons (o := { dst := some 13, op := Op.alloc 60, type := 0, pos := "outright.go:39", after := #[], guard := none }) rfl (fun K hK => ?_) ?_
                rotate_left
                exact AllReadyH.nil
                · skip
                  go_simp
                  refine (redeem_bad g11 HN.out (fun w1 g => look_bad g f11 (HB.out.2.ext (hg.out.2.trans p11)))).mono ?_
                  rintro e w12 ⟨rfl, g12, -⟩
                  refine hK.out _ _ ?_ (fun hHeld => ?_)
                  · exact HC.out _ (g12.st.own _ List.mem_cons_self) g12.st.bel
                  clear hK K
                  repeat (first | simp only [Act.put] | simp only [List.setIfInBounds_toArray] | simp only [List.set_cons_zero] | simp only [List.set_cons_succ])
                  refine wpAnyH_take (i := 14) (oi := { dst := some 64, op := Op.move (Operand.tmp 78), type := 63, pos := "outright.go:39", after := #[{ on := 13, ground := Ground.data }], guard := none }) (v := ?_) rfl (by kernel_rfl) (by kernel_rfl) (by kernel_rfl) (fun _ _ _ h => h) (Or.inl ⟨by rfl, ?_⟩) (by assumption) ?_
                  rotate_left
                  · intro wq hSw; (try dsimp only at hSw); go_simp; try (with_reducible rfl)
                  repeat (first | simp only [Act.put] | simp only [List.setIfInBounds_toArray] | simp only [List.set_cons_zero] | simp only [List.set_cons_succ])
                  refine wpAnyH_take (i := 15) (oi := { dst := some 79, op := Op.extract (Operand.tmp 64) 0, type := 60, pos := "outright.go:39", after := #[{ on := 14, ground := Ground.data }], guard := none }) (v := ?_) rfl (by kernel_rfl) (by kernel_rfl) (by kernel_rfl) (fun _ _ _ h => h) (Or.inl ⟨by rfl, ?_⟩) (by assumption) ?_
                  rotate_left
                  · intro wq hSw; (try dsimp only at hSw); go_simp; try (with_reducible rfl)
                  repeat (first | simp only [Act.put] | simp only [List.setIfInBounds_toArray] | simp only [List.set_cons_zero] | simp only [List.set_cons_succ])
                  refine wpAnyH_take (i := 16) (oi := { dst := some 80, op := Op.extract (Operand.tmp 64) 1, type := 43, pos := "outright.go:39", after := #[{ on := 14, ground := Ground.data }, { on := 18, ground := Ground.gcOnly Departure.lateStores }], guard := none }) (v := ?_) rfl (by kernel_rfl) (by kernel_rfl) (by kernel_rfl) (fun _ _ _ h => h) (Or.inl ⟨by rfl, ?_⟩) (by assumption) ?_
                  rotate_left
                  · intro wq hSw; (try dsimp only at hSw); go_simp; try (with_reducible rfl)
                  repeat (first | simp only [Act.put] | simp only [List.setIfInBounds_toArray] | simp only [List.set_cons_zero] | simp only [List.set_cons_succ])
                  refine wpAnyH_ready (rs := [17]) (by kernel_rfl) (by simp) ?_
                  refine AllReadyH.cons (o := { dst := some 13, op := Op.alloc 60, type := 0, pos := "outright.go:39", after := #[], guard := none }) rfl (fun K hK => ?_) ?_
                  rotate_left
                  exact AllReadyH.nil
                  · skip
                    go_simp
                    refine hK.out _ _ ?_ (fun hHeld => ?_)
                    · exact HC.out _ ((g12.keep (below_alloc _ _)).st.own _ List.mem_cons_self) (g12.keep (below_alloc _ _)).st.bel
                    clear hK K
                    repeat (first | simp only [Act.put] | simp only [List.setIfInBounds_toArray] | simp only [List.set_cons_zero] | simp only [List.set_cons_succ])
                    have gz : T.Gd X (w12.alloc zK) tb mb N11 (7 + 2 * j + 2) ((w12.heap.size, zK) :: (w9.heap.size, (.cells #[.int .i64 r1, .int .i64 r2, .int .i64 r3, .int .i64 x] 29)) :: []) := ⟨g12.st.guest _ _ rfl, g12.good, g12.len⟩
                    obtain ⟨z0, z1, z2, z3, zf⟩ := cells4 (gz.st.own _ List.mem_cons_self)
                    refine wpAnyH_ready (rs := [18]) (by kernel_rfl) (by simp) ?_
                    refine AllReadyH.cons (o := { dst := none, op := Op.store 60 (Operand.tmp 13) (Operand.tmp 79), type := 0, pos := "outright.go:39", after := #[{ on := 17, ground := Ground.data }, { on := 15, ground := Ground.data }, { on := 13, ground := Ground.chain }, { on := 0, ground := Ground.phase }, { on := 1, ground := Ground.phase }, { on := 2, ground := Ground.phase }, { on := 3, ground := Ground.phase }, { on := 4, ground := Ground.phase }, { on := 5, ground := Ground.phase }, { on := 6, ground := Ground.phase }, { on := 7, ground := Ground.phase }, { on := 8, ground := Ground.phase }, { on := 9, ground := Ground.phase }, { on := 10, ground := Ground.phase }, { on := 11, ground := Ground.phase }, { on := 12, ground := Ground.phase }, { on := 13, ground := Ground.phase }, { on := 14, ground := Ground.phase }, { on := 15, ground := Ground.phase }, { on := 16, ground := Ground.textOnly Departure.lateStores }, { on := 17, ground := Ground.phase }], guard := none }) rfl (fun K hK => ?_) ?_
                    rotate_left
                    exact AllReadyH.nil
                    · skip
                      go_simp
                      have gF : T.Gd X (w12.alloc zK) tb mb N11 (7 + 2 * j + 2) ((w9.heap.size, (.cells #[.int .i64 r1, .int .i64 r2, .int .i64 r3, .int .i64 x] 29)) :: []) := ⟨gz.st.sub fun u hu => List.mem_cons_of_mem _ hu, gz.good, gz.len⟩
                      have hne : True := trivial
                      have hlo : True := trivial
                      refine hK.out _ _ ?_ (fun hHeld => ?_)
                      · exact HC.out _ (gF.st.own _ List.mem_cons_self) gF.st.bel
                      clear hK K
                      have HF := Lib.hid (And.intro gF (hg.out.2.trans p11))
                      clear gF gz g11 g12 p11 f11 hne hlo z0 z1 z2 z3 zf cA1 cA2 cA3 hcvd hcvd2 hcvd3 hS
                      repeat (first | simp only [Act.put] | simp only [List.setIfInBounds_toArray] | simp only [List.set_cons_zero] | simp only [List.set_cons_succ])
                      refine wpAnyH_take (i := 19) (oi := { dst := some 14, op := Op.assign (Operand.tmp 80), type := 43, pos := "outright.go:39", after := #[{ on := 16, ground := Ground.data }, { on := 18, ground := Ground.chain }, { on := 0, ground := Ground.phase }, { on := 1, ground := Ground.phase }, { on := 2, ground := Ground.phase }, { on := 3, ground := Ground.phase }, { on := 4, ground := Ground.phase }, { on := 5, ground := Ground.phase }, { on := 6, ground := Ground.phase }, { on := 7, ground := Ground.phase }, { on := 8, ground := Ground.phase }, { on := 9, ground := Ground.phase }, { on := 10, ground := Ground.phase }, { on := 11, ground := Ground.phase }, { on := 12, ground := Ground.phase }, { on := 13, ground := Ground.phase }, { on := 14, ground := Ground.phase }, { on := 15, ground := Ground.phase }, { on := 16, ground := Ground.phase }, { on := 17, ground := Ground.phase }, { on := 18, ground := Ground.phase }], guard := none }) (v := ?_) rfl (by kernel_rfl) (by kernel_rfl) (by kernel_rfl) (fun _ _ _ h => h) (Or.inl ⟨by rfl, ?_⟩) (by assumption) ?_
                      rotate_left
                      · intro wq hSw; (try dsimp only at hSw); go_simp; try (with_reducible rfl)
                      repeat (first | simp only [Act.put] | simp only [List.setIfInBounds_toArray] | simp only [List.set_cons_zero] | simp only [List.set_cons_succ])
                      refine wpAnyH_done (by kernel_rfl) ?_ _
                      refine NoPanic.normal ?_
                      go_wp2_with fail
                      go_round
                      case rel => exact ⟨j + 1, N11, by omega, by go_num, Lib.hid ⟨⟨HF.out.1.st, HF.out.1.good, by have := HF.out.1.len; omega⟩, HF.out.2⟩⟩
                      case measure => simp [intOf]; omega
                · skip
                  go_simp
                  refine hK.out _ _ ?_ (fun hHeld => ?_)
                  · exact HC.out _ ((g11.keep (below_alloc _ _)).st.own _ List.mem_cons_self) (g11.keep (below_alloc _ _)).st.bel
                  clear hK K
                  repeat (first | simp only [Act.put] | simp only [List.setIfInBounds_toArray] | simp only [List.set_cons_zero] | simp only [List.set_cons_succ])
                  have g11z : T.Gd X (w11.alloc zK) tb mb N11 (7 + 2 * j + 2) ((w11.heap.size, zK) :: (w9.heap.size, (.cells #[.int .i64 r1, .int .i64 r2, .int .i64 r3, .int .i64 x] 29)) :: []) := ⟨g11.st.guest _ _ rfl, g11.good, g11.len⟩
                  refine wpAnyH_ready (rs := [13]) (by kernel_rfl) (by simp) ?_
                  refine AllReadyH.cons (o := { dst := some 78, op := Op.call { callee := Callee.value (Operand.func 29), args := #[Operand.tmp 65, Operand.tmp 66, Operand.tmp 75, Operand.tmp 77], argTypes := #[27, 29, 29, 3] }, type := 63, pos := "outright.go:39", after := #[{ on := 0, ground := Ground.data }, { on := 1, ground := Ground.data }, { on := 10, ground := Ground.data }, { on := 12, ground := Ground.data }, { on := 10, ground := Ground.chain }], guard := none }) rfl (fun K hK => ?_) ?_
                  rotate_left
                  exact AllReadyH.nil
                  · skip
                    go_simp
                    refine (redeem_bad g11z HN.out (fun w1 g => look_bad g f11 (HB.out.2.ext (hg.out.2.trans p11)))).mono ?_
                    rintro e w12 ⟨rfl, g12, -⟩
                    refine hK.out _ _ ?_ (fun hHeld => ?_)
                    · exact HC.out _ (g12.st.own _ (List.mem_cons_of_mem _ List.mem_cons_self)) g12.st.bel
                    clear hK K
                    repeat (first | simp only [Act.put] | simp only [List.setIfInBounds_toArray] | simp only [List.set_cons_zero] | simp only [List.set_cons_succ])
                    have gz := g12
                    refine wpAnyH_take (i := 14) (oi := { dst := some 64, op := Op.move (Operand.tmp 78), type := 63, pos := "outright.go:39", after := #[{ on := 13, ground := Ground.data }], guard := none }) (v := ?_) rfl (by kernel_rfl) (by kernel_rfl) (by kernel_rfl) (fun _ _ _ h => h) (Or.inl ⟨by rfl, ?_⟩) (by assumption) ?_
                    rotate_left
                    · intro wq hSw; (try dsimp only at hSw); go_simp; try (with_reducible rfl)
                    repeat (first | simp only [Act.put] | simp only [List.setIfInBounds_toArray] | simp only [List.set_cons_zero] | simp only [List.set_cons_succ])
                    refine wpAnyH_take (i := 15) (oi := { dst := some 79, op := Op.extract (Operand.tmp 64) 0, type := 60, pos := "outright.go:39", after := #[{ on := 14, ground := Ground.data }], guard := none }) (v := ?_) rfl (by kernel_rfl) (by kernel_rfl) (by kernel_rfl) (fun _ _ _ h => h) (Or.inl ⟨by rfl, ?_⟩) (by assumption) ?_
                    rotate_left
                    · intro wq hSw; (try dsimp only at hSw); go_simp; try (with_reducible rfl)
                    repeat (first | simp only [Act.put] | simp only [List.setIfInBounds_toArray] | simp only [List.set_cons_zero] | simp only [List.set_cons_succ])
                    refine wpAnyH_take (i := 16) (oi := { dst := some 80, op := Op.extract (Operand.tmp 64) 1, type := 43, pos := "outright.go:39", after := #[{ on := 14, ground := Ground.data }, { on := 18, ground := Ground.gcOnly Departure.lateStores }], guard := none }) (v := ?_) rfl (by kernel_rfl) (by kernel_rfl) (by kernel_rfl) (fun _ _ _ h => h) (Or.inl ⟨by rfl, ?_⟩) (by assumption) ?_
                    rotate_left
                    · intro wq hSw; (try dsimp only at hSw); go_simp; try (with_reducible rfl)
                    repeat (first | simp only [Act.put] | simp only [List.setIfInBounds_toArray] | simp only [List.set_cons_zero] | simp only [List.set_cons_succ])
                    obtain ⟨z0, z1, z2, z3, zf⟩ := cells4 (gz.st.own _ List.mem_cons_self)
                    refine wpAnyH_ready (rs := [18]) (by kernel_rfl) (by simp) ?_
                    refine AllReadyH.cons (o := { dst := none, op := Op.store 60 (Operand.tmp 13) (Operand.tmp 79), type := 0, pos := "outright.go:39", after := #[{ on := 17, ground := Ground.data }, { on := 15, ground := Ground.data }, { on := 13, ground := Ground.chain }, { on := 0, ground := Ground.phase }, { on := 1, ground := Ground.phase }, { on := 2, ground := Ground.phase }, { on := 3, ground := Ground.phase }, { on := 4, ground := Ground.phase }, { on := 5, ground := Ground.phase }, { on := 6, ground := Ground.phase }, { on := 7, ground := Ground.phase }, { on := 8, ground := Ground.phase }, { on := 9, ground := Ground.phase }, { on := 10, ground := Ground.phase }, { on := 11, ground := Ground.phase }, { on := 12, ground := Ground.phase }, { on := 13, ground := Ground.phase }, { on := 14, ground := Ground.phase }, { on := 15, ground := Ground.phase }, { on := 16, ground := Ground.textOnly Departure.lateStores }, { on := 17, ground := Ground.phase }], guard := none }) rfl (fun K hK => ?_) ?_
                    rotate_left
                    exact AllReadyH.nil
                    · skip
                      go_simp
                      have hne : ∀ u ∈ [(w9.heap.size, ((.cells #[.int .i64 r1, .int .i64 r2, .int .i64 r3, .int .i64 x] 29) : Obj))], u.1 ≠ w11.heap.size := fun u hu => by rw [List.mem_singleton.1 hu]; have := HSZ.out; have := blkLt (g11.st.own _ List.mem_cons_self); simp only; omega
                      have hlo : X.heap.size ≤ w11.heap.size := by have := HSZ.out; have := g11.st.bel.size; omega
                      have gF := gd_chain gz hne hlo (.int .i64 0) (.int .i64 0) (.int .i64 0) (.int .i64 0)
                      refine hK.out _ _ ?_ (fun hHeld => ?_)
                      · exact HC.out _ (gF.st.own _ List.mem_cons_self) gF.st.bel
                      clear hK K
                      have HF := Lib.hid (And.intro gF (hg.out.2.trans p11))
                      clear gF gz g11 g12 p11 f11 hne hlo z0 z1 z2 z3 zf cA1 cA2 cA3 hcvd hcvd2 hcvd3 hS
                      repeat (first | simp only [Act.put] | simp only [List.setIfInBounds_toArray] | simp only [List.set_cons_zero] | simp only [List.set_cons_succ])
                      refine wpAnyH_take (i := 19) (oi := { dst := some 14, op := Op.assign (Operand.tmp 80), type := 43, pos := "outright.go:39", after := #[{ on := 16, ground := Ground.data }, { on := 18, ground := Ground.chain }, { on := 0, ground := Ground.phase }, { on := 1, ground := Ground.phase }, { on := 2, ground := Ground.phase }, { on := 3, ground := Ground.phase }, { on := 4, ground := Ground.phase }, { on := 5, ground := Ground.phase }, { on := 6, ground := Ground.phase }, { on := 7, ground := Ground.phase }, { on := 8, ground := Ground.phase }, { on := 9, ground := Ground.phase }, { on := 10, ground := Ground.phase }, { on := 11, ground := Ground.phase }, { on := 12, ground := Ground.phase }, { on := 13, ground := Ground.phase }, { on := 14, ground := Ground.phase }, { on := 15, ground := Ground.phase }, { on := 16, ground := Ground.phase }, { on := 17, ground := Ground.phase }, { on := 18, ground := Ground.phase }], guard := none }) (v := ?_) rfl (by kernel_rfl) (by kernel_rfl) (by kernel_rfl) (fun _ _ _ h => h) (Or.inl ⟨by rfl, ?_⟩) (by assumption) ?_
                      rotate_left
                      · intro wq hSw; (try dsimp only at hSw); go_simp; try (with_reducible rfl)
                      repeat (first | simp only [Act.put] | simp only [List.setIfInBounds_toArray] | simp only [List.set_cons_zero] | simp only [List.set_cons_succ])
                      refine wpAnyH_done (by kernel_rfl) ?_ _
                      refine NoPanic.normal ?_
                      go_wp2_with fail
                      go_round
                      case rel => exact ⟨j + 1, N11, by omega, by go_num, Lib.hid ⟨⟨HF.out.1.st, HF.out.1.good, by have := HF.out.1.len; omega⟩, HF.out.2⟩⟩
                      case measure => simp [intOf]; omega
              · skip
                go_simp
                refine hK.out _ _ ?_ (fun hHeld => ?_)
                · exact HSa2.out _ _
                clear hK K
                repeat (first | simp only [Act.put] | simp only [List.setIfInBounds_toArray] | simp only [List.set_cons_zero] | simp only [List.set_cons_succ])
                refine wpAnyH_ready (rs := [10]) (by kernel_rfl) (by simp) ?_
                refine AllReadyH.cons (o := { dst := some 75, op := Op.call { callee := Callee.value (Operand.func 23), args := #[Operand.tmp 67, Operand.tmp 68, Operand.tmp 70, Operand.tmp 74], argTypes := #[27, 29, 22, 29] }, type := 29, pos := "outright.go:39", after := #[{ on := 2, ground := Ground.data }, { on := 3, ground := Ground.data }, { on := 5, ground := Ground.data }, { on := 9, ground := Ground.data }], guard := none }) rfl (fun K hK => ?_) ?_
                rotate_left
                exact AllReadyH.nil
                · skip
                  go_simp
                  with_reducible refine cA3.mono ?_
                  rintro e w11 ⟨N11, m, rfl, g11, p11, f11⟩
                  refine hK.out _ _ ?_ (fun hHeld => ?_)
                  · exact HC.out _ (g11.st.own _ (List.mem_cons_of_mem _ List.mem_cons_self)) g11.st.bel
                  clear hK K
                  repeat (first | simp only [Act.put] | simp only [List.setIfInBounds_toArray] | simp only [List.set_cons_zero] | simp only [List.set_cons_succ])
                  refine wpAnyH_ready (rs := [13]) (by kernel_rfl) (by simp) ?_
                  refine AllReadyH.cons (o := { dst := some 78, op := Op.call { callee := Callee.value (Operand.func 29), args := #[Operand.tmp 65, Operand.tmp 66, Operand.tmp 75, Operand.tmp 77], argTypes := #[27, 29, 29, 3] }, type := 63, pos := "outright.go:39", after := #[{ on := 0, ground := Ground.data }, { on := 1, ground := Ground.data }, { on := 10, ground := Ground.data }, { on := 12, ground := Ground.data }, { on := 10, ground := Ground.chain }], guard := none }) rfl (fun K hK => ?_) ?_
                  rotate_left
                  exact AllReadyH.nil
                  · skip
                    go_simp
                    refine (redeem_bad g11 HN.out (fun w1 g => look_bad g f11 (HB.out.2.ext (hg.out.2.trans p11)))).mono ?_
                    rintro e w12 ⟨rfl, g12, -⟩
                    refine hK.out _ _ ?_ (fun hHeld => ?_)
                    · exact HC.out _ (g12.st.own _ (List.mem_cons_of_mem _ List.mem_cons_self)) g12.st.bel
                    clear hK K
                    repeat (first | simp only [Act.put] | simp only [List.setIfInBounds_toArray] | simp only [List.set_cons_zero] | simp only [List.set_cons_succ])
                    have gz := g12
                    refine wpAnyH_take (i := 14) (oi := { dst := some 64, op := Op.move (Operand.tmp 78), type := 63, pos := "outright.go:39", after := #[{ on := 13, ground := Ground.data }], guard := none }) (v := ?_) rfl (by kernel_rfl) (by kernel_rfl) (by kernel_rfl) (fun _ _ _ h => h) (Or.inl ⟨by rfl, ?_⟩) (by assumption) ?_
                    rotate_left
                    · intro wq hSw; (try dsimp only at hSw); go_simp; try (with_reducible rfl)
                    repeat (first | simp only [Act.put] | simp only [List.setIfInBounds_toArray] | simp only [List.set_cons_zero] | simp only [List.set_cons_succ])
                    refine wpAnyH_take (i := 15) (oi := { dst := some 79, op := Op.extract (Operand.tmp 64) 0, type := 60, pos := "outright.go:39", after := #[{ on := 14, ground := Ground.data }], guard := none }) (v := ?_) rfl (by kernel_rfl) (by kernel_rfl) (by kernel_rfl) (fun _ _ _ h => h) (Or.inl ⟨by rfl, ?_⟩) (by assumption) ?_
                    rotate_left
                    · intro wq hSw; (try dsimp only at hSw); go_simp; try (with_reducible rfl)
                    repeat (first | simp only [Act.put] | simp only [List.setIfInBounds_toArray] | simp only [List.set_cons_zero] | simp only [List.set_cons_succ])
                    refine wpAnyH_take (i := 16) (oi := { dst := some 80, op := Op.extract (Operand.tmp 64) 1, type := 43, pos := "outright.go:39", after := #[{ on := 14, ground := Ground.data }, { on := 18, ground := Ground.gcOnly Departure.lateStores }], guard := none }) (v := ?_) rfl (by kernel_rfl) (by kernel_rfl) (by kernel_rfl) (fun _ _ _ h => h) (Or.inl ⟨by rfl, ?_⟩) (by assumption) ?_
                    rotate_left
                    · intro wq hSw; (try dsimp only at hSw); go_simp; try (with_reducible rfl)
                    repeat (first | simp only [Act.put] | simp only [List.setIfInBounds_toArray] | simp only [List.set_cons_zero] | simp only [List.set_cons_succ])
                    obtain ⟨z0, z1, z2, z3, zf⟩ := cells4 (gz.st.own _ List.mem_cons_self)
                    refine wpAnyH_ready (rs := [18]) (by kernel_rfl) (by simp) ?_
                    refine AllReadyH.cons (o := { dst := none, op := Op.store 60 (Operand.tmp 13) (Operand.tmp 79), type := 0, pos := "outright.go:39", after := #[{ on := 17, ground := Ground.data }, { on := 15, ground := Ground.data }, { on := 13, ground := Ground.chain }, { on := 0, ground := Ground.phase }, { on := 1, ground := Ground.phase }, { on := 2, ground := Ground.phase }, { on := 3, ground := Ground.phase }, { on := 4, ground := Ground.phase }, { on := 5, ground := Ground.phase }, { on := 6, ground := Ground.phase }, { on := 7, ground := Ground.phase }, { on := 8, ground := Ground.phase }, { on := 9, ground := Ground.phase }, { on := 10, ground := Ground.phase }, { on := 11, ground := Ground.phase }, { on := 12, ground := Ground.phase }, { on := 13, ground := Ground.phase }, { on := 14, ground := Ground.phase }, { on := 15, ground := Ground.phase }, { on := 16, ground := Ground.textOnly Departure.lateStores }, { on := 17, ground := Ground.phase }], guard := none }) rfl (fun K hK => ?_) ?_
                    rotate_left
                    exact AllReadyH.nil
                    · skip
                      go_simp
                      have hne : ∀ u ∈ [(w9.heap.size, ((.cells #[.int .i64 r1, .int .i64 r2, .int .i64 r3, .int .i64 x] 29) : Obj))], u.1 ≠ (wr.heap.size + 1) := fun u hu => by rw [List.mem_singleton.1 hu]; have := HSZ.out; simp only; omega
                      have hlo : X.heap.size ≤ (wr.heap.size + 1) := by have := HSZ.out; omega
                      have gF := gd_chain gz hne hlo (.int .i64 0) (.int .i64 0) (.int .i64 0) (.int .i64 0)
                      refine hK.out _ _ ?_ (fun hHeld => ?_)
                      · exact HC.out _ (gF.st.own _ List.mem_cons_self) gF.st.bel
                      clear hK K
                      have HF := Lib.hid (And.intro gF (hg.out.2.trans p11))
                      clear gF gz g11 g12 p11 f11 hne hlo z0 z1 z2 z3 zf cA1 cA2 cA3 hcvd hcvd2 hcvd3 hS
                      repeat (first | simp only [Act.put] | simp only [List.setIfInBounds_toArray] | simp only [List.set_cons_zero] | simp only [List.set_cons_succ])
                      refine wpAnyH_take (i := 19) (oi := { dst := some 14, op := Op.assign (Operand.tmp 80), type := 43, pos := "outright.go:39", after := #[{ on := 16, ground := Ground.data }, { on := 18, ground := Ground.chain }, { on := 0, ground := Ground.phase }, { on := 1, ground := Ground.phase }, { on := 2, ground := Ground.phase }, { on := 3, ground := Ground.phase }, { on := 4, ground := Ground.phase }, { on := 5, ground := Ground.phase }, { on := 6, ground := Ground.phase }, { on := 7, ground := Ground.phase }, { on := 8, ground := Ground.phase }, { on := 9, ground := Ground.phase }, { on := 10, ground := Ground.phase }, { on := 11, ground := Ground.phase }, { on := 12, ground := Ground.phase }, { on := 13, ground := Ground.phase }, { on := 14, ground := Ground.phase }, { on := 15, ground := Ground.phase }, { on := 16, ground := Ground.phase }, { on := 17, ground := Ground.phase }, { on := 18, ground := Ground.phase }], guard := none }) (v := ?_) rfl (by kernel_rfl) (by kernel_rfl) (by kernel_rfl) (fun _ _ _ h => h) (Or.inl ⟨by rfl, ?_⟩) (by assumption) ?_
                      rotate_left
                      · intro wq hSw; (try dsimp only at hSw); go_simp; try (with_reducible rfl)
                      repeat (first | simp only [Act.put] | simp only [List.setIfInBounds_toArray] | simp only [List.set_cons_zero] | simp only [List.set_cons_succ])
                      refine wpAnyH_done (by kernel_rfl) ?_ _
                      refine NoPanic.normal ?_
                      go_wp2_with fail
                      go_round
                      case rel => exact ⟨j + 1, N11, by omega, by go_num, Lib.hid ⟨⟨HF.out.1.st, HF.out.1.good, by have := HF.out.1.len; omega⟩, HF.out.2⟩⟩
                      case measure => simp [intOf]; omega
            · skip
              go_simp
              refine hK.out _ _ ?_ (fun hHeld => ?_)
              · exact HSa2.out _ _
              clear hK K
              repeat (first | simp only [Act.put] | simp only [List.setIfInBounds_toArray] | simp only [List.set_cons_zero] | simp only [List.set_cons_succ])
              refine wpAnyH_ready (rs := [5]) (by kernel_rfl) (by simp) ?_
              refine AllReadyH.cons (o := { dst := some 70, op := Op.convert 22 22 (Operand.tmp 69), type := 22, pos := "outright.go:39", after := #[{ on := 4, ground := Ground.data }], guard := none }) rfl (fun K hK => ?_) ?_
              rotate_left
              exact AllReadyH.nil
              · skip
                go_simp
                refine hK.out _ _ ?_ (fun hHeld => ?_)
                · exact HSa2.out _ _
                clear hK K
                repeat (first | simp only [Act.put] | simp only [List.setIfInBounds_toArray] | simp only [List.set_cons_zero] | simp only [List.set_cons_succ])
                refine wpAnyH_ready (rs := [10]) (by kernel_rfl) (by simp) ?_
                refine AllReadyH.cons (o := { dst := some 75, op := Op.call { callee := Callee.value (Operand.func 23), args := #[Operand.tmp 67, Operand.tmp 68, Operand.tmp 70, Operand.tmp 74], argTypes := #[27, 29, 22, 29] }, type := 29, pos := "outright.go:39", after := #[{ on := 2, ground := Ground.data }, { on := 3, ground := Ground.data }, { on := 5, ground := Ground.data }, { on := 9, ground := Ground.data }], guard := none }) rfl (fun K hK => ?_) ?_
                rotate_left
                exact AllReadyH.nil
                · skip
                  go_simp
                  with_reducible refine cA3.mono ?_
                  rintro e w11 ⟨N11, m, rfl, g11, p11, f11⟩
                  refine hK.out _ _ ?_ (fun hHeld => ?_)
                  · exact HC.out _ (g11.st.own _ (List.mem_cons_of_mem _ List.mem_cons_self)) g11.st.bel
                  clear hK K
                  repeat (first | simp only [Act.put] | simp only [List.setIfInBounds_toArray] | simp only [List.set_cons_zero] | simp only [List.set_cons_succ])
                  refine wpAnyH_ready (rs := [13]) (by kernel_rfl) (by simp) ?_
                  refine AllReadyH.cons (o := { dst := some 78, op := Op.call { callee := Callee.value (Operand.func 29), args := #[Operand.tmp 65, Operand.tmp 66, Operand.tmp 75, Operand.tmp 77], argTypes := #[27, 29, 29, 3] }, type := 63, pos := "outright.go:39", after := #[{ on := 0, ground := Ground.data }, { on := 1, ground := Ground.data }, { on := 10, ground := Ground.data }, { on := 12, ground := Ground.data }, { on := 10, ground := Ground.chain }], guard := none }) rfl (fun K hK => ?_) ?_
                  rotate_left
                  exact AllReadyH.nil
                  · skip
                    go_simp
                    refine (redeem_bad g11 HN.out (fun w1 g => look_bad g f11 (HB.out.2.ext (hg.out.2.trans p11)))).mono ?_
                    rintro e w12 ⟨rfl, g12, -⟩
                    refine hK.out _ _ ?_ (fun hHeld => ?_)
                    · exact HC.out _ (g12.st.own _ (List.mem_cons_of_mem _ List.mem_cons_self)) g12.st.bel
                    clear hK K
                    repeat (first | simp only [Act.put] | simp only [List.setIfInBounds_toArray] | simp only [List.set_cons_zero] | simp only [List.set_cons_succ])
                    have gz := g12
                    refine wpAnyH_take (i := 14) (oi := { dst := some 64, op := Op.move (Operand.tmp 78), type := 63, pos := "outright.go:39", after := #[{ on := 13, ground := Ground.data }], guard := none }) (v := ?_) rfl (by kernel_rfl) (by kernel_rfl) (by kernel_rfl) (fun _ _ _ h => h) (Or.inl ⟨by rfl, ?_⟩) (by assumption) ?_
                    rotate_left
                    · intro wq hSw; (try dsimp only at hSw); go_simp; try (with_reducible rfl)
                    repeat (first | simp only [Act.put] | simp only [List.setIfInBounds_toArray] | simp only [List.set_cons_zero] | simp only [List.set_cons_succ])
                    refine wpAnyH_take (i := 15) (oi := { dst := some 79, op := Op.extract (Operand.tmp 64) 0, type := 60, pos := "outright.go:39", after := #[{ on := 14, ground := Ground.data }], guard := none }) (v := ?_) rfl (by kernel_rfl) (by kernel_rfl) (by kernel_rfl) (fun _ _ _ h => h) (Or.inl ⟨by rfl, ?_⟩) (by assumption) ?_
                    rotate_left
                    · intro wq hSw; (try dsimp only at hSw); go_simp; try (with_reducible rfl)
                    repeat (first | simp only [Act.put] | simp only [List.setIfInBounds_toArray] | simp only [List.set_cons_zero] | simp only [List.set_cons_succ])
                    refine wpAnyH_take (i := 16) (oi := { dst := some 80, op := Op.extract (Operand.tmp 64) 1, type := 43, pos := "outright.go:39", after := #[{ on := 14, ground := Ground.data }, { on := 18, ground := Ground.gcOnly Departure.lateStores }], guard := none }) (v := ?_) rfl (by kernel_rfl) (by kernel_rfl) (by kernel_rfl) (fun _ _ _ h => h) (Or.inl ⟨by rfl, ?_⟩) (by assumption) ?_
                    rotate_left
                    · intro wq hSw; (try dsimp only at hSw); go_simp; try (with_reducible rfl)
                    repeat (first | simp only [Act.put] | simp only [List.setIfInBounds_toArray] | simp only [List.set_cons_zero] | simp only [List.set_cons_succ])
                    obtain ⟨z0, z1, z2, z3, zf⟩ := cells4 (gz.st.own _ List.mem_cons_self)
                    refine wpAnyH_ready (rs := [18]) (by kernel_rfl) (by simp) ?_
                    refine AllReadyH.cons (o := { dst := none, op := Op.store 60 (Operand.tmp 13) (Operand.tmp 79), type := 0, pos := "outright.go:39", after := #[{ on := 17, ground := Ground.data }, { on := 15, ground := Ground.data }, { on := 13, ground := Ground.chain }, { on := 0, ground := Ground.phase }, { on := 1, ground := Ground.phase }, { on := 2, ground := Ground.phase }, { on := 3, ground := Ground.phase }, { on := 4, ground := Ground.phase }, { on := 5, ground := Ground.phase }, { on := 6, ground := Ground.phase }, { on := 7, ground := Ground.phase }, { on := 8, ground := Ground.phase }, { on := 9, ground := Ground.phase }, { on := 10, ground := Ground.phase }, { on := 11, ground := Ground.phase }, { on := 12, ground := Ground.phase }, { on := 13, ground := Ground.phase }, { on := 14, ground := Ground.phase }, { on := 15, ground := Ground.phase }, { on := 16, ground := Ground.textOnly Departure.lateStores }, { on := 17, ground := Ground.phase }], guard := none }) rfl (fun K hK => ?_) ?_
                    rotate_left
                    exact AllReadyH.nil
                    · skip
                      go_simp
                      have hne : ∀ u ∈ [(w9.heap.size, ((.cells #[.int .i64 r1, .int .i64 r2, .int .i64 r3, .int .i64 x] 29) : Obj))], u.1 ≠ (wr.heap.size + 1) := fun u hu => by rw [List.mem_singleton.1 hu]; have := HSZ.out; simp only; omega
                      have hlo : X.heap.size ≤ (wr.heap.size + 1) := by have := HSZ.out; omega
                      have gF := gd_chain gz hne hlo (.int .i64 0) (.int .i64 0) (.int .i64 0) (.int .i64 0)
                      refine hK.out _ _ ?_ (fun hHeld => ?_)
                      · exact HC.out _ (gF.st.own _ List.mem_cons_self) gF.st.bel
                      clear hK K
                      have HF := Lib.hid (And.intro gF (hg.out.2.trans p11))
                      clear gF gz g11 g12 p11 f11 hne hlo z0 z1 z2 z3 zf cA1 cA2 cA3 hcvd hcvd2 hcvd3 hS
                      repeat (first | simp only [Act.put] | simp only [List.setIfInBounds_toArray] | simp only [List.set_cons_zero] | simp only [List.set_cons_succ])
                      refine wpAnyH_take (i := 19) (oi := { dst := some 14, op := Op.assign (Operand.tmp 80), type := 43, pos := "outright.go:39", after := #[{ on := 16, ground := Ground.data }, { on := 18, ground := Ground.chain }, { on := 0, ground := Ground.phase }, { on := 1, ground := Ground.phase }, { on := 2, ground := Ground.phase }, { on := 3, ground := Ground.phase }, { on := 4, ground := Ground.phase }, { on := 5, ground := Ground.phase }, { on := 6, ground := Ground.phase }, { on := 7, ground := Ground.phase }, { on := 8, ground := Ground.phase }, { on := 9, ground := Ground.phase }, { on := 10, ground := Ground.phase }, { on := 11, ground := Ground.phase }, { on := 12, ground := Ground.phase }, { on := 13, ground := Ground.phase }, { on := 14, ground := Ground.phase }, { on := 15, ground := Ground.phase }, { on := 16, ground := Ground.phase }, { on := 17, ground := Ground.phase }, { on := 18, ground := Ground.phase }], guard := none }) (v := ?_) rfl (by kernel_rfl) (by kernel_rfl) (by kernel_rfl) (fun _ _ _ h => h) (Or.inl ⟨by rfl, ?_⟩) (by assumption) ?_
                      rotate_left
                      · intro wq hSw; (try dsimp only at hSw); go_simp; try (with_reducible rfl)
                      repeat (first | simp only [Act.put] | simp only [List.setIfInBounds_toArray] | simp only [List.set_cons_zero] | simp only [List.set_cons_succ])
                      refine wpAnyH_done (by kernel_rfl) ?_ _
                      refine NoPanic.normal ?_
                      go_wp2_with fail
                      go_round
                      case rel => exact ⟨j + 1, N11, by omega, by go_num, Lib.hid ⟨⟨HF.out.1.st, HF.out.1.good, by have := HF.out.1.len; omega⟩, HF.out.2⟩⟩
                      case measure => simp [intOf]; omega
          · skip
            go_simp
            refine hK.out _ _ ?_ (fun hHeld => ?_)
            · exact HSa.out _
            clear hK K
            repeat (first | simp only [Act.put] | simp only [List.setIfInBounds_toArray] | simp only [List.set_cons_zero] | simp only [List.set_cons_succ])
            refine wpAnyH_ready (rs := [4]) (by kernel_rfl) (by simp) ?_
            refine AllReadyH.cons (o := { dst := some 69, op := Op.buildSlice 22 6 #[(0, Operand.const (Value.int IntKind.u8 116)), (1, Operand.const (Value.int IntKind.u8 105)), (2, Operand.const (Value.int IntKind.u8 99)), (3, Operand.const (Value.int IntKind.u8 107)), (4, Operand.const (Value.int IntKind.u8 101)), (5, Operand.const (Value.int IntKind.u8 116))], type := 22, pos := "outright.go:39", after := #[], guard := none }) rfl (fun K hK => ?_) ?_
            rotate_left
            exact AllReadyH.nil
            · skip
              go_simp
              refine hK.out _ _ ?_ (fun hHeld => ?_)
              · exact HSa2.out _ _
              clear hK K
              repeat (first | simp only [Act.put] | simp only [List.setIfInBounds_toArray] | simp only [List.set_cons_zero] | simp only [List.set_cons_succ])
              refine wpAnyH_ready (rs := [5]) (by kernel_rfl) (by simp) ?_
              refine AllReadyH.cons (o := { dst := some 70, op := Op.convert 22 22 (Operand.tmp 69), type := 22, pos := "outright.go:39", after := #[{ on := 4, ground := Ground.data }], guard := none }) rfl (fun K hK => ?_) ?_
              rotate_left
              exact AllReadyH.nil
              · skip
                go_simp
                refine hK.out _ _ ?_ (fun hHeld => ?_)
                · exact HSa2.out _ _
                clear hK K
                repeat (first | simp only [Act.put] | simp only [List.setIfInBounds_toArray] | simp only [List.set_cons_zero] | simp only [List.set_cons_succ])
                refine wpAnyH_ready (rs := [10]) (by kernel_rfl) (by simp) ?_
                refine AllReadyH.cons (o := { dst := some 75, op := Op.call { callee := Callee.value (Operand.func 23), args := #[Operand.tmp 67, Operand.tmp 68, Operand.tmp 70, Operand.tmp 74], argTypes := #[27, 29, 22, 29] }, type := 29, pos := "outright.go:39", after := #[{ on := 2, ground := Ground.data }, { on := 3, ground := Ground.data }, { on := 5, ground := Ground.data }, { on := 9, ground := Ground.data }], guard := none }) rfl (fun K hK => ?_) ?_
                rotate_left
                exact AllReadyH.nil
                · skip
                  go_simp
                  with_reducible refine cA2.mono ?_
                  rintro e w11 ⟨N11, m, rfl, g11, p11, f11⟩
                  refine hK.out _ _ ?_ (fun hHeld => ?_)
                  · exact HC.out _ (g11.st.own _ (List.mem_cons_of_mem _ List.mem_cons_self)) g11.st.bel
                  clear hK K
                  repeat (first | simp only [Act.put] | simp only [List.setIfInBounds_toArray] | simp only [List.set_cons_zero] | simp only [List.set_cons_succ])
                  refine wpAnyH_ready (rs := [13]) (by kernel_rfl) (by simp) ?_
                  refine AllReadyH.cons (o := { dst := some 78, op := Op.call { callee := Callee.value (Operand.func 29), args := #[Operand.tmp 65, Operand.tmp 66, Operand.tmp 75, Operand.tmp 77], argTypes := #[27, 29, 29, 3] }, type := 63, pos := "outright.go:39", after := #[{ on := 0, ground := Ground.data }, { on := 1, ground := Ground.data }, { on := 10, ground := Ground.data }, { on := 12, ground := Ground.data }, { on := 10, ground := Ground.chain }], guard := none }) rfl (fun K hK => ?_) ?_
                  rotate_left
                  exact AllReadyH.nil
                  · skip
                    go_simp
                    refine (redeem_bad g11 HN.out (fun w1 g => look_bad g f11 (HB.out.2.ext (hg.out.2.trans p11)))).mono ?_
                    rintro e w12 ⟨rfl, g12, -⟩
                    refine hK.out _ _ ?_ (fun hHeld => ?_)
                    · exact HC.out _ (g12.st.own _ (List.mem_cons_of_mem _ List.mem_cons_self)) g12.st.bel
                    clear hK K
                    repeat (first | simp only [Act.put] | simp only [List.setIfInBounds_toArray] | simp only [List.set_cons_zero] | simp only [List.set_cons_succ])
                    have gz := g12
                    refine wpAnyH_take (i := 14) (oi := { dst := some 64, op := Op.move (Operand.tmp 78), type := 63, pos := "outright.go:39", after := #[{ on := 13, ground := Ground.data }], guard := none }) (v := ?_) rfl (by kernel_rfl) (by kernel_rfl) (by kernel_rfl) (fun _ _ _ h => h) (Or.inl ⟨by rfl, ?_⟩) (by assumption) ?_
                    rotate_left
                    · intro wq hSw; (try dsimp only at hSw); go_simp; try (with_reducible rfl)
                    repeat (first | simp only [Act.put] | simp only [List.setIfInBounds_toArray] | simp only [List.set_cons_zero] | simp only [List.set_cons_succ])
                    refine wpAnyH_take (i := 15) (oi := { dst := some 79, op := Op.extract (Operand.tmp 64) 0, type := 60, pos := "outright.go:39", after := #[{ on := 14, ground := Ground.data }], guard := none }) (v := ?_) rfl (by kernel_rfl) (by kernel_rfl) (by kernel_rfl) (fun _ _ _ h => h) (Or.inl ⟨by rfl, ?_⟩) (by assumption) ?_
                    rotate_left
                    · intro wq hSw; (try dsimp only at hSw); go_simp; try (with_reducible rfl)
                    repeat (first | simp only [Act.put] | simp only [List.setIfInBounds_toArray] | simp only [List.set_cons_zero] | simp only [List.set_cons_succ])
                    refine wpAnyH_take (i := 16) (oi := { dst := some 80, op := Op.extract (Operand.tmp 64) 1, type := 43, pos := "outright.go:39", after := #[{ on := 14, ground := Ground.data }, { on := 18, ground := Ground.gcOnly Departure.lateStores }], guard := none }) (v := ?_) rfl (by kernel_rfl) (by kernel_rfl) (by kernel_rfl) (fun _ _ _ h => h) (Or.inl ⟨by rfl, ?_⟩) (by assumption) ?_
                    rotate_left
                    · intro wq hSw; (try dsimp only at hSw); go_simp; try (with_reducible rfl)
                    repeat (first | simp only [Act.put] | simp only [List.setIfInBounds_toArray] | simp only [List.set_cons_zero] | simp only [List.set_cons_succ])
                    obtain ⟨z0, z1, z2, z3, zf⟩ := cells4 (gz.st.own _ List.mem_cons_self)
                    refine wpAnyH_ready (rs := [18]) (by kernel_rfl) (by simp) ?_
                    refine AllReadyH.cons (o := { dst := none, op := Op.store 60 (Operand.tmp 13) (Operand.tmp 79), type := 0, pos := "outright.go:39", after := #[{ on := 17, ground := Ground.data }, { on := 15, ground := Ground.data }, { on := 13, ground := Ground.chain }, { on := 0, ground := Ground.phase }, { on := 1, ground := Ground.phase }, { on := 2, ground := Ground.phase }, { on := 3, ground := Ground.phase }, { on := 4, ground := Ground.phase }, { on := 5, ground := Ground.phase }, { on := 6, ground := Ground.phase }, { on := 7, ground := Ground.phase }, { on := 8, ground := Ground.phase }, { on := 9, ground := Ground.phase }, { on := 10, ground := Ground.phase }, { on := 11, ground := Ground.phase }, { on := 12, ground := Ground.phase }, { on := 13, ground := Ground.phase }, { on := 14, ground := Ground.phase }, { on := 15, ground := Ground.phase }, { on := 16, ground := Ground.textOnly Departure.lateStores }, { on := 17, ground := Ground.phase }], guard := none }) rfl (fun K hK => ?_) ?_
                    rotate_left
                    exact AllReadyH.nil
                    · skip
                      go_simp
                      have hne : ∀ u ∈ [(w9.heap.size, ((.cells #[.int .i64 r1, .int .i64 r2, .int .i64 r3, .int .i64 x] 29) : Obj))], u.1 ≠ wr.heap.size := fun u hu => by rw [List.mem_singleton.1 hu]; have := HSZ.out; simp only; omega
                      have hlo : X.heap.size ≤ wr.heap.size := by have := HSZ.out; omega
                      have gF := gd_chain gz hne hlo (.int .i64 0) (.int .i64 0) (.int .i64 0) (.int .i64 0)
                      refine hK.out _ _ ?_ (fun hHeld => ?_)
                      · exact HC.out _ (gF.st.own _ List.mem_cons_self) gF.st.bel
                      clear hK K
                      have HF := Lib.hid (And.intro gF (hg.out.2.trans p11))
                      clear gF gz g11 g12 p11 f11 hne hlo z0 z1 z2 z3 zf cA1 cA2 cA3 hcvd hcvd2 hcvd3 hS
                      repeat (first | simp only [Act.put] | simp only [List.setIfInBounds_toArray] | simp only [List.set_cons_zero] | simp only [List.set_cons_succ])
                      refine wpAnyH_take (i := 19) (oi := { dst := some 14, op := Op.assign (Operand.tmp 80), type := 43, pos := "outright.go:39", after := #[{ on := 16, ground := Ground.data }, { on := 18, ground := Ground.chain }, { on := 0, ground := Ground.phase }, { on := 1, ground := Ground.phase }, { on := 2, ground := Ground.phase }, { on := 3, ground := Ground.phase }, { on := 4, ground := Ground.phase }, { on := 5, ground := Ground.phase }, { on := 6, ground := Ground.phase }, { on := 7, ground := Ground.phase }, { on := 8, ground := Ground.phase }, { on := 9, ground := Ground.phase }, { on := 10, ground := Ground.phase }, { on := 11, ground := Ground.phase }, { on := 12, ground := Ground.phase }, { on := 13, ground := Ground.phase }, { on := 14, ground := Ground.phase }, { on := 15, ground := Ground.phase }, { on := 16, ground := Ground.phase }, { on := 17, ground := Ground.phase }, { on := 18, ground := Ground.phase }], guard := none }) (v := ?_) rfl (by kernel_rfl) (by kernel_rfl) (by kernel_rfl) (fun _ _ _ h => h) (Or.inl ⟨by rfl, ?_⟩) (by assumption) ?_
                      rotate_left
                      · intro wq hSw; (try dsimp only at hSw); go_simp; try (with_reducible rfl)
                      repeat (first | simp only [Act.put] | simp only [List.setIfInBounds_toArray] | simp only [List.set_cons_zero] | simp only [List.set_cons_succ])
                      refine wpAnyH_done (by kernel_rfl) ?_ _
                      refine NoPanic.normal ?_
                      go_wp2_with fail
                      go_round
                      case rel => exact ⟨j + 1, N11, by omega, by go_num, Lib.hid ⟨⟨HF.out.1.st, HF.out.1.good, by have := HF.out.1.len; omega⟩, HF.out.2⟩⟩
                      case measure => simp [intOf]; omega
        · obtain rfl : j = 4 := by omega
          have hbox : ∀ w', Below X.heap.size X w' → w'.cell? ⟨w.heap.size, 1, none⟩ = some (.int .i64 t) := fun w' h2 => (cells3 (bk h2 H.out.2.1)).2.1
          have HC := Lib.hid hbox
          clear hbox
          have hS := HC.out wr.drew hg.out.1.st.bel.drew
          have HSa := Lib.hid (fun o => HC.out (wr.alloc o).drew (hg.out.1.st.bel.trans ((below_alloc wr o).mono hg.out.1.st.bel.size)).drew)
          have kr := (H9.out.1.ext hg.out.2).2
          have f0 := H9.out.2.1.ext hg.out.2
          have x0 : T.Has M x (1, T.bstr (tickB v t l), []) := by rw [HT.out.1]; exact H8.out.2.2.1.ext (p9'.out.trans hg.out.2)
          have cA1 : Calls Tryd.prog 23 #[.pointer (some ⟨tb, 0, none⟩), .int .i64 k, .slice ah zh.length ch, .int .i64 r0] wr.drew fun e w' => T.Tells X w' tb mb (7 + 2 * 4 + 2) M ((w9.heap.size, (.cells #[.int .i64 r1, .int .i64 r2, .int .i64 r3, .int .i64 x] 29)) :: []) e fun M c => T.IsSeal M c k (T.bstr zh) r0 :=
            T.Gd.sealG (hg.out.1.keep (Below.refl _ _).drew) kr ⟨f0.pos, f0.le⟩ (H.out.2.2.2.2.below hg.out.1.st.bel.drew).toT (by have := HL.out; omega) (by omega)
          have gZ2 : T.Gd X (wr.alloc zK) tb mb M (7 + 2 * 4) ((wr.heap.size, zK) :: (w9.heap.size, (.cells #[.int .i64 r1, .int .i64 r2, .int .i64 r3, .int .i64 x] 29)) :: []) := ⟨hg.out.1.st.guest _ _ rfl, hg.out.1.good, hg.out.1.len⟩
          have cA2 : Calls Tryd.prog 23 #[.pointer (some ⟨tb, 0, none⟩), .int .i64 k, .slice ah zh.length ch, .int .i64 r0] (wr.alloc zK).drew fun e w' => T.Tells X w' tb mb (7 + 2 * 4 + 2) M ((wr.heap.size, zK) :: (w9.heap.size, (.cells #[.int .i64 r1, .int .i64 r2, .int .i64 r3, .int .i64 x] 29)) :: []) e fun M c => T.IsSeal M c k (T.bstr zh) r0 :=
            T.Gd.sealG (gZ2.keep (Below.refl _ _).drew) kr ⟨f0.pos, f0.le⟩ (H.out.2.2.2.2.below gZ2.st.bel.drew).toT (by have := HL.out; omega) (by omega)
          have hszr : w9.heap.size < wr.heap.size := blkLt (hg.out.1.st.own _ List.mem_cons_self)
          have HSZ := Lib.hid (And.intro hszr hg.out.1.st.bel.size)
          have HF0 := Lib.hid (And.intro f0 x0)
          clear hszr gZ2 kr f0 x0 hlt
          go_wp2_with fail
          go_region_held3 (fun w' => w'.cell? ⟨w.heap.size, 1, none⟩ = some (.int .i64 t))
            (first | (have _t := z0; with_reducible exact HC.out _ (gd_chain gz HNE.out HZB.out _ _ _ _).st.bel) | (have _t := g12; with_reducible exact HC.out _ (g12.keep (below_alloc _ _)).st.bel) | (have _t := g12; with_reducible exact HC.out _ g12.st.bel) | (have _t := g11; with_reducible exact HC.out _ (g11.keep (below_alloc _ _)).st.bel) | (have _t := g11; with_reducible exact HC.out _ g11.st.bel) | with_reducible exact HSa.out _ | with_reducible exact hS)
            (first
              | (have _t := zA; (go_at_call 29; (with_reducible refine (redeem_e g11 (HF0.out.2.ext p11) (HF0.out.1.ext p11) f11 HO.out H.out.2.2.2.2.byt).mono ?_); rintro e w12 ⟨⟨ea, eb, ec, ed, E, rfl, hE⟩, g12, -⟩; obtain ⟨z0, z1, z2, z3, zf⟩ := cells4 (g12.st.own _ List.mem_cons_self); have gz := g12; have HNE : Hid (∀ u ∈ [(w9.heap.size, ((.cells #[.int .i64 r1, .int .i64 r2, .int .i64 r3, .int .i64 x] 29) : Obj))], u.1 ≠ wr.heap.size) := Lib.hid (fun u hu => by rw [List.mem_singleton.1 hu]; have := HSZ.out; simp only; omega); have HZB : Hid (X.heap.size ≤ wr.heap.size) := Lib.hid (by have := HSZ.out; omega)))
              | (have _t := g11; (go_at_call 29; (with_reducible refine (redeem_e g11 (HF0.out.2.ext p11) (HF0.out.1.ext p11) f11 HO.out H.out.2.2.2.2.byt).mono ?_); rintro e w12 ⟨⟨ea, eb, ec, ed, E, rfl, hE⟩, g12, -⟩))
              | (have _t := g11; (go_at_call 29; have g11z : T.Gd X (w11.alloc zK) tb mb N11 (7 + 2 * 4 + 2) ((w11.heap.size, zK) :: (w9.heap.size, (.cells #[.int .i64 r1, .int .i64 r2, .int .i64 r3, .int .i64 x] 29)) :: []) := ⟨g11.st.guest _ _ rfl, g11.good, g11.len⟩; refine (redeem_e g11z (HF0.out.2.ext p11) (HF0.out.1.ext p11) f11 HO.out H.out.2.2.2.2.byt).mono ?_; rintro e w12 ⟨⟨ea, eb, ec, ed, E, rfl, hE⟩, g12, -⟩; obtain ⟨z0, z1, z2, z3, zf⟩ := cells4 (g12.st.own _ List.mem_cons_self); have gz := g12; have HNE : Hid (∀ u ∈ [(w9.heap.size, ((.cells #[.int .i64 r1, .int .i64 r2, .int .i64 r3, .int .i64 x] 29) : Obj))], u.1 ≠ w11.heap.size) := Lib.hid (fun u hu => by rw [List.mem_singleton.1 hu]; have := HSZ.out; have := blkLt (g11.st.own _ List.mem_cons_self); simp only; omega); have HZB : Hid (X.heap.size ≤ w11.heap.size) := Lib.hid (by have := HSZ.out; have := g11.st.bel.size; omega)))
              | (go_at_call 23; (with_reducible refine cA1.mono ?_); rintro e w11 ⟨N11, m, rfl, g11, p11, f11⟩)
              | (go_at_call 23; (with_reducible refine cA2.mono ?_); rintro e w11 ⟨N11, m, rfl, g11, p11, f11⟩; have zA : True := trivial))
          all_goals
            have NS : Hid (T.NoSeal N11 r0) := Lib.hid (.inr ⟨(HF0.out.1.ext p11).pos, _, (HF0.out.1.ext p11).at', by simp⟩)
            have HE := Lib.hid hE
            clear hE cA1 cA2 hS f11 p11
            go_wp2_with fail
            first
              | (with_reducible refine (redeem_bad (gd_chain gz HNE.out HZB.out _ _ _ _) HN.out (fun w1 g => klook_shut g (Shut.no NS.out))).mono ?_)
              | (with_reducible refine (redeem_bad (g12.keep (below_alloc _ _)) HN.out (fun w1 g => klook_shut g (Shut.no NS.out))).mono ?_)
            rintro e w13 ⟨rfl, g13, -⟩
            have b13 := g13.st.bel
            have B13 := Lib.hid (fun o => b13.trans ((below_alloc w13 o).mono b13.size))
            have cv := fun o => T.conv_any (H.out.2.2.2.2.below (B13.out o)).toT
            have q : ((T.bstr zh).toList == [116, 105, 99, 107, 101, 116]) = decide (zh = tickH) := by
              rw [show ([116, 105, 99, 107, 101, 116] : List UInt8) = (T.bstr tickH).toList by rw [tick_lit]; first | rfl | decide +kernel | simp]
              by_cases hz : zh = tickH
              · subst hz; simp
              · have hby : Byt tickH := by intro z hz; simp at hz; omega
                have := T.str_ne (fun e => hz (bstr_inj H.out.2.2.2.2.byt hby e))
                simpa [hz] using this
            have hE := HE.out
            clear g13 b13 HE g11 g12
            generalize decide (zh = tickH) = R at *
            cases R
            all_goals
              go_wp2_with fail
              refine (awake17_any (H.out.2.2.1.below (B13.out _)) (Nat.lt_of_lt_of_le H.out.2.2.2.1 (B13.out _).size)).mono ?_
              rintro e w14 ⟨rfl, b14⟩
              have B14 := Lib.hid ((B13.out _).trans (b14.mono (B13.out _).size))
              clear b14 cv q hE
              go_wp2_with fail
              go_ret
              exact ⟨rfl, H.out.1.trans (B14.out.mono H.out.1.size)⟩
#print axioms walk
end Go.Proofs.YtofklfahbhhoiaaDoor.TicketOthers
