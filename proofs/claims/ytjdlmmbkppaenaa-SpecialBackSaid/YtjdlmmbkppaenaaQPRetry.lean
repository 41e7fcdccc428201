/- special: what the program's ReadRetry tells. -/
import Derived.Test.YtjdlmmbkppaenaaQBeg
import Derived.Test.YtjdlmmbkppaenaaQRetry
import Derived.BigRegion
import Derived.Deep.RegionHeld3
namespace Go.Proofs.Ytjdlmmbkppaenaa
open Go Go.RowKit

theorem chain5_row {w : World} {G : Nat} {T : TypeId} {z0 z1 z2 z3 z4 : Value} (h3 : w.heap[G]? = some (.cells #[z0, z1, z2, z3, z4] T (0, 0))) (c0 c1 c2 c3 c4 : Value) : (((((w.setCell ⟨G, 0, none⟩ c0).setCell ⟨G, 1, none⟩ c1).setCell ⟨G, 2, none⟩ c2).setCell ⟨G, 3, none⟩ c3).setCell ⟨G, 4, none⟩ c4).heap[G]? = some (.cells #[c0, c1, c2, c3, c4] T (0, 0)) := by
  have e0 := heap_setCell_same w G 0 _ T c0 h3
  simp only [List.setIfInBounds_toArray, List.set_cons_zero] at e0
  have e1 := heap_setCell_same _ G 1 _ T c1 e0
  simp only [List.setIfInBounds_toArray, List.set_cons_zero, List.set_cons_succ] at e1
  have e2 := heap_setCell_same _ G 2 _ T c2 e1
  simp only [List.setIfInBounds_toArray, List.set_cons_zero, List.set_cons_succ] at e2
  have e3 := heap_setCell_same _ G 3 _ T c3 e2
  simp only [List.setIfInBounds_toArray, List.set_cons_zero, List.set_cons_succ] at e3
  have e4 := heap_setCell_same _ G 4 _ T c4 e3
  simp only [List.setIfInBounds_toArray, List.set_cons_zero, List.set_cons_succ] at e4
  exact e4
theorem chain5_below {w0 w : World} {G : Nat} (hb : Below w0.heap.size w0 w) (hG : w0.heap.size ≤ G) (c0 c1 c2 c3 c4 : Value) : Below w0.heap.size w0 (((((w.setCell ⟨G, 0, none⟩ c0).setCell ⟨G, 1, none⟩ c1).setCell ⟨G, 2, none⟩ c2).setCell ⟨G, 3, none⟩ c3).setCell ⟨G, 4, none⟩ c4) :=
  ((((hb.setCell (p := ⟨G, 0, none⟩) hG c0).setCell (p := ⟨G, 1, none⟩) hG c1).setCell (p := ⟨G, 2, none⟩) hG c2).setCell (p := ⟨G, 3, none⟩) hG c3).setCell (p := ⟨G, 4, none⟩) hG c4
theorem chain5_ra {w : World} {G lo : Nat} {v : Value} {zs : List Int} (h : Ra lo w v zs) (hG : G < lo) (c0 c1 c2 c3 c4 : Value) : Ra lo (((((w.setCell ⟨G, 0, none⟩ c0).setCell ⟨G, 1, none⟩ c1).setCell ⟨G, 2, none⟩ c2).setCell ⟨G, 3, none⟩ c3).setCell ⟨G, 4, none⟩ c4) v zs :=
  ((((h.set (p := ⟨G, 0, none⟩) hG c0).set (p := ⟨G, 1, none⟩) hG c1).set (p := ⟨G, 2, none⟩) hG c2).set (p := ⟨G, 3, none⟩) hG c3).set (p := ⟨G, 4, none⟩) hG c4
theorem pretry_results (tmps : Array Value) (w : World) (M : Nat) (c0 c1 c2 c3 c4 x : Value) (h2 : tmps[2]?.getD undef = .pointer (some ⟨M, 0, none⟩)) (h3 : tmps[3]?.getD undef = x)
    (hL : w.heap[M]? = some (.cells #[c0, c1, c2, c3, c4] 36 (0, 0))) :
    (results Try.f18 tmps).run Try.prog w = .ok (.tuple #[.agg #[c0, c1, c2, c3, c4], x]) w := by
  have hcc := fun i => cell_of_row w M i _ 36 (0, 0) hL
  have a0 := hcc 0
  have a1 := hcc 1
  have a2 := hcc 2
  have a3 := hcc 3
  have a4 := hcc 4
  clear hcc
  simp [results, Try.results18, h2, h3, asAddr, a0, a1, a2, a3, a4, go_sem]
theorem cells5 {w : World} {M : Nat} {T : TypeId} {c0 c1 c2 c3 c4 : Value} (h : w.heap[M]? = some (.cells #[c0, c1, c2, c3, c4] T (0, 0))) :
    w.cell? ⟨M, 0, none⟩ = some c0 ∧ w.cell? ⟨M, 1, none⟩ = some c1 ∧ w.cell? ⟨M, 2, none⟩ = some c2 ∧ w.cell? ⟨M, 3, none⟩ = some c3 ∧ w.cell? ⟨M, 4, none⟩ = some c4 ∧ ∀ j, w.frozen? ⟨M, j, none⟩ = false :=
  ⟨(cell_of_row w M 0 _ _ (0, 0) h).trans rfl, (cell_of_row w M 1 _ _ (0, 0) h).trans rfl, (cell_of_row w M 2 _ _ (0, 0) h).trans rfl, (cell_of_row w M 3 _ _ (0, 0) h).trans rfl, (cell_of_row w M 4 _ _ (0, 0) h).trans rfl, fun j => by simp [World.frozen?, h]⟩
/-- What the program tells of bytes as a retry, by what it cuts off. -/
def prB (zs : List Int) (e : Nat) (x ver : Int) (to fr : List Int) (tok tag : Int) : Bool := decide (zs.length = e + 8) && (x == 240) && retryB ver to fr tok tag
abbrev retryV (ver : Int) (vt vf : Value) (tok tag : Int) : Value := .agg #[.int .i64 ver, vt, vf, .int .i64 tok, .int .i64 tag]
/-- What ReadRetry ends with: the retry and no error, or none and the error. -/
def RRet (b : Bool) (ver : Int) (to fr : List Int) (tok tag : Int) (w : World) (r : Ending) (w' : World) : Prop :=
  ∃ vt vf, r = .returned (.tuple #[if b then retryV ver vt vf tok tag else retryV 0 vt vf 0 0, .int .i64 (if b then 0 else 3)]) ∧ (Rd w' vt (if b then to else []) ∧ Rd w' vf (if b then fr else [])) ∧ Below w.heap.size w w'
set_option maxRecDepth 20000 in
set_option maxHeartbeats 2000000 in
theorem preadretry_any {w : World} {v : Value} {zs : List Int} (hr : Rd w v zs) (hp : Plain v) (hl : zs.length ≤ 40000) (x y z : Int) (hx : cutZ zs 0 1 = [x]) (hy : cutZ zs 5 1 = [y]) (hz : cutZ zs (6 + y.toNat) 1 = [z]) (e : Nat) (he : 7 + y.toNat + z.toNat = e) :
    Calls Try.prog 18 #[v] w fun r w' => RRet (prB zs e x (say4 (cutZ zs 1 4)) (cutZ zs 6 y.toNat) (cutZ zs (7 + y.toNat) z.toNat) (numd (cutZ zs e 4)) (numd (cutZ zs (e + 4) 4))) (say4 (cutZ zs 1 4)) (cutZ zs 6 y.toNat) (cutZ zs (7 + y.toNat) z.toNat) (numd (cutZ zs e 4)) (numd (cutZ zs (e + 4) 4)) w r w' := by
  have hyb : 0 ≤ y ∧ y ≤ 255 := by have := cutZ_byt hr.byt 5 1; rw [hy] at this; exact this y (by simp)
  have hzb : 0 ≤ z ∧ z ≤ 255 := by have := cutZ_byt hr.byt (6 + y.toNat) 1; rw [hz] at this; exact this z (by simp)
  have he9 : e ≤ 600 := by omega
  have HB1 := Lib.hid (cutZ_byt hr.byt e 4)
  have HB2 := Lib.hid (cutZ_byt hr.byt (e + 4) 4)
  have HE := Lib.hid he
  have HX := Lib.hid (And.intro hx (And.intro hy hz))
  obtain ⟨W, hW⟩ : ∃ W, w.alloc (.cells #[.int .i64 0, .slice none 0 0, .slice none 0 0, .int .i64 0, .int .i64 0] 36) = W := ⟨_, rfl⟩
  have hbW : Below w.heap.size w W := by rw [← hW]; exact below_alloc w _
  have hM : W.heap[w.heap.size]? = some (.cells #[.int .i64 0, .slice none 0 0, .slice none 0 0, .int .i64 0, .int .i64 0] 36 (0, 0)) := by rw [← hW]; exact heap_alloc_new w _
  have hML : w.heap.size < W.heap.size := blk_lt' hM
  have HW := Lib.hid hbW
  have hrW := hr.below hbW
  have HRP := Lib.hid (And.intro hrW hp)
  have c1 := cutting_any hrW
  clear hr hrW hbW hp hx hy hz he
  go_enter Try.func18, Try.ntmps18
  go_wp2_with fail
  clear hW
  refine c1.mono ?_
  rintro e1 w1 ⟨B, A, rfl, q1⟩
  have c2 := begun_any HRP.out.1 HRP.out.2 (by omega) q1 x y z HX.out.1 HX.out.2.1 HX.out.2.2
  have hw1 := q1.bel.size
  have hMA : w.heap.size ≠ A := by have := q1.loA; omega
  have hA1 : A < w1.heap.size := q1.cells.2.2.2.1
  have hM1 := (q1.bel.block _ hML).trans hM
  have hM1L : w.heap.size < w1.heap.size := by omega
  clear c1 q1 hM
  go_wp2_with fail
  refine c2.mono ?_
  rintro e2 w2 ⟨vt, vf, rfl, ⟨rt, _⟩, ⟨rf', _⟩, q2, b2⟩
  rw [HE.out] at q2
  have c3 := cut_r HRP.out.1 HRP.out.2 (by omega) q2 (by omega) 4 (by omega)
  have hM2 := (b2.block _ hM1L hMA).trans hM1
  have hs2 := b2.size
  clear b2 hM1
  clear c2 q2
  go_wp2_with fail
  refine c3.mono ?_
  rintro e3 w3 ⟨v3, rfl, ⟨r3, _⟩, q3, b3⟩
  have c4 := numbered_any r3.rd HB1.out
  have rt3 := rt.but b3 (by omega)
  have rf3 := rf'.but b3 (by omega)
  have hM3 := (b3.block _ (by omega) hMA).trans hM2
  have hs3 := b3.size
  have c5 := cut_r HRP.out.1 HRP.out.2 (by omega) q3 (by omega) 4 (by omega)
  clear c3 q3 b3 r3 rt rf' hM2
  go_wp2_with fail
  refine c4.mono ?_
  rintro e4 w4 ⟨rfl, rfl⟩
  clear c4
  go_wp2_with fail
  refine c5.mono ?_
  rintro e5 w5 ⟨v5, rfl, ⟨r5, _⟩, q5, b5⟩
  have c6 := numbered_any r5.rd HB2.out
  have rt5 := rt3.but b5 (by omega)
  have rf5 := rf3.but b5 (by omega)
  have hM5 := (b5.block _ (by omega) hMA).trans hM3
  have hs5 := b5.size
  clear c5 b5 r5 rt3 rf3 hM3
  go_wp2_with fail
  refine c6.mono ?_
  rintro e6 w6 ⟨rfl, rfl⟩
  have hVT : ∃ a2 c2, vt = .slice a2 (cutZ zs 6 y.toNat).length c2 := by obtain ⟨a, c, h, _⟩ := rt5.rd; exact ⟨a, c, h⟩
  have hVF : ∃ a2 c2, vf = .slice a2 (cutZ zs (7 + y.toNat) z.toNat).length c2 := by obtain ⟨a, c, h, _⟩ := rf5.rd; exact ⟨a, c, h⟩
  obtain ⟨a2, d2, rfl⟩ := hVT
  obtain ⟨a3, d3, rfl⟩ := hVF
  generalize hTO : cutZ zs 6 y.toNat = TO at *
  generalize hFR : cutZ zs (7 + y.toNat) z.toNat = FR at *
  generalize hVER : say4 (cutZ zs 1 4) = VER at *
  generalize hTOK : numd (cutZ zs e 4) = TOK at *
  generalize hTAG : numd (cutZ zs (e + 4) 4) = TAG at *
  have HQ := Lib.hid (And.intro hTO (And.intro hFR (And.intro hVER (And.intro hTOK hTAG))))
  clear hVER hTOK hTAG
  clear c6
  obtain ⟨W6, hW6⟩ : ∃ W6, w5.alloc (.cells #[.int .i64 VER, .slice a2 TO.length d2, .slice a3 FR.length d3, .int .i64 TOK, .int .i64 TAG] 36) = W6 := ⟨_, rfl⟩
  have hb6 : Below w5.heap.size w5 W6 := by rw [← hW6]; exact below_alloc w5 _
  have hG : W6.heap[w5.heap.size]? = some (.cells #[.int .i64 VER, .slice a2 TO.length d2, .slice a3 FR.length d3, .int .i64 TOK, .int .i64 TAG] 36 (0, 0)) := by rw [← hW6]; exact heap_alloc_new w5 _
  have hM6 := (hb6.block _ (blk_lt' hM5)).trans hM5
  have rt6 := rt5.below hb6
  have rf6 := rf5.below hb6
  have q6 := q5.keep hb6
  have c7 := left_any HRP.out.1 (by omega) q6 (by omega)
  have HBW := Lib.hid (HW.out.trans (q6.bel.mono HW.out.size))
  have HRD := Lib.hid (And.intro rt6 rf6)
  obtain ⟨g0, g1, g2, g3, g4, gf⟩ := cells5 hG
  obtain ⟨m0, m1, m2, m3, m4, mf⟩ := cells5 hM6
  have HM6 := Lib.hid hM6
  have HG6 := Lib.hid hG
  have HMG : Hid (w.heap.size ≠ w5.heap.size) := Lib.hid (by omega)
  have c8 := fun W8 => rightretry_any (w := W8) (a2 := a2) (a3 := a3) (c2 := d2) (c3 := d3) (to := TO) (fr := FR) (ver := VER) (tok := TOK) (tag := TAG)
  obtain ⟨D, hD⟩ : ∃ D, (zs.length : Int) - ((e + 4 + 4 : Nat) : Int) = D := ⟨_, rfl⟩
  rw [hD] at c7
  have HPB := Lib.hid (show prB zs e x VER TO FR TOK TAG = (decide (D = 0) && (x == 240) && retryB VER TO FR TOK TAG) by
    unfold prB
    have : decide (zs.length = e + 8) = decide (D = 0) := by
      congr 1
      apply propext
      omega
    rw [this])
  clear rt5 rf5 q5 hM5 hb6 hG hM6 rt6 rf6 q6 hTO hFR hD
  go_wp2_with fail
  clear hW6
  refine c7.mono ?_
  rintro e7 w7 ⟨rfl, rfl⟩
  clear c7
  by_cases hD0 : D = 0
  · subst hD0
    by_cases hX0 : x = 240
    · subst hX0
      cases hR : retryB VER TO FR TOK TAG with
      | true =>
        have HP := Lib.hid (show prB zs e 240 VER TO FR TOK TAG = true by rw [HPB.out, hR]; rfl)
        rw [hR] at c8
        clear hR HPB
        go_wp2_with (go_at_call 31; refine (c8 _).mono ?_; rintro e8 w8 ⟨rfl, b8⟩; have HM8 := Lib.hid ((b8.block _ (blk_lt' HM6.out)).trans HM6.out); have HG8 := Lib.hid ((b8.block _ (blk_lt' HG6.out)).trans HG6.out); have HB8 := Lib.hid (HBW.out.trans (b8.mono HBW.out.size)); have HRD8 := Lib.hid (And.intro (HRD.out.1.below b8) (HRD.out.2.below b8)); clear g0 g1 g2 g3 g4 gf m0 m1 m2 m3 m4 mf b8 c8; obtain ⟨g0, g1, g2, g3, g4, gf⟩ := cells5 HG8.out; obtain ⟨m0, m1, m2, m3, m4, mf⟩ := cells5 HM8.out)
        refine bodyPost_ret (pretry_results _ _ w.heap.size _ _ _ _ _ _ rfl rfl (chain5_row HM8.out (.int .i64 VER) (.slice a2 TO.length d2) (.slice a3 FR.length d3) (.int .i64 TOK) (.int .i64 TAG))) rfl ?_
        obtain ⟨q1, q2, q3, q4, q5⟩ := HQ.out
        rw [q1, q2, q3, q4, q5, HP.out]
        exact ⟨_, _, rfl, ⟨(chain5_ra HRD8.out.1 hM1L _ _ _ _ _).rd, (chain5_ra HRD8.out.2 hM1L _ _ _ _ _).rd⟩, chain5_below HB8.out (Nat.le_refl _) _ _ _ _ _⟩
      | false =>
        have HP := Lib.hid (show prB zs e 240 VER TO FR TOK TAG = false by rw [HPB.out, hR]; rfl)
        rw [hR] at c8
        clear hR HPB
        go_wp2_with (go_at_call 31; refine (c8 _).mono ?_; rintro e8 w8 ⟨rfl, b8⟩; have HM8 := Lib.hid ((b8.block _ (blk_lt' HM6.out)).trans HM6.out); have HG8 := Lib.hid ((b8.block _ (blk_lt' HG6.out)).trans HG6.out); have HB8 := Lib.hid (HBW.out.trans (b8.mono HBW.out.size)); have HRD8 := Lib.hid (And.intro (HRD.out.1.below b8) (HRD.out.2.below b8)); clear g0 g1 g2 g3 g4 gf m0 m1 m2 m3 m4 mf b8 c8; obtain ⟨g0, g1, g2, g3, g4, gf⟩ := cells5 HG8.out; obtain ⟨m0, m1, m2, m3, m4, mf⟩ := cells5 HM8.out)
        refine bodyPost_ret (pretry_results _ _ w.heap.size _ _ _ _ _ _ rfl rfl (chain5_row HM8.out (.int .i64 0) (.slice none 0 0) (.slice none 0 0) (.int .i64 0) (.int .i64 0))) rfl ?_
        obtain ⟨q1, q2, q3, q4, q5⟩ := HQ.out
        rw [q1, q2, q3, q4, q5, HP.out]
        exact ⟨_, _, rfl, ⟨Rd.nil _, Rd.nil _⟩, chain5_below HB8.out (Nat.le_refl _) _ _ _ _ _⟩
    · have HP := Lib.hid (show prB zs e x VER TO FR TOK TAG = false by rw [HPB.out]; simp [hX0])
      have hX1 : (x != 240) = true := by simp [hX0]
      have hX2 : (x == 240) = false := by simp [hX0]
      clear hX0 HPB c8
      go_wp2_with fail
      refine bodyPost_ret (pretry_results _ _ w.heap.size _ _ _ _ _ _ rfl rfl (chain5_row HM6.out (.int .i64 0) (.slice none 0 0) (.slice none 0 0) (.int .i64 0) (.int .i64 0))) rfl ?_
      obtain ⟨q1, q2, q3, q4, q5⟩ := HQ.out
      rw [q1, q2, q3, q4, q5, HP.out]
      exact ⟨_, _, rfl, ⟨Rd.nil _, Rd.nil _⟩, chain5_below HBW.out (Nat.le_refl _) _ _ _ _ _⟩
  · have HP := Lib.hid (show prB zs e x VER TO FR TOK TAG = false by rw [HPB.out]; simp [hD0])
    have hD1 : (D != 0) = true := by simp [hD0]
    have hD2 : (D == 0) = false := by simp [hD0]
    clear hD0 HPB c8
    go_wp2_with fail
    refine bodyPost_ret (pretry_results _ _ w.heap.size _ _ _ _ _ _ rfl rfl (chain5_row HM6.out (.int .i64 0) (.slice none 0 0) (.slice none 0 0) (.int .i64 0) (.int .i64 0))) rfl ?_
    obtain ⟨q1, q2, q3, q4, q5⟩ := HQ.out
    rw [q1, q2, q3, q4, q5, HP.out]
    exact ⟨_, _, rfl, ⟨Rd.nil _, Rd.nil _⟩, chain5_below HBW.out (Nat.le_refl _) _ _ _ _ _⟩
end Go.Proofs.Ytjdlmmbkppaenaa
