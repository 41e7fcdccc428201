/- ticket's Redeem; a ticket is redeemed as it was issued; the chapter's example. -/
import Derived.Test.YtepkhhpdpmhfaaaDoorZKLk17
namespace Go.Proofs.YtepkhhpdpmhfaaaDoor
open Go Go.RowKit

variable {w0 w : World} {tb mb n : Nat} {rs : List (Nat × Obj)}
/-- What Redeem tells. -/
def KtV (er : Int) (r : Option (Int × Int × Int × Int)) (e : Ending) : Prop :=
  match r with
  | none => e = .returned (.tuple #[.agg #[.int .i64 0, .int .i64 0, .int .i64 0, .int .i64 0], .int .i64 er])
  | some (v, t, l, s) => e = .returned (.tuple #[.agg #[.int .i64 v, .int .i64 t, .int .i64 l, .int .i64 s], .int .i64 0])
def rdm (r : Option (Int × Int × Int × Int)) (now : Int) : Int × Option (Int × Int × Int × Int) :=
  match r with
  | none => (14, none)
  | some (v, t, l, s) => if now < t ∨ l < now - t then (9, none) else (0, some (v, t, l, s))
set_option maxRecDepth 20000 in
set_option maxHeartbeats 4000000 in
theorem redeem_any {N : List T.Nd} (h : T.Gd w0 w tb mb N n rs) {k m : Int} {r : Option (Int × Int × Int × Int)}
    (hL : ∀ w1, T.Gd w0 w1 tb mb N n rs → Calls Tryd.prog 29 #[.pointer (some ⟨tb, 0, none⟩), .int .i64 k, .int .i64 m] w1 fun e w' => KlV r e ∧ T.Gd w0 w' tb mb N n rs ∧ Below w1.heap.size w1 w')
    {now : Int} (hnow : -9223372036854775808 ≤ now ∧ now ≤ 9223372036854775807) (ht : ∀ x, r = some x → 0 ≤ x.2.1 ∧ x.2.1 < 4611686018427387904) :
    Calls Tryd.prog 15 #[.pointer (some ⟨tb, 0, none⟩), .int .i64 k, .int .i64 m, .int .i64 now] w fun e w' => KtV (rdm r now).1 (rdm r now).2 e ∧ T.Gd w0 w' tb mb N n rs ∧ Below w.heap.size w w' := by
  obtain ⟨W, hW⟩ : ∃ W, w.alloc zTk = W := ⟨_, rfl⟩
  have hbW : Below w.heap.size w W := by rw [← hW]; exact below_alloc w _
  have hM : W.heap[w.heap.size]? = some (.cells #[.int .i64 0, .int .i64 0, .int .i64 0, .int .i64 0] 44 (0, 0)) := by rw [← hW]; exact heap_alloc_new w _
  have c1 := hL W (h.keep hbW)
  have HG := Lib.hid h
  have HM := Lib.hid (And.intro hM hbW)
  clear hL h hbW hM
  cases r with
  | none =>
    clear ht
    have HE : Hid (rdm none now = (14, none)) := Lib.hid rfl
    go_enter Tryd.func15, Tryd.ntmps15
    go_wp2_with fail
    refine c1.mono ?_
    rintro e w1 ⟨rfl, g1, b1⟩
    have hM1 := (b1.block _ (blkLt HM.out.1)).trans HM.out.1
    have B1 := HM.out.2.trans (b1.mono HM.out.2.size)
    have hM2 := fun o => ((below_alloc w1 o).block _ (blkLt hM1)).trans hM1
    have H2 := Lib.hid (And.intro hM2 (fun o => B1.trans ((below_alloc w1 o).mono B1.size)))
    have m0 := fun o => (cells4 (hM2 o)).1
    have m1 := fun o => (cells4 (hM2 o)).2.1
    have m2 := fun o => (cells4 (hM2 o)).2.2.1
    have m3 := fun o => (cells4 (hM2 o)).2.2.2.1
    have mf := fun o => (cells4 (hM2 o)).2.2.2.2
    clear c1 g1 b1 hM1 B1 hM2 HM
    go_wp2_with fail
    refine bodyPost_ret (res_Redeem _ _ w.heap.size _ _ _ _ _ rfl rfl (chain4_row (H2.out.1 _) _ _ _ _)) rfl ?_
    rw [HE.out]
    exact keepA HG.out ((chain4_but _ _ _ _ _ _).below (H2.out.2 _) (Nat.le_refl _)) rfl
  | some x =>
    obtain ⟨v, t, l, s⟩ := x
    have ht1 := ht _ rfl
    simp only at ht1
    have t0 := ht1.1
    have t1 := ht1.2
    obtain ⟨n0, n1⟩ := hnow
    have HC : Hid (rdm (some (v, t, l, s)) now = if now < t ∨ l < now - t then (9, none) else (0, some (v, t, l, s))) := Lib.hid rfl
    clear ht ht1
    generalize rdm (some (v, t, l, s)) now = C at *
    by_cases q2 : now < t
    · have HE : Hid (C = (9, none)) := Lib.hid (by rw [HC.out, if_pos (.inl q2)])
      clear HC
      go_enter Tryd.func15, Tryd.ntmps15
      go_wp2_with fail
      refine c1.mono ?_
      rintro e w1 ⟨rfl, g1, b1⟩
      have hM1 := (b1.block _ (blkLt HM.out.1)).trans HM.out.1
      have B1 := HM.out.2.trans (b1.mono HM.out.2.size)
      have hM2 := fun o => ((below_alloc w1 o).block _ (blkLt hM1)).trans hM1
      have H2 := Lib.hid (And.intro hM2 (fun o => B1.trans ((below_alloc w1 o).mono B1.size)))
      have m0 := fun o => (cells4 (hM2 o)).1
      have m1 := fun o => (cells4 (hM2 o)).2.1
      have m2 := fun o => (cells4 (hM2 o)).2.2.1
      have m3 := fun o => (cells4 (hM2 o)).2.2.2.1
      have mf := fun o => (cells4 (hM2 o)).2.2.2.2
      clear c1 g1 b1 hM1 B1 hM2 HM
      go_wp2_with fail
      refine bodyPost_ret (res_Redeem _ _ w.heap.size _ _ _ _ _ rfl rfl (chain4_row (H2.out.1 _) _ _ _ _)) rfl ?_
      rw [HE.out]
      exact keepA HG.out ((chain4_but _ _ _ _ _ _).below (H2.out.2 _) (Nat.le_refl _)) rfl
    · by_cases q3 : l < now - t
      · have HE : Hid (C = (9, none)) := Lib.hid (by rw [HC.out, if_pos (.inr q3)])
        clear HC
        go_enter Tryd.func15, Tryd.ntmps15
        go_wp2_with fail
        refine c1.mono ?_
        rintro e w1 ⟨rfl, g1, b1⟩
        have hM1 := (b1.block _ (blkLt HM.out.1)).trans HM.out.1
        have B1 := HM.out.2.trans (b1.mono HM.out.2.size)
        have hM2 := fun o => ((below_alloc w1 o).block _ (blkLt hM1)).trans hM1
        have H2 := Lib.hid (And.intro hM2 (fun o => B1.trans ((below_alloc w1 o).mono B1.size)))
        have m0 := fun o => (cells4 (hM2 o)).1
        have m1 := fun o => (cells4 (hM2 o)).2.1
        have m2 := fun o => (cells4 (hM2 o)).2.2.1
        have m3 := fun o => (cells4 (hM2 o)).2.2.2.1
        have mf := fun o => (cells4 (hM2 o)).2.2.2.2
        clear c1 g1 b1 hM1 B1 hM2 HM
        go_wp2_with fail
        refine bodyPost_ret (res_Redeem _ _ w.heap.size _ _ _ _ _ rfl rfl (chain4_row (H2.out.1 _) _ _ _ _)) rfl ?_
        rw [HE.out]
        exact keepA HG.out ((chain4_but _ _ _ _ _ _).below (H2.out.2 _) (Nat.le_refl _)) rfl
      · have HE : Hid (C = (0, some (v, t, l, s))) := Lib.hid (by rw [HC.out, if_neg (by omega)])
        clear HC
        go_enter Tryd.func15, Tryd.ntmps15
        go_wp2_with fail
        refine c1.mono ?_
        rintro e w1 ⟨rfl, g1, b1⟩
        have hM1 := (b1.block _ (blkLt HM.out.1)).trans HM.out.1
        have B1 := HM.out.2.trans (b1.mono HM.out.2.size)
        have hM2 := fun o => ((below_alloc w1 o).block _ (blkLt hM1)).trans hM1
        have H2 := Lib.hid (And.intro hM2 (fun o => B1.trans ((below_alloc w1 o).mono B1.size)))
        have m0 := fun o => (cells4 (hM2 o)).1
        have m1 := fun o => (cells4 (hM2 o)).2.1
        have m2 := fun o => (cells4 (hM2 o)).2.2.1
        have m3 := fun o => (cells4 (hM2 o)).2.2.2.1
        have mf := fun o => (cells4 (hM2 o)).2.2.2.2
        clear c1 g1 b1 hM1 B1 hM2 HM
        go_wp2_with fail
        refine bodyPost_ret (res_Redeem _ _ w.heap.size _ _ _ _ _ rfl rfl (chain4_row (H2.out.1 _) _ _ _ _)) rfl ?_
        rw [HE.out]
        exact keepA HG.out ((chain4_but _ _ _ _ _ _).below (H2.out.2 _) (Nat.le_refl _)) rfl
theorem tickOk_num {v t l : Int} (h : tickOk v t l = true) : (0 ≤ v ∧ v < 4611686018427387904) ∧ (0 ≤ t ∧ t < 4611686018427387904) ∧ (0 ≤ l ∧ l < 4611686018427387904) := by
  unfold tickOk at h
  simp only [Bool.and_eq_true, Bool.not_eq_true'] at h
  refine ⟨?_, ?_, ?_⟩
  · rcases sz_cases v with ⟨h0, _⟩ | ⟨h0, h1, _⟩
    · rw [h0] at h; simp at h
    · exact ⟨h0, h1⟩
  · rcases sz_cases t with ⟨h0, _⟩ | ⟨h0, h1, _⟩
    · rw [h0] at h; simp at h
    · exact ⟨h0, h1⟩
  · rcases sz_cases l with ⟨h0, _⟩ | ⟨h0, h1, _⟩
    · rw [h0] at h; simp at h
    · exact ⟨h0, h1⟩
theorem sbytes_bstr' {zs : List Int} (h : Byt zs) : T.sbytes (T.bstr zs) = zs := bstr_inj (sbytes_byt _) h (T.bstr_sbytes _)
theorem klook_tick {N : List T.Nd} (h : T.Gd w0 w tb mb N n rs) {k c v t l s : Int} (hm : T.IsTick N c k (T.bstr (tickB v t l)) s) (hok : tickOk v t l = true) :
    Calls Tryd.prog 29 #[.pointer (some ⟨tb, 0, none⟩), .int .i64 k, .int .i64 c] w fun e w' => KlV (some (v, t, l, s)) e ∧ T.Gd w0 w' tb mb N n rs ∧ Below w.heap.size w w' := by
  obtain ⟨x, r, h1, h2, h3⟩ := hm
  obtain ⟨hv, ht, hl⟩ := tickOk_num hok
  have := klook_row h h3 h2 h1.pos h1.at' (by rw [T.bstr_size]; have := tickB_len v t l; omega)
  rw [show sayK (1, T.bstr (tickB v t l), []) s = some (v, t, l, s) by unfold sayK; rw [if_pos rfl, sbytes_bstr' (tickB_byt v t l), tick_back hv ht hl]; rfl] at this
  exact this
set_option maxRecDepth 20000 in
set_option maxHeartbeats 2000000 in
theorem awake17_any {w : World} (ht : Tab w) (hw : 1 < w.heap.size) : Calls Tryd.prog 14 #[] w fun e w' => e = .returned (.bool true) ∧ Below w.heap.size w w' := by
  have HT := Lib.hid (And.intro ht hw)
  clear ht hw
  go_enter Tryd.func14, Tryd.ntmps14
  go_wp2_with fail
  refine (T.St.new w).mono ?_
  rintro e w1 ⟨tb, mb, rfl, s1⟩
  have g1 : T.Gd w w1 tb mb [] 0 [] := ⟨T.Sg.of_st s1, T.good_nil, Nat.le_refl _⟩
  have c1 := g1.secretG (by omega)
  clear s1 g1
  go_wp2_with fail
  refine c1.mono ?_
  rintro e w2 ⟨N2, k, rfl, g2, -, f2, -⟩
  have c2 := g2.secretG (by omega)
  have H2 := Lib.hid f2
  clear c1 g2 f2
  go_wp2_with fail
  refine c2.mono ?_
  rintro e w3 ⟨N3, s, rfl, g3, p3, f3, -⟩
  have c3 := issue_yes (v := 1) (t := 10) (l := 5) g3 (by decide) (H2.out.ext p3).2 f3.2 HT.out.1 HT.out.2 (by omega)
  clear c2 g3 p3 f3
  go_wp2_with fail
  refine c3.mono ?_
  rintro e w4 ⟨N4, c, rfl, g4, -, f4⟩
  have hc : (c != 0) = true := by rw [bne_iff_ne]; exact f4.ne
  have c4 := redeem_any g4 (r := some (1, 10, 5, s)) (fun w1 g => klook_tick g f4 (by decide)) (now := 15) (by omega) (fun x hx => by cases hx; simp)
  rw [show rdm (some (1, 10, 5, s)) 15 = (0, some (1, 10, 5, s)) by simp [rdm]] at c4
  have H4 := Lib.hid f4
  clear c3 g4 f4
  go_wp2_with fail
  refine c4.mono ?_
  rintro e w5 ⟨rfl, g5, -⟩
  have g6 : T.Gd w (w5.alloc (.cells #[.int .i64 1, .int .i64 10, .int .i64 5, .int .i64 s] 44)) tb mb N4 (0 + 1 + 1 + 4) ((w5.heap.size, (.cells #[.int .i64 1, .int .i64 10, .int .i64 5, .int .i64 s] 44)) :: []) := ⟨g5.st.guest _ _ rfl, g5.good, g5.len⟩
  have c6 := redeem_any g6 (r := some (1, 10, 5, s)) (fun w1 g => klook_tick g H4.out (by decide)) (now := 16) (by omega) (fun x hx => by cases hx; simp)
  rw [show rdm (some (1, 10, 5, s)) 16 = (9, none) by simp [rdm]] at c6
  clear c4 g5 g6
  go_wp2_with fail
  refine c6.mono ?_
  rintro e w7 ⟨rfl, g7, -⟩
  have b7 := g7.st.bel
  have B7 := Lib.hid (fun o => b7.trans ((below_alloc w7 o).mono b7.size))
  have u7 := g7.st.own _ List.mem_cons_self
  simp only at u7
  have u3 := fun o => (cells4 (((below_alloc w7 o).block _ (blkLt u7)).trans u7)).2.2.2.1
  have q : (s == s) = true := by simp
  clear c6 g7 b7 u7
  go_wp2_with fail
  go_ret
  exact ⟨rfl, B7.out _⟩
#print axioms awake17_any
end Go.Proofs.YtepkhhpdpmhfaaaDoor
