/- special: what the document's ReadRetry tells. -/
import Derived.Test.YtjdlmmbkppaenaaQPRetry
namespace Go.Proofs.Ytjdlmmbkppaenaa
open Go Go.RowKit

/-- What the document tells of bytes as a retry, by what its start tells. -/
def drB (s : Int × List Int × List Int × List Int × Bool) : Bool := s.2.2.2.2 && !(s.1 == 0) && (s.2.2.2.1.length == 8) && !(numd (s.2.2.2.1.take 4) == 0) && !(numd (s.2.2.2.1.drop 4) == 0)
/-- What the document's ReadRetry ends with. -/
def DRet (b : Bool) (ver : Int) (to fr : List Int) (tok tag : Int) (w : World) (r : Ending) (w' : World) : Prop :=
  ∃ vt vf, r = .returned (.tuple #[if b then retryV ver vt vf tok tag else retryV 0 vt vf 0 0, .bool b]) ∧ (Rd w' vt (if b then to else []) ∧ Rd w' vf (if b then fr else [])) ∧ Below w.heap.size w w'
theorem dretry_results (tmps : Array Value) (w : World) (M : Nat) (c0 c1 c2 c3 c4 x : Value) (h2 : tmps[2]?.getD undef = .pointer (some ⟨M, 0, none⟩)) (h3 : tmps[3]?.getD undef = x)
    (hL : w.heap[M]? = some (.cells #[c0, c1, c2, c3, c4] 27 (0, 0))) :
    (results Try.f19 tmps).run Try.prog w = .ok (.tuple #[.agg #[c0, c1, c2, c3, c4], x]) w := by
  have hcc := fun i => cell_of_row w M i _ 27 (0, 0) hL
  have a0 := hcc 0
  have a1 := hcc 1
  have a2 := hcc 2
  have a3 := hcc 3
  have a4 := hcc 4
  clear hcc
  simp [results, Try.results19, h2, h3, asAddr, a0, a1, a2, a3, a4, go_sem]
theorem sufX {p P : World → Prop} (h : ∀ X, P X → p X) {X : World} (hX : P X) : p X := h X hX
theorem chain5_other {w : World} {G M : Nat} (hne : M ≠ G) (c0 c1 c2 c3 c4 : Value) : (((((w.setCell ⟨G, 0, none⟩ c0).setCell ⟨G, 1, none⟩ c1).setCell ⟨G, 2, none⟩ c2).setCell ⟨G, 3, none⟩ c3).setCell ⟨G, 4, none⟩ c4).heap[M]? = w.heap[M]? := by
  rw [Below.heap_setCell _ ⟨G, 4, none⟩ c4 M hne, Below.heap_setCell _ ⟨G, 3, none⟩ c3 M hne, Below.heap_setCell _ ⟨G, 2, none⟩ c2 M hne, Below.heap_setCell _ ⟨G, 1, none⟩ c1 M hne, Below.heap_setCell _ ⟨G, 0, none⟩ c0 M hne]
abbrev zeroR : Obj := .cells #[.int .i64 0, .slice none 0 0, .slice none 0 0, .int .i64 0, .int .i64 0] 27
theorem newR (w : World) (k : Nat) : ((w.drewN k).alloc zeroR).heap[w.heap.size]? = some (.cells #[.int .i64 0, .slice none 0 0, .slice none 0 0, .int .i64 0, .int .i64 0] 27 (0, 0)) := heap_alloc_new (w.drewN k) _
set_option maxRecDepth 20000 in
set_option maxHeartbeats 2000000 in
theorem dreadretry_any {w : World} {v : Value} {zs : List Int} (hr : Rd w v zs) (hp : Plain v) (hl : zs.length ≤ 40000) (s : Int × List Int × List Int × List Int × Bool) (hs : startP zs 240 = s) :
    Calls Try.prog 19 #[v] w fun r w' => DRet (drB s) s.1 s.2.1 s.2.2.1 (numd (s.2.2.2.1.take 4)) (numd (s.2.2.2.1.drop 4)) w r w' := by
  obtain ⟨W, hW⟩ : ∃ W, w.alloc (.cells #[.int .i64 0, .slice none 0 0, .slice none 0 0, .int .i64 0, .int .i64 0] 27) = W := ⟨_, rfl⟩
  have hbW : Below w.heap.size w W := by rw [← hW]; exact below_alloc w _
  have hM : W.heap[w.heap.size]? = some (.cells #[.int .i64 0, .slice none 0 0, .slice none 0 0, .int .i64 0, .int .i64 0] 27 (0, 0)) := by rw [← hW]; exact heap_alloc_new w _
  have HW := Lib.hid hbW
  have c1 := start_any hbW hr hp (by omega) 240 (by omega)
  rw [hs] at c1
  obtain ⟨V, T, F, R, ok⟩ := s
  simp only at c1 ⊢
  clear hr hbW hp hs
  go_enter Try.func19, Try.ntmps19
  go_wp2_with fail
  clear hW
  refine c1.mono ?_
  rintro e1 w1 ⟨vt, vf, vr, rfl, ⟨rt, _⟩, ⟨rf', _⟩, ⟨rr, _⟩, b1⟩
  have hM1 := (b1.block _ (blk_lt' hM)).trans hM
  have HM1 := Lib.hid hM1
  have HB1 := Lib.hid (HW.out.trans (b1.mono HW.out.size))
  have HRD := Lib.hid (And.intro rt rf')
  clear c1
  obtain ⟨m0, m1, m2, m3, m4, mf⟩ := cells5 hM1
  obtain ⟨a2, d2, rfl⟩ := rt.shape
  obtain ⟨a3, d3, rfl⟩ := rf'.shape
  clear hM hM1 b1 rt rf'
  cases ok with
  | true =>
    by_cases hV : V = 0
    · subst hV
      go_wp2_with fail
      refine bodyPost_ret (dretry_results _ _ w.heap.size _ _ _ _ _ _ rfl rfl (chain5_row HM1.out (.int .i64 0) (.slice none 0 0) (.slice none 0 0) (.int .i64 0) (.int .i64 0))) rfl ?_
      exact ⟨_, _, rfl, ⟨Rd.nil _, Rd.nil _⟩, chain5_below HB1.out (Nat.le_refl _) _ _ _ _ _⟩
    have hV1 : (V == 0) = false := by simp [hV]
    by_cases hL : R.length = 8
    · obtain ⟨a, b, hR⟩ : ∃ a b, R = a ++ b ∧ a.length = 4 ∧ b.length = 4 := ⟨R.take 4, R.drop 4, (List.take_append_drop 4 R).symm, by simp; omega, by simp; omega⟩
      have hpr : Plain vr := by assumption
      rcases rr.cases with ⟨h0, _⟩ | ⟨bl, off, cap, rfl, _, hlc, hcap, _, _⟩
      · rw [h0] at hL; simp at hL
      have p4 := (rd_part rr hpr 0 4 (by omega)).1
      have p8 := (rd_part rr hpr 4 4 (by omega)).1
      have hby := rr.byt
      obtain ⟨rfl, ha, hb⟩ := hR
      rw [List.drop_zero, List.take_append_of_le_length (by omega), List.take_of_length_le (by omega)] at p4
      rw [List.drop_append_of_le_length (by omega), List.drop_of_length_le (by omega), List.nil_append, List.take_of_length_le (by omega)] at p8
      simp only [Option.map_some, Addr.add_lit, Nat.add_zero, Nat.sub_zero] at p4 p8
      have ha9 : Byt a := fun z hz => hby z (List.mem_append_left _ hz)
      have hb9 : Byt b := fun z hz => hby z (List.mem_append_right _ hz)
      have c4 := fun W8 (h : Below w.heap.size w W8) => rnumbered_any (p4.below h) ha9
      have c8 := fun W8 (h : Below w.heap.size w W8) => rnumbered_any (p8.below h) hb9
      have ea : (a ++ b).take 4 = a := by rw [List.take_append_of_le_length (by omega), List.take_of_length_le (by omega)]
      have eb : (a ++ b).drop 4 = b := by rw [List.drop_append_of_le_length (by omega), List.drop_of_length_le (by omega), List.nil_append]
      have HF := Lib.hid (show drB (V, T, F, a ++ b, true) = (!(numd a == 0) && !(numd b == 0)) by simp [drB, hV1, ha, hb])
      have HAB := Lib.hid (And.intro ea eb)
      rw [hL] at hlc
      have hL8 : ((((a ++ b).length : Nat) : Int) != 8) = false := by rw [hL]; rfl
      clear ea eb p4 p8 ha9 hb9 hby ha hb rr hpr
      have h8 : (8 : Int) ≤ (cap : Int) := by omega
      have h4 : (4 : Int) ≤ (cap : Int) := by omega
      have h4n : ¬ cap = 4 := by omega
      go_wp2_with fail
      have HBd := HB1.out.drew
      have n0 := fun k => (cells5 (newR w1 k)).1
      have n1 := fun k => (cells5 (newR w1 k)).2.1
      have n2 := fun k => (cells5 (newR w1 k)).2.2.1
      have n3 := fun k => (cells5 (newR w1 k)).2.2.2.1
      have n4 := fun k => (cells5 (newR w1 k)).2.2.2.2.1
      have nf := fun k => (cells5 (newR w1 k)).2.2.2.2.2
      go_region_with (go_at_call 41; first | (with_reducible refine (c4 _ ?_).mono ?_; (first | exact HBd | exact (HB1.out.alloc HB1.out.size _).drew | exact below_drewN (HB1.out.alloc HB1.out.size _) _ | exact below_drewN HB1.out _ | exact (below_drewN HB1.out _).alloc (below_drewN HB1.out _).size _ | exact below_drewN ((below_drewN HB1.out _).alloc (below_drewN HB1.out _).size _) _ | exact below_drewN HBd _ | exact HBd.alloc HBd.size _ | exact below_drewN (HBd.alloc HBd.size _) _ | exact (below_drewN HBd _).alloc (below_drewN HBd _).size _); rintro e w4 ⟨rfl, m4, rfl⟩) | (with_reducible refine (c8 _ ?_).mono ?_; (first | exact HBd | exact (HB1.out.alloc HB1.out.size _).drew | exact below_drewN (HB1.out.alloc HB1.out.size _) _ | exact below_drewN HB1.out _ | exact (below_drewN HB1.out _).alloc (below_drewN HB1.out _).size _ | exact below_drewN ((below_drewN HB1.out _).alloc (below_drewN HB1.out _).size _) _ | exact below_drewN HBd _ | exact HBd.alloc HBd.size _ | exact below_drewN (HBd.alloc HBd.size _) _ | exact (below_drewN HBd _).alloc (below_drewN HBd _).size _); rintro e w4 ⟨rfl, m8, rfl⟩))
      all_goals
        refine sufX (P := fun X => X.heap[w1.heap.size]? = some (.cells #[.int .i64 V, .slice a2 T.length d2, .slice a3 F.length d3, .int .i64 (numd a), .int .i64 (numd b)] 27 (0, 0)) ∧ X.heap[w.heap.size]? = some (.cells #[.int .i64 0, .slice none 0 0, .slice none 0 0, .int .i64 0, .int .i64 0] 27 (0, 0)) ∧ Below w.heap.size w X) ?_ ?_
      all_goals try (
        refine ⟨chain5_row (by exact newR w1 0) _ _ _ _ _, (chain5_other (Nat.ne_of_lt (blk_lt' HM1.out)) _ _ _ _ _).trans ((Below.heap_alloc w1 zeroR _ (blk_lt' HM1.out)).trans HM1.out), chain5_below ?_ HB1.out.size _ _ _ _ _⟩
        first | exact (below_drewN HB1.out _).alloc (below_drewN HB1.out _).size _ | exact below_drewN ((below_drewN HB1.out _).alloc (below_drewN HB1.out _).size _) _ | exact below_drewN (HB1.out.alloc HB1.out.size _) _
        done)
      all_goals
        rintro X ⟨hG, hM, hB⟩
        have HMX := Lib.hid hM
        have HGX := Lib.hid hG
        have HBX := Lib.hid hB
        clear m0 m1 m2 m3 m4 mf n0 n1 n2 n3 n4 nf hV
        obtain ⟨g0, g1, g2, g3, g4, gf⟩ := cells5 hG
        obtain ⟨m0, m1, m2, m3, m4, mf⟩ := cells5 hM
        clear hG hM hB
        by_cases hT : numd a = 0
        · have hT1 : (numd a == 0) = true := by simp [hT]
          rw [hT1] at HF
          have HF := Lib.hid (HF.out.trans (show (!true && !(numd b == 0)) = false from rfl))
          clear hT
          simp only [Exit.then]
          refine ‹∀ (a : Act) (w : World), Code.wp Try.prog _ _ a w → _› _ _ ?_
          go_wp2_with fail
          refine bodyPost_ret (dretry_results _ _ w.heap.size _ _ _ _ _ _ rfl rfl (chain5_row HMX.out (.int .i64 0) (.slice none 0 0) (.slice none 0 0) (.int .i64 0) (.int .i64 0))) rfl ?_
          rw [HF.out, HAB.out.1, HAB.out.2]
          exact ⟨_, _, rfl, ⟨Rd.nil _, Rd.nil _⟩, chain5_below HBX.out (Nat.le_refl _) _ _ _ _ _⟩
        · have hT1 : (numd a == 0) = false := by simp [hT]
          rw [hT1] at HF
          clear hT
          by_cases hU : numd b = 0
          · have hU1 : (numd b == 0) = true := by simp [hU]
            rw [hU1] at HF
            have HF := Lib.hid (HF.out.trans (show (!false && !true) = false from rfl))
            clear hU
            simp only [Exit.then]
            refine ‹∀ (a : Act) (w : World), Code.wp Try.prog _ _ a w → _› _ _ ?_
            go_wp2_with fail
            refine bodyPost_ret (dretry_results _ _ w.heap.size _ _ _ _ _ _ rfl rfl (chain5_row HMX.out (.int .i64 0) (.slice none 0 0) (.slice none 0 0) (.int .i64 0) (.int .i64 0))) rfl ?_
            rw [HF.out, HAB.out.1, HAB.out.2]
            exact ⟨_, _, rfl, ⟨Rd.nil _, Rd.nil _⟩, chain5_below HBX.out (Nat.le_refl _) _ _ _ _ _⟩
          · have hU1 : (numd b == 0) = false := by simp [hU]
            rw [hU1] at HF
            have HF := Lib.hid (HF.out.trans (show (!false && !false) = true from rfl))
            clear hU
            simp only [Exit.then]
            refine ‹∀ (a : Act) (w : World), Code.wp Try.prog _ _ a w → _› _ _ ?_
            go_wp2_with fail
            refine bodyPost_ret (dretry_results _ _ w.heap.size _ _ _ _ _ _ rfl rfl (chain5_row HMX.out (.int .i64 V) (.slice a2 T.length d2) (.slice a3 F.length d3) (.int .i64 (numd a)) (.int .i64 (numd b)))) rfl ?_
            rw [HF.out, HAB.out.1, HAB.out.2]
            have HBL := chain5_below HBX.out (Nat.le_refl _) (.int .i64 V) (.slice a2 T.length d2) (.slice a3 F.length d3) (.int .i64 (numd a)) (.int .i64 (numd b))
            exact ⟨_, _, rfl, ⟨HRD.out.1.below HBL, HRD.out.2.below HBL⟩, HBL⟩
    · obtain ⟨ao, cap, rfl, _⟩ := rr
      have hL1 : ((R.length : Int) != 8) = true := by rw [bne_iff_ne]; omega
      have HF := Lib.hid (show drB (V, T, F, R, true) = false by simp [drB, hL])
      clear hL
      go_wp2_with fail
      refine bodyPost_ret (dretry_results _ _ w.heap.size _ _ _ _ _ _ rfl rfl (chain5_row HM1.out (.int .i64 0) (.slice none 0 0) (.slice none 0 0) (.int .i64 0) (.int .i64 0))) rfl ?_
      rw [HF.out]
      exact ⟨_, _, rfl, ⟨Rd.nil _, Rd.nil _⟩, chain5_below HB1.out (Nat.le_refl _) _ _ _ _ _⟩
  | false =>
    go_wp2_with fail
    refine bodyPost_ret (dretry_results _ _ w.heap.size _ _ _ _ _ _ rfl rfl (chain5_row HM1.out (.int .i64 0) (.slice none 0 0) (.slice none 0 0) (.int .i64 0) (.int .i64 0))) rfl ?_
    exact ⟨_, _, rfl, ⟨Rd.nil _, Rd.nil _⟩, chain5_below HB1.out (Nat.le_refl _) _ _ _ _ _⟩
end Go.Proofs.Ytjdlmmbkppaenaa
