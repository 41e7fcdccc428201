/- KnowLearns' walk: a mind that learns while the table grows knows what follows of all that it was told of terms that there were. -/
import Derived.Test.YtinncmljffcobaaZKFd3
import Derived.Test.YtinncmljffcobaaZKTold
import Derived.Test.YtinncmljffcobaaZKMl
namespace Go.Proofs.Ytinncmljffcobaa
open Go Go.RowKit

/-- append of one int: where the row lies then. -/
theorem wpList_append_int1 {w : World} {ops : Array Oper} {rest : List Oper} {o : Oper} {a : Act} {Q : Exit → Act → World → Prop} (s x : Operand)
    (hgd : Region.wanted o (yielded ops a.tmps) = true) (ho : o.op = .call { callee := .builtin .append, args := #[s, x], argTypes := #[23, 23] })
    (base : Nat) (v : Value) (n : Nat) (xs : List Int) (hs : a.eval s = v) (hown : w.ownsRow base 3 1 v n (cs .i64 xs))
    (ad : Addr) (c : Nat) (z : Int) (hx : a.eval x = .slice (some ad) 1 c) (hz : w.cell? ad = some (.int .i64 z)) (hn : n ≤ 1000000) (hbase : base ≤ w.heap.size)
    (h : ∀ v' w', w'.ownsRow base 3 1 v' (n + 1) (cs .i64 (xs ++ [z])) → w.grownBy w' v.ownBlock → (v'.ownBlock = v.ownBlock ∨ v'.ownBlock = some w.heap.size) → wpList Try.prog ops Q rest (a.put o.dst v') w') : wpList Try.prog ops Q (o :: rest) a w := by
  refine wpList_step fun K hK => ?_
  rw [if_pos hgd]
  obtain ⟨i, hi, hz0, hz1, hz2⟩ := info_parts info3'
  obtain ⟨v', w', hr, h2, h3, _, h5⟩ := run_append_own_at (P := Try.prog) w base 23 o.type 3 i _ 1 8 Try.underlying23 hi hz0 hz1 hz2 rfl (by decide) v n (cs .i64 xs) hown ad 1 c (cs .i64 [z]) rfl
    (fun j u hu => by
      cases j with
      | zero => simp [cs] at hu; subst hu; simpa [Addr.add] using hz
      | succ j => simp [cs] at hu)
    (cs_one .i64 [z]) (by unfold maxLen; omega) (by omega) hbase
  unfold Oper.wp execOp
  simp only [ho, resolve, invoke, builtin, Sem.run_bind, Sem.run_pure, Result.andThen_ok, List.map_toArray, List.map_cons, List.map_nil, hs, hx, hr]
  exact hK _ _ (h v' w' (by rw [cs_app]; exact h2) h3 h5)
/-- What holds between two steps. -/
structure Lr (w0 wr : World) (tb mb rb B M : Nat) (N : List Nd) (Hs : List Int) (a : Option Addr) (c : Nat) : Prop where
  two : V.Two [] [.slice a Hs.length c] w0 wr tb mb rb N
  md : Md B wr M (.pointer (some ⟨tb, 0, none⟩)) N (fun y => y ∈ Hs)
  good : Good N
  txt : Txt N
  inn : ∀ y ∈ Hs, 1 ≤ y ∧ y ≤ (N.length : Int)
  own : wr.ownsRow w0.heap.size 3 1 (.slice a Hs.length c) Hs.length (cs .i64 Hs)
  sz : B ≤ wr.heap.size
theorem Lr.below {w0 w w' : World} {tb mb rb B M : Nat} {N : List Nd} {Hs : List Int} {a : Option Addr} {c : Nat} (h : Lr w0 w tb mb rb B M N Hs a c) (hb : Below w.heap.size w w') : Lr w0 w' tb mb rb B M N Hs a c :=
  ⟨h.two.keep hb, h.md.below hb, h.good, h.txt, h.inn, own_below h.own hb, Nat.le_trans h.sz hb.size⟩
/-- A step. -/
theorem Lr.step {w0 w : World} {tb mb rb B M : Nat} {N : List Nd} {Hs : List Int} {a : Option Addr} {c : Nat} (h : Lr w0 w tb mb rb B M N Hs a c) (hroom : N.length ≤ 60000) (k : Int) (t : ByteArray) (ht : t.size ≤ 2048) {ao : Option Addr} {cp : Nat} {xs : List Int} (hx : Rd .i64 w (.slice ao xs.length cp) xs) (hl : xs.length ≤ 20) :
    Calls Try.prog 11 #[.pointer (some ⟨tb, 0, none⟩), .pointer (some ⟨rb, 0, none⟩), .agg #[.int .i64 k, .string t, .slice ao xs.length cp]] w fun e w' => e = .returned (.bool true) ∧ Lr w0 w' tb mb rb B M (kdoN N k t xs) Hs a c :=
  (kdo_mind h.two h.md h.good (fun y hy => (h.inn y hy).2) hroom k t ht hx hl).mono fun e w' ⟨he, t', m', k', hs'⟩ => by
    have hlen := kdoN_len N k t xs
    exact ⟨he, t', m', h.good.do (by omega) k t xs, h.txt.do k t xs, fun y hy => by have := h.inn y hy; omega, kown_kept k' (by decide) (by decide) (by decide) (by decide) h.own, Nat.le_trans h.sz hs'⟩
/-- A term is learnt that the table has not, or has. -/
theorem Lr.learn {w0 w : World} {tb mb rb B M : Nat} {N : List Nd} {Hs : List Int} {a : Option Addr} {c : Nat} (h : Lr w0 w tb mb rb B M N Hs a c) (hB : w0.heap.size ≤ B) {z : Int} (hz : (Lit.int .i64 z).wf = true) :
    Calls Try.prog 19 #[.pointer (some ⟨M, 0, none⟩), .slice (some ⟨w.heap.size, 0, none⟩) 1 1] (w.alloc (.cells #[.int .i64 z] 42)) fun e w' => e = .returned (.tuple #[]) ∧
      V.Two [] [.slice a Hs.length c] w0 w' tb mb rb N ∧ Md B w' M (.pointer (some ⟨tb, 0, none⟩)) N (fun y => (y ∈ Hs ∨ y = z) ∧ 1 ≤ y ∧ y ≤ (N.length : Int)) ∧ w'.ownsRow w0.heap.size 3 1 (.slice a Hs.length c) Hs.length (cs .i64 Hs) ∧ B ≤ w'.heap.size :=
  (learn_two h.two h.md h.good.wf hB h.sz hz).mono fun e w' ⟨he, t', m', k', hs'⟩ => by
    obtain ⟨c', F, r, S, pops, g1, g2, g3, g4, g5, g6⟩ := m'.ex
    have hcut : Md B w' M (.pointer (some ⟨tb, 0, none⟩)) N (fun y => (y ∈ Hs ∨ y ∈ [z]) ∧ 1 ≤ y ∧ y ≤ (N.length : Int)) := ⟨c', F, r, S, pops, g1, g2, g3, g4, g5.cut, g6⟩
    refine ⟨he, t', hcut.told fun y => by simp, own_keep h.own fun g hg => ?_, Nat.le_trans h.sz hs'⟩
    obtain ⟨C, hC⟩ := own_blk h.own hg
    exact k' g C hC
set_option maxRecDepth 20000 in
set_option maxHeartbeats 16000000 in
theorem klearns_walk {w : World} {v bv : Value} {l : List KStep} {zs : List Int} (h : KSteps w v l) (hr : Rd .i64 w bv zs) (hwf : ∀ y ∈ zs, (Lit.int .i64 y).wf = true) :
    Calls Try.prog 4 #[v, bv] w fun e w' => e = .returned (.bool true) ∧ Below w.heap.size w w' := by
  have h0 := h
  obtain ⟨ao, cap, rfl, hl1, hl2, hl3, -⟩ := h0
  unfold maxLen at hl2
  have hr0 := hr
  obtain ⟨ba, bc, rfl, -⟩ := hr0
  have HH := Lib.hid h
  have HR := Lib.hid hr
  have HWF := Lib.hid hwf
  have hl := klight_any h (bo := ba) (n := zs.length) (cb := bc)
  clear h hr hwf
  go_enter Try.func4, Try.ntmps4
  go_wp2_with fail
  refine hl.mono ?_
  clear hl
  rintro e w0 ⟨⟨b, rfl, hb⟩, rfl⟩
  cases b with
  | false =>
    clear hb
    go_wp2_with fail
    go_ret
    exact ⟨rfl, Below.refl _ _⟩
  | true =>
    have HL := Lib.hid (hb rfl)
    have hzl : zs.length ≤ 50 := HL.out.2.1
    clear hb
    go_wp2_with fail
    refine (St.new w0).mono ?_
    rintro e w1 ⟨tb, mb, rfl, s1⟩
    have S1 := Lib.hid s1
    obtain ⟨nv1, ht1⟩ := s1.tab
    have hnew := Md.new ht1.at.tp
    clear s1 ht1
    go_wp2_with fail
    refine hnew.mono ?_
    clear hnew
    rintro e w2 ⟨M, rfl, m2, b2⟩
    have hsz2 := b2.size
    have L0 := Lib.hid (show Lr w0 (w2.alloc (.cells #[.slice none 0 0] 30)) tb mb w2.heap.size w1.heap.size M [] [] none 0 from by
      have T := ktwo_new (S1.out.keep b2)
      obtain ⟨nv, ht⟩ := T.prog.tab
      obtain ⟨rv, R, r1, r2⟩ := T.ref
      refine ⟨⟨⟨nv, ht⟩, (fun v hv => by cases hv), (fun v hv g hg => by rw [List.mem_singleton] at hv; subst hv; cases hg), T.prog.bel, ⟨rv, R, r1, r2, fun v hv g hg => by rw [List.mem_singleton] at hv; subst hv; cases hg⟩, T.ok⟩, (m2.below (below_alloc _ _)).told fun y => by simp, Good.nil, Txt.nil, (fun y hy => by cases hy), World.ownsRow_nil _ _ _ _, by simp; omega⟩)
    have HB01 := Lib.hid S1.out.bel.size
    clear m2 b2 S1
    go_wp2_with fail
    go_loopw [8, 9] (fun hv iv wr => ∃ (j : Nat) (N : List Nd) (Hs : List Int) (a : Option Addr) (c : Nat), j ≤ l.length ∧ hv = .slice a Hs.length c ∧ iv = .int .i64 j ∧ Lr w0 wr tb mb w2.heap.size w1.heap.size M N Hs a c ∧ N.length ≤ j ∧ Hs.length ≤ j) (fun _ iv _ => l.length - (intOf iv).toNat)
    case atStart => exact ⟨0, [], [], none, 0, Nat.zero_le _, rfl, rfl, L0.out, Nat.le_refl _, Nat.le_refl _⟩
    case round =>
      clear L0
      obtain ⟨j, N, Hs, a, c, hj, rfl, rfl, hLr, hN, hHl⟩ := hrel
      have LR0 := Lib.hid hLr
      clear hLr
      by_cases hlt : j < l.length
      · have hlt' : (j : Int) < (l.length : Int) := by omega
        obtain ⟨b, off, cap', e, _, _, hs⟩ := (HH.out.below LR0.out.two.bel).at hlt
        cases e
        obtain ⟨c0, c1, c2⟩ := kstep_cells hs
        have hrd := hs.2.2.2
        have hin := HL.out.2.2 _ (List.getElem_mem hlt)
        have hj50 : j < 50 := by have := HL.out.1; omega
        clear hs
        generalize l[j] = s at *
        obtain ⟨k, t, sa, sc, xs⟩ := s
        simp only at c0 c1 c2 hrd hin
        have hd := LR0.out.step (by omega) k t (by omega) hrd hin.2
        have hlen := (kdoN_len N k t xs).2
        clear hrd hin LR0
        generalize hNN : kdoN N k t xs = N2 at *
        have hN2 : N2.length ≤ j + 1 := by omega
        clear hNN hlen hN
        obtain ⟨m7, hm7⟩ : ∃ r : Nat, (j : Int).tmod 7 = (r : Int) := ⟨j % 7, by rw [Int.tmod_eq_emod_of_nonneg (by omega)]; omega⟩
        have e7 : (((m7 : Int) != 6) = true ∧ (j : Int) + 1 < (l.length : Int)) ∨ ((m7 : Int) != 6) = false ∨ (((m7 : Int) != 6) = true ∧ ¬ ((j : Int) + 1 < (l.length : Int))) := by
          by_cases h6 : m7 = 6
          · right; left; subst h6; rfl
          · have : ((m7 : Int) != 6) = true := by simp; omega
            by_cases h1 : (j : Int) + 1 < (l.length : Int)
            · exact .inl ⟨this, h1⟩
            · exact .inr (.inr ⟨this, h1⟩)
        rcases e7 with ⟨e7, hj1⟩ | e7 | ⟨e7, hj1⟩
        · go_wp2_with fail
          refine hd.mono ?_
          clear hd
          rintro e w3 ⟨rfl, l3⟩
          have L3 := Lib.hid l3
          clear l3
          by_cases hjz : j < zs.length
          · have hjz' : (j : Int) < (zs.length : Int) := by omega
            have hzr := HR.out.below L3.out.two.bel
            obtain ⟨b3, o3, c3, e3, hc3, hd3, q3⟩ := rd_at2 hzr hjz
            cases e3
            have hzw := HWF.out _ (getD_mem hjz)
            have hlearn := L3.out.learn (by have := HB01.out; omega) hzw
            have HZR := Lib.hid (show ∀ X : World, Below w0.heap.size w0 X → X.cell? ⟨b3, o3 + j, none⟩ = some (.int .i64 (zs.getD j 0)) from fun X hX => by
              obtain ⟨b4, o4, c4, e4, _, _, q4⟩ := rd_at2 (HR.out.below hX) hjz
              cases e4
              exact q4)
            generalize zs.getD j 0 = z at *
            clear hzr hzw
            go_wp2_with fail
            refine hlearn.mono ?_
            clear hlearn
            rintro e w4 ⟨rfl, t4, m4, o4, s4⟩
            have T4 := Lib.hid t4
            have M4 := Lib.hid m4
            have O4 := Lib.hid o4
            have S4 := Lib.hid s4
            obtain ⟨ra4, rc4, hr4⟩ := t4.ref_len
            have q4 := HZR.out w4 t4.bel
            clear t4 m4 o4 s4 q3
            by_cases hz1 : (1 : Int) ≤ z
            · have dz1 : decide ((1 : Int) ≤ z) = true := decide_eq_true hz1
              by_cases hz2 : z ≤ (N2.length : Int)
              · have dz2 : decide (z ≤ (N2.length : Int)) = true := decide_eq_true hz2
                have LG := Lib.hid L3.out.good
                have LT := Lib.hid L3.out.txt
                have LI := Lib.hid L3.out.inn
                clear L3
                go_wp2_with fail
                go_quiet (fail)
                have TA := Lib.hid (T4.out.keep (below_drewN (Below.refl _ _) nq) |>.keep (below_alloc (w4.drewN nq) (.cells #[.int .i64 z] 3)))
                have MA := Lib.hid ((M4.out.below (below_drewN (Below.refl _ _) nq)).below (below_alloc (w4.drewN nq) (.cells #[.int .i64 z] 3)))
                have oA := own_alloc (own_below O4.out (below_drewN (Below.refl _ _) nq)) (.cells #[.int .i64 z] 3)
                have cA : ((w4.drewN nq).alloc (.cells #[.int .i64 z] 3)).cell? ⟨w4.heap.size, 0, none⟩ = some (.int .i64 z) := (cell_of_row _ w4.heap.size 0 _ 3 (0, 0) (heap_alloc_new (w4.drewN nq) _)).trans rfl
                have HZ12 := Lib.hid (And.intro hz1 hz2)
                go_wp2_with (at_builtin; refine wpList_append_int1 (.tmp 64) (.tmp 69) rfl rfl w0.heap.size _ Hs.length Hs rfl oA ⟨w4.heap.size, 0, none⟩ 1 z rfl cA (by omega) TA.out.bel.size ?_; intro v5 w5 o5 g5 l5; obtain ⟨a5, c5, rfl, _, _⟩ := own_shape o5; have HO5 := Lib.hid o5; have HG5 := Lib.hid g5; have HL5 := Lib.hid l5; have HOA := Lib.hid oA; clear o5 g5 l5 oA cA)
                obtain ⟨t5, m5⟩ := grow_two TA.out MA.out HOA.out HG5.out HL5.out (fun g hg => (HO5.out.lt g hg).2)
                have HRL := Lib.hid (show (Hs ++ [z]).length = Hs.length + 1 by simp)
                have LR := Lib.hid (show Lr w0 w5 tb mb w2.heap.size w1.heap.size M N2 (Hs ++ [z]) a5 c5 from by
                  have e := HRL.out
                  refine ⟨by rw [e]; exact t5, m5.told fun y => ?_, LG.out, LT.out, fun y hy => ?_, by rw [e]; exact HO5.out, ?_⟩
                  · rw [List.mem_append, List.mem_singleton]
                    constructor
                    · rintro ⟨h, _⟩; exact h
                    · rintro (h | h)
                      · exact ⟨.inl h, LI.out y h⟩
                      · rw [h]; exact ⟨.inr rfl, HZ12.out.1, HZ12.out.2⟩
                  · rcases List.mem_append.1 hy with h | h
                    · exact LI.out y h
                    · rw [List.mem_singleton] at h; rw [h]; exact HZ12.out
                  · have := S4.out
                    have := HG5.out.size
                    simp at this
                    have h4 : (w4.drewN nq).heap.size = w4.heap.size := rfl
                    omega)
                clear t5 m5 TA MA
                have HH6 := Lib.hid (show (Hs ++ [z]).length ≤ j + 1 by first | omega | (simp; omega))
                have HNJ := Lib.hid (show N2.length ≤ j + 1 by omega)
                go_roundw
                case rel => exact ⟨j + 1, N2, (Hs ++ [z]), a5, c5, by omega, (by first | rfl | simp), by go_num, LR.out, HNJ.out, HH6.out⟩
                case measure => simp [intOf]; omega
              · have dz2 : decide (z ≤ (N2.length : Int)) = false := decide_eq_false hz2
                have LR := Lib.hid (show Lr w0 w4 tb mb w2.heap.size w1.heap.size M N2 Hs a c from ⟨T4.out, M4.out.told fun y => by
                  constructor
                  · rintro ⟨h | h, h1, h2⟩
                    · exact h
                    · rw [h] at h2; exact absurd h2 hz2
                  · intro h; exact ⟨.inl h, L3.out.inn y h⟩, L3.out.good, L3.out.txt, L3.out.inn, O4.out, S4.out⟩)
                clear L3 T4 M4 O4 S4
                go_wp2_with fail
                go_quiet (fail)
                have LR' := LR.out.below (below_drewN (Below.refl _ _) nq)
                clear LR
                have LR := Lib.hid LR'
                clear LR'
                have HH6 := Lib.hid (show Hs.length ≤ j + 1 by first | omega | (simp; omega))
                have HNJ := Lib.hid (show N2.length ≤ j + 1 by omega)
                go_wp2_with fail
                go_roundw
                case rel => exact ⟨j + 1, N2, Hs, a, c, by omega, (by first | rfl | simp), by go_num, LR.out, HNJ.out, HH6.out⟩
                case measure => simp [intOf]; omega
            · have dz1 : decide ((1 : Int) ≤ z) = false := decide_eq_false hz1
              have LR := Lib.hid (show Lr w0 w4 tb mb w2.heap.size w1.heap.size M N2 Hs a c from ⟨T4.out, M4.out.told fun y => by
                constructor
                · rintro ⟨h | h, h1, h2⟩
                  · exact h
                  · rw [h] at h1; exact absurd h1 hz1
                · intro h; exact ⟨.inl h, L3.out.inn y h⟩, L3.out.good, L3.out.txt, L3.out.inn, O4.out, S4.out⟩)
              clear L3 T4 M4 O4 S4
              go_wp2_with fail
              go_quiet (fail)
              have LR' := LR.out.below (below_drewN (Below.refl _ _) nq)
              clear LR
              have LR := Lib.hid LR'
              clear LR'
              have HH6 := Lib.hid (show Hs.length ≤ j + 1 by first | omega | (simp; omega))
              have HNJ := Lib.hid (show N2.length ≤ j + 1 by omega)
              go_wp2_with fail
              go_roundw
              case rel => exact ⟨j + 1, N2, Hs, a, c, by omega, (by first | rfl | simp), by go_num, LR.out, HNJ.out, HH6.out⟩
              case measure => simp [intOf]; omega
          · have LR := L3
            clear L3
            have hjz' : ¬ ((j : Int) < (zs.length : Int)) := by omega
            have HH6 := Lib.hid (show Hs.length ≤ j + 1 by first | omega | (simp; omega))
            have HNJ := Lib.hid (show N2.length ≤ j + 1 by omega)
            go_wp2_with fail
            go_roundw
            case rel => exact ⟨j + 1, N2, Hs, a, c, by omega, (by first | rfl | simp), by go_num, LR.out, HNJ.out, HH6.out⟩
            case measure => simp [intOf]; omega
        · go_wp2_with fail
          refine hd.mono ?_
          clear hd
          rintro e w3 ⟨rfl, l3⟩
          have L3 := Lib.hid l3
          clear l3
          by_cases hjz : j < zs.length
          · have hjz' : (j : Int) < (zs.length : Int) := by omega
            have hzr := HR.out.below L3.out.two.bel
            obtain ⟨b3, o3, c3, e3, hc3, hd3, q3⟩ := rd_at2 hzr hjz
            cases e3
            have hzw := HWF.out _ (getD_mem hjz)
            have hlearn := L3.out.learn (by have := HB01.out; omega) hzw
            have HZR := Lib.hid (show ∀ X : World, Below w0.heap.size w0 X → X.cell? ⟨b3, o3 + j, none⟩ = some (.int .i64 (zs.getD j 0)) from fun X hX => by
              obtain ⟨b4, o4, c4, e4, _, _, q4⟩ := rd_at2 (HR.out.below hX) hjz
              cases e4
              exact q4)
            generalize zs.getD j 0 = z at *
            clear hzr hzw
            go_wp2_with fail
            refine hlearn.mono ?_
            clear hlearn
            rintro e w4 ⟨rfl, t4, m4, o4, s4⟩
            have T4 := Lib.hid t4
            have M4 := Lib.hid m4
            have O4 := Lib.hid o4
            have S4 := Lib.hid s4
            obtain ⟨ra4, rc4, hr4⟩ := t4.ref_len
            have q4 := HZR.out w4 t4.bel
            clear t4 m4 o4 s4 q3
            by_cases hz1 : (1 : Int) ≤ z
            · have dz1 : decide ((1 : Int) ≤ z) = true := decide_eq_true hz1
              by_cases hz2 : z ≤ (N2.length : Int)
              · have dz2 : decide (z ≤ (N2.length : Int)) = true := decide_eq_true hz2
                have LG := Lib.hid L3.out.good
                have LT := Lib.hid L3.out.txt
                have LI := Lib.hid L3.out.inn
                clear L3
                go_wp2_with fail
                go_quiet (fail)
                have TA := Lib.hid (T4.out.keep (below_drewN (Below.refl _ _) nq) |>.keep (below_alloc (w4.drewN nq) (.cells #[.int .i64 z] 3)))
                have MA := Lib.hid ((M4.out.below (below_drewN (Below.refl _ _) nq)).below (below_alloc (w4.drewN nq) (.cells #[.int .i64 z] 3)))
                have oA := own_alloc (own_below O4.out (below_drewN (Below.refl _ _) nq)) (.cells #[.int .i64 z] 3)
                have cA : ((w4.drewN nq).alloc (.cells #[.int .i64 z] 3)).cell? ⟨w4.heap.size, 0, none⟩ = some (.int .i64 z) := (cell_of_row _ w4.heap.size 0 _ 3 (0, 0) (heap_alloc_new (w4.drewN nq) _)).trans rfl
                have HZ12 := Lib.hid (And.intro hz1 hz2)
                go_wp2_with (at_builtin; refine wpList_append_int1 (.tmp 64) (.tmp 69) rfl rfl w0.heap.size _ Hs.length Hs rfl oA ⟨w4.heap.size, 0, none⟩ 1 z rfl cA (by omega) TA.out.bel.size ?_; intro v5 w5 o5 g5 l5; obtain ⟨a5, c5, rfl, _, _⟩ := own_shape o5; have HO5 := Lib.hid o5; have HG5 := Lib.hid g5; have HL5 := Lib.hid l5; have HOA := Lib.hid oA; clear o5 g5 l5 oA cA)
                obtain ⟨t5, m5⟩ := grow_two TA.out MA.out HOA.out HG5.out HL5.out (fun g hg => (HO5.out.lt g hg).2)
                have HRL := Lib.hid (show (Hs ++ [z]).length = Hs.length + 1 by simp)
                have LR := Lib.hid (show Lr w0 w5 tb mb w2.heap.size w1.heap.size M N2 (Hs ++ [z]) a5 c5 from by
                  have e := HRL.out
                  refine ⟨by rw [e]; exact t5, m5.told fun y => ?_, LG.out, LT.out, fun y hy => ?_, by rw [e]; exact HO5.out, ?_⟩
                  · rw [List.mem_append, List.mem_singleton]
                    constructor
                    · rintro ⟨h, _⟩; exact h
                    · rintro (h | h)
                      · exact ⟨.inl h, LI.out y h⟩
                      · rw [h]; exact ⟨.inr rfl, HZ12.out.1, HZ12.out.2⟩
                  · rcases List.mem_append.1 hy with h | h
                    · exact LI.out y h
                    · rw [List.mem_singleton] at h; rw [h]; exact HZ12.out
                  · have := S4.out
                    have := HG5.out.size
                    simp at this
                    have h4 : (w4.drewN nq).heap.size = w4.heap.size := rfl
                    omega)
                clear t5 m5 TA MA
                have HH6 := Lib.hid (show (Hs ++ [z]).length ≤ j + 1 by first | omega | (simp; omega))
                have HNJ := Lib.hid (show N2.length ≤ j + 1 by omega)
                have hn50 : N2.length ≤ 50 := by omega
                have hfind := find_any LR.out.two.plain.rb LR.out.good.wf LR.out.txt hn50 (Rd.of_own LR.out.own).1
                rw [HRL.out] at hfind
                refine hfind.mono ?_
                clear hfind
                rintro e w6 ⟨Gf, Gc, f, cn, rfl, hf, hc, hfd, hcd, hb6⟩
                have L6 := Lib.hid (LR.out.below hb6)
                have HC6 := Lib.hid hc
                have HF6 := Lib.hid hf
                have HFD := Lib.hid hfd
                have HCD := Lib.hid hcd
                clear hf hc hfd hcd hb6
                go_wp2_with fail
                refine (L6.out.md.knows L6.out.good.wf).mono ?_
                rintro e w7 ⟨v7, x, rfl, hxs, hxd, hxr, _, hb7⟩
                have L7 := Lib.hid (L6.out.below hb7)
                have HC7 := Lib.hid (HC6.out.below hb7)
                have htold := told_any hxr hxs (HF6.out.below hb7) (n := N2.length) (by omega) (fun y h1 h2 => by rw [hxd, HFD.out y h2]) (fun y hy => der_in LR.out.good.wf ((hxd y).1 hy))
                obtain ⟨a7, c7, rfl, _⟩ := id hxr
                clear hxs hxd hxr hb7
                go_wp2_with fail
                refine htold.mono ?_
                clear htold
                rintro e w8 ⟨rfl, rfl⟩
                obtain ⟨ra, rc, hr0⟩ := L7.out.two.ref_len
                go_wp2_with fail
                generalize w8 = W8 at *
                go_loopw [12] (fun hv wr => ∃ h : Nat, h ≤ N2.length + 1 ∧ hv = .int .i64 h ∧ Below W8.heap.size W8 wr) (fun hv _ => N2.length + 1 - (intOf hv).toNat)
                case atStart => exact ⟨0, Nat.zero_le _, rfl, Below.refl _ _⟩
                case round =>
                  obtain ⟨h, h2, rfl, hb⟩ := hrel
                  have HB := Lib.hid hb
                  have hr1 : wr.cell? ⟨w2.heap.size, 0, none⟩ = some (.slice ra N2.length rc) := by rw [hb.cell (cell_lt hr0)]; exact hr0
                  clear hb
                  by_cases hlt2 : h ≤ N2.length
                  · have hlt3 : (h : Int) ≤ (N2.length : Int) := by omega
                    have ih : h < N2.length + 1 := by omega
                    have hcan := (L7.out.md.below (show Below W8.heap.size W8 wr.drew from HB.out.drew)).can LR.out.good.wf (x := (h : Int)) (wf_of (by omega) (by omega))
                    have cy := ((HC7.out.below HB.out).cell (j := h) ih).1
                    have HYD := Lib.hid (show ∀ w9 : World, Below wr.drew.heap.size wr.drew w9 → w9.cell? ⟨Gc, h, none⟩ = some (.bool (cn h)) from fun w9 h9 => by
                      rw [h9.cell (show Gc < wr.heap.size from (HC7.out.below HB.out).lt)]; exact cy)
                    have HQ := Lib.hid (HCD.out h hlt2)
                    generalize cn h = cb at *
                    cases cb with
                    | false =>
                      go_wp2_with fail
                      go_region_with (go_at_call 21; refine hcan.mono ?_; rintro e w9 ⟨b9, rfl, hd9, hB9⟩; obtain rfl : b9 = false := (by rw [Bool.eq_iff_iff, hd9]; first | exact HQ.out.symm | (have hq := HQ.out; simp at hq ⊢; exact hq)); have hc9 := HYD.out w9 hB9; have HB9 := Lib.hid (HB.out.drew.trans (hB9.mono HB.out.drew.size)); clear hd9 hB9 hcan)
                      all_goals
                        go_wp2_with fail
                        go_roundw
                        case rel => exact ⟨h + 1, by omega, by go_num, HB9.out⟩
                        case measure => simp [intOf]; omega
                    | true =>
                      go_wp2_with fail
                      go_region_with (go_at_call 21; refine hcan.mono ?_; rintro e w9 ⟨b9, rfl, hd9, hB9⟩; obtain rfl : b9 = true := (by rw [Bool.eq_iff_iff, hd9]; first | exact HQ.out.symm | (have hq := HQ.out; simp at hq ⊢; exact hq)); have hc9 := HYD.out w9 hB9; have HB9 := Lib.hid (HB.out.drew.trans (hB9.mono HB.out.drew.size)); clear hd9 hB9 hcan)
                      all_goals
                        go_wp2_with fail
                        go_roundw
                        case rel => exact ⟨h + 1, by omega, by go_num, HB9.out⟩
                        case measure => simp [intOf]; omega
                  · obtain rfl : h = N2.length + 1 := by omega
                    have hlt3 : ¬ (((N2.length + 1 : Nat) : Int) ≤ (N2.length : Int)) := by omega
                    have LE := Lib.hid (L7.out.below HB.out)
                    go_wp2_with fail
                    go_roundw
                    case rel => exact ⟨j + 1, N2, (Hs ++ [z]), a5, c5, by omega, (by first | rfl | simp), by go_num, LE.out, HNJ.out, HH6.out⟩
                    case measure => simp [intOf]; omega
              · have dz2 : decide (z ≤ (N2.length : Int)) = false := decide_eq_false hz2
                have LR := Lib.hid (show Lr w0 w4 tb mb w2.heap.size w1.heap.size M N2 Hs a c from ⟨T4.out, M4.out.told fun y => by
                  constructor
                  · rintro ⟨h | h, h1, h2⟩
                    · exact h
                    · rw [h] at h2; exact absurd h2 hz2
                  · intro h; exact ⟨.inl h, L3.out.inn y h⟩, L3.out.good, L3.out.txt, L3.out.inn, O4.out, S4.out⟩)
                clear L3 T4 M4 O4 S4
                go_wp2_with fail
                go_quiet (fail)
                have LR' := LR.out.below (below_drewN (Below.refl _ _) nq)
                clear LR
                have LR := Lib.hid LR'
                clear LR'
                have HH6 := Lib.hid (show Hs.length ≤ j + 1 by first | omega | (simp; omega))
                have HNJ := Lib.hid (show N2.length ≤ j + 1 by omega)
                go_wp2_with fail
                have hn50 : N2.length ≤ 50 := by omega
                have hfind := find_any LR.out.two.plain.rb LR.out.good.wf LR.out.txt hn50 (Rd.of_own LR.out.own).1
                refine hfind.mono ?_
                clear hfind
                rintro e w6 ⟨Gf, Gc, f, cn, rfl, hf, hc, hfd, hcd, hb6⟩
                have L6 := Lib.hid (LR.out.below hb6)
                have HC6 := Lib.hid hc
                have HF6 := Lib.hid hf
                have HFD := Lib.hid hfd
                have HCD := Lib.hid hcd
                clear hf hc hfd hcd hb6
                go_wp2_with fail
                refine (L6.out.md.knows L6.out.good.wf).mono ?_
                rintro e w7 ⟨v7, x, rfl, hxs, hxd, hxr, _, hb7⟩
                have L7 := Lib.hid (L6.out.below hb7)
                have HC7 := Lib.hid (HC6.out.below hb7)
                have htold := told_any hxr hxs (HF6.out.below hb7) (n := N2.length) (by omega) (fun y h1 h2 => by rw [hxd, HFD.out y h2]) (fun y hy => der_in LR.out.good.wf ((hxd y).1 hy))
                obtain ⟨a7, c7, rfl, _⟩ := id hxr
                clear hxs hxd hxr hb7
                go_wp2_with fail
                refine htold.mono ?_
                clear htold
                rintro e w8 ⟨rfl, rfl⟩
                obtain ⟨ra, rc, hr0⟩ := L7.out.two.ref_len
                go_wp2_with fail
                generalize w8 = W8 at *
                go_loopw [12] (fun hv wr => ∃ h : Nat, h ≤ N2.length + 1 ∧ hv = .int .i64 h ∧ Below W8.heap.size W8 wr) (fun hv _ => N2.length + 1 - (intOf hv).toNat)
                case atStart => exact ⟨0, Nat.zero_le _, rfl, Below.refl _ _⟩
                case round =>
                  obtain ⟨h, h2, rfl, hb⟩ := hrel
                  have HB := Lib.hid hb
                  have hr1 : wr.cell? ⟨w2.heap.size, 0, none⟩ = some (.slice ra N2.length rc) := by rw [hb.cell (cell_lt hr0)]; exact hr0
                  clear hb
                  by_cases hlt2 : h ≤ N2.length
                  · have hlt3 : (h : Int) ≤ (N2.length : Int) := by omega
                    have ih : h < N2.length + 1 := by omega
                    have hcan := (L7.out.md.below (show Below W8.heap.size W8 wr.drew from HB.out.drew)).can LR.out.good.wf (x := (h : Int)) (wf_of (by omega) (by omega))
                    have cy := ((HC7.out.below HB.out).cell (j := h) ih).1
                    have HYD := Lib.hid (show ∀ w9 : World, Below wr.drew.heap.size wr.drew w9 → w9.cell? ⟨Gc, h, none⟩ = some (.bool (cn h)) from fun w9 h9 => by
                      rw [h9.cell (show Gc < wr.heap.size from (HC7.out.below HB.out).lt)]; exact cy)
                    have HQ := Lib.hid (HCD.out h hlt2)
                    generalize cn h = cb at *
                    cases cb with
                    | false =>
                      go_wp2_with fail
                      go_region_with (go_at_call 21; refine hcan.mono ?_; rintro e w9 ⟨b9, rfl, hd9, hB9⟩; obtain rfl : b9 = false := (by rw [Bool.eq_iff_iff, hd9]; first | exact HQ.out.symm | (have hq := HQ.out; simp at hq ⊢; exact hq)); have hc9 := HYD.out w9 hB9; have HB9 := Lib.hid (HB.out.drew.trans (hB9.mono HB.out.drew.size)); clear hd9 hB9 hcan)
                      all_goals
                        go_wp2_with fail
                        go_roundw
                        case rel => exact ⟨h + 1, by omega, by go_num, HB9.out⟩
                        case measure => simp [intOf]; omega
                    | true =>
                      go_wp2_with fail
                      go_region_with (go_at_call 21; refine hcan.mono ?_; rintro e w9 ⟨b9, rfl, hd9, hB9⟩; obtain rfl : b9 = true := (by rw [Bool.eq_iff_iff, hd9]; first | exact HQ.out.symm | (have hq := HQ.out; simp at hq ⊢; exact hq)); have hc9 := HYD.out w9 hB9; have HB9 := Lib.hid (HB.out.drew.trans (hB9.mono HB.out.drew.size)); clear hd9 hB9 hcan)
                      all_goals
                        go_wp2_with fail
                        go_roundw
                        case rel => exact ⟨h + 1, by omega, by go_num, HB9.out⟩
                        case measure => simp [intOf]; omega
                  · obtain rfl : h = N2.length + 1 := by omega
                    have hlt3 : ¬ (((N2.length + 1 : Nat) : Int) ≤ (N2.length : Int)) := by omega
                    have LE := Lib.hid (L7.out.below HB.out)
                    go_wp2_with fail
                    go_roundw
                    case rel => exact ⟨j + 1, N2, Hs, a, c, by omega, (by first | rfl | simp), by go_num, LE.out, HNJ.out, HH6.out⟩
                    case measure => simp [intOf]; omega
            · have dz1 : decide ((1 : Int) ≤ z) = false := decide_eq_false hz1
              have LR := Lib.hid (show Lr w0 w4 tb mb w2.heap.size w1.heap.size M N2 Hs a c from ⟨T4.out, M4.out.told fun y => by
                constructor
                · rintro ⟨h | h, h1, h2⟩
                  · exact h
                  · rw [h] at h1; exact absurd h1 hz1
                · intro h; exact ⟨.inl h, L3.out.inn y h⟩, L3.out.good, L3.out.txt, L3.out.inn, O4.out, S4.out⟩)
              clear L3 T4 M4 O4 S4
              go_wp2_with fail
              go_quiet (fail)
              have LR' := LR.out.below (below_drewN (Below.refl _ _) nq)
              clear LR
              have LR := Lib.hid LR'
              clear LR'
              have HH6 := Lib.hid (show Hs.length ≤ j + 1 by first | omega | (simp; omega))
              have HNJ := Lib.hid (show N2.length ≤ j + 1 by omega)
              go_wp2_with fail
              have hn50 : N2.length ≤ 50 := by omega
              have hfind := find_any LR.out.two.plain.rb LR.out.good.wf LR.out.txt hn50 (Rd.of_own LR.out.own).1
              refine hfind.mono ?_
              clear hfind
              rintro e w6 ⟨Gf, Gc, f, cn, rfl, hf, hc, hfd, hcd, hb6⟩
              have L6 := Lib.hid (LR.out.below hb6)
              have HC6 := Lib.hid hc
              have HF6 := Lib.hid hf
              have HFD := Lib.hid hfd
              have HCD := Lib.hid hcd
              clear hf hc hfd hcd hb6
              go_wp2_with fail
              refine (L6.out.md.knows L6.out.good.wf).mono ?_
              rintro e w7 ⟨v7, x, rfl, hxs, hxd, hxr, _, hb7⟩
              have L7 := Lib.hid (L6.out.below hb7)
              have HC7 := Lib.hid (HC6.out.below hb7)
              have htold := told_any hxr hxs (HF6.out.below hb7) (n := N2.length) (by omega) (fun y h1 h2 => by rw [hxd, HFD.out y h2]) (fun y hy => der_in LR.out.good.wf ((hxd y).1 hy))
              obtain ⟨a7, c7, rfl, _⟩ := id hxr
              clear hxs hxd hxr hb7
              go_wp2_with fail
              refine htold.mono ?_
              clear htold
              rintro e w8 ⟨rfl, rfl⟩
              obtain ⟨ra, rc, hr0⟩ := L7.out.two.ref_len
              go_wp2_with fail
              generalize w8 = W8 at *
              go_loopw [12] (fun hv wr => ∃ h : Nat, h ≤ N2.length + 1 ∧ hv = .int .i64 h ∧ Below W8.heap.size W8 wr) (fun hv _ => N2.length + 1 - (intOf hv).toNat)
              case atStart => exact ⟨0, Nat.zero_le _, rfl, Below.refl _ _⟩
              case round =>
                obtain ⟨h, h2, rfl, hb⟩ := hrel
                have HB := Lib.hid hb
                have hr1 : wr.cell? ⟨w2.heap.size, 0, none⟩ = some (.slice ra N2.length rc) := by rw [hb.cell (cell_lt hr0)]; exact hr0
                clear hb
                by_cases hlt2 : h ≤ N2.length
                · have hlt3 : (h : Int) ≤ (N2.length : Int) := by omega
                  have ih : h < N2.length + 1 := by omega
                  have hcan := (L7.out.md.below (show Below W8.heap.size W8 wr.drew from HB.out.drew)).can LR.out.good.wf (x := (h : Int)) (wf_of (by omega) (by omega))
                  have cy := ((HC7.out.below HB.out).cell (j := h) ih).1
                  have HYD := Lib.hid (show ∀ w9 : World, Below wr.drew.heap.size wr.drew w9 → w9.cell? ⟨Gc, h, none⟩ = some (.bool (cn h)) from fun w9 h9 => by
                    rw [h9.cell (show Gc < wr.heap.size from (HC7.out.below HB.out).lt)]; exact cy)
                  have HQ := Lib.hid (HCD.out h hlt2)
                  generalize cn h = cb at *
                  cases cb with
                  | false =>
                    go_wp2_with fail
                    go_region_with (go_at_call 21; refine hcan.mono ?_; rintro e w9 ⟨b9, rfl, hd9, hB9⟩; obtain rfl : b9 = false := (by rw [Bool.eq_iff_iff, hd9]; first | exact HQ.out.symm | (have hq := HQ.out; simp at hq ⊢; exact hq)); have hc9 := HYD.out w9 hB9; have HB9 := Lib.hid (HB.out.drew.trans (hB9.mono HB.out.drew.size)); clear hd9 hB9 hcan)
                    all_goals
                      go_wp2_with fail
                      go_roundw
                      case rel => exact ⟨h + 1, by omega, by go_num, HB9.out⟩
                      case measure => simp [intOf]; omega
                  | true =>
                    go_wp2_with fail
                    go_region_with (go_at_call 21; refine hcan.mono ?_; rintro e w9 ⟨b9, rfl, hd9, hB9⟩; obtain rfl : b9 = true := (by rw [Bool.eq_iff_iff, hd9]; first | exact HQ.out.symm | (have hq := HQ.out; simp at hq ⊢; exact hq)); have hc9 := HYD.out w9 hB9; have HB9 := Lib.hid (HB.out.drew.trans (hB9.mono HB.out.drew.size)); clear hd9 hB9 hcan)
                    all_goals
                      go_wp2_with fail
                      go_roundw
                      case rel => exact ⟨h + 1, by omega, by go_num, HB9.out⟩
                      case measure => simp [intOf]; omega
                · obtain rfl : h = N2.length + 1 := by omega
                  have hlt3 : ¬ (((N2.length + 1 : Nat) : Int) ≤ (N2.length : Int)) := by omega
                  have LE := Lib.hid (L7.out.below HB.out)
                  go_wp2_with fail
                  go_roundw
                  case rel => exact ⟨j + 1, N2, Hs, a, c, by omega, (by first | rfl | simp), by go_num, LE.out, HNJ.out, HH6.out⟩
                  case measure => simp [intOf]; omega
          · have LR := L3
            clear L3
            have hjz' : ¬ ((j : Int) < (zs.length : Int)) := by omega
            have HH6 := Lib.hid (show Hs.length ≤ j + 1 by first | omega | (simp; omega))
            have HNJ := Lib.hid (show N2.length ≤ j + 1 by omega)
            go_wp2_with fail
            have hn50 : N2.length ≤ 50 := by omega
            have hfind := find_any LR.out.two.plain.rb LR.out.good.wf LR.out.txt hn50 (Rd.of_own LR.out.own).1
            refine hfind.mono ?_
            clear hfind
            rintro e w6 ⟨Gf, Gc, f, cn, rfl, hf, hc, hfd, hcd, hb6⟩
            have L6 := Lib.hid (LR.out.below hb6)
            have HC6 := Lib.hid hc
            have HF6 := Lib.hid hf
            have HFD := Lib.hid hfd
            have HCD := Lib.hid hcd
            clear hf hc hfd hcd hb6
            go_wp2_with fail
            refine (L6.out.md.knows L6.out.good.wf).mono ?_
            rintro e w7 ⟨v7, x, rfl, hxs, hxd, hxr, _, hb7⟩
            have L7 := Lib.hid (L6.out.below hb7)
            have HC7 := Lib.hid (HC6.out.below hb7)
            have htold := told_any hxr hxs (HF6.out.below hb7) (n := N2.length) (by omega) (fun y h1 h2 => by rw [hxd, HFD.out y h2]) (fun y hy => der_in LR.out.good.wf ((hxd y).1 hy))
            obtain ⟨a7, c7, rfl, _⟩ := id hxr
            clear hxs hxd hxr hb7
            go_wp2_with fail
            refine htold.mono ?_
            clear htold
            rintro e w8 ⟨rfl, rfl⟩
            obtain ⟨ra, rc, hr0⟩ := L7.out.two.ref_len
            go_wp2_with fail
            generalize w8 = W8 at *
            go_loopw [12] (fun hv wr => ∃ h : Nat, h ≤ N2.length + 1 ∧ hv = .int .i64 h ∧ Below W8.heap.size W8 wr) (fun hv _ => N2.length + 1 - (intOf hv).toNat)
            case atStart => exact ⟨0, Nat.zero_le _, rfl, Below.refl _ _⟩
            case round =>
              obtain ⟨h, h2, rfl, hb⟩ := hrel
              have HB := Lib.hid hb
              have hr1 : wr.cell? ⟨w2.heap.size, 0, none⟩ = some (.slice ra N2.length rc) := by rw [hb.cell (cell_lt hr0)]; exact hr0
              clear hb
              by_cases hlt2 : h ≤ N2.length
              · have hlt3 : (h : Int) ≤ (N2.length : Int) := by omega
                have ih : h < N2.length + 1 := by omega
                have hcan := (L7.out.md.below (show Below W8.heap.size W8 wr.drew from HB.out.drew)).can LR.out.good.wf (x := (h : Int)) (wf_of (by omega) (by omega))
                have cy := ((HC7.out.below HB.out).cell (j := h) ih).1
                have HYD := Lib.hid (show ∀ w9 : World, Below wr.drew.heap.size wr.drew w9 → w9.cell? ⟨Gc, h, none⟩ = some (.bool (cn h)) from fun w9 h9 => by
                  rw [h9.cell (show Gc < wr.heap.size from (HC7.out.below HB.out).lt)]; exact cy)
                have HQ := Lib.hid (HCD.out h hlt2)
                generalize cn h = cb at *
                cases cb with
                | false =>
                  go_wp2_with fail
                  go_region_with (go_at_call 21; refine hcan.mono ?_; rintro e w9 ⟨b9, rfl, hd9, hB9⟩; obtain rfl : b9 = false := (by rw [Bool.eq_iff_iff, hd9]; first | exact HQ.out.symm | (have hq := HQ.out; simp at hq ⊢; exact hq)); have hc9 := HYD.out w9 hB9; have HB9 := Lib.hid (HB.out.drew.trans (hB9.mono HB.out.drew.size)); clear hd9 hB9 hcan)
                  all_goals
                    go_wp2_with fail
                    go_roundw
                    case rel => exact ⟨h + 1, by omega, by go_num, HB9.out⟩
                    case measure => simp [intOf]; omega
                | true =>
                  go_wp2_with fail
                  go_region_with (go_at_call 21; refine hcan.mono ?_; rintro e w9 ⟨b9, rfl, hd9, hB9⟩; obtain rfl : b9 = true := (by rw [Bool.eq_iff_iff, hd9]; first | exact HQ.out.symm | (have hq := HQ.out; simp at hq ⊢; exact hq)); have hc9 := HYD.out w9 hB9; have HB9 := Lib.hid (HB.out.drew.trans (hB9.mono HB.out.drew.size)); clear hd9 hB9 hcan)
                  all_goals
                    go_wp2_with fail
                    go_roundw
                    case rel => exact ⟨h + 1, by omega, by go_num, HB9.out⟩
                    case measure => simp [intOf]; omega
              · obtain rfl : h = N2.length + 1 := by omega
                have hlt3 : ¬ (((N2.length + 1 : Nat) : Int) ≤ (N2.length : Int)) := by omega
                have LE := Lib.hid (L7.out.below HB.out)
                go_wp2_with fail
                go_roundw
                case rel => exact ⟨j + 1, N2, Hs, a, c, by omega, (by first | rfl | simp), by go_num, LE.out, HNJ.out, HH6.out⟩
                case measure => simp [intOf]; omega
        · go_wp2_with fail
          refine hd.mono ?_
          clear hd
          rintro e w3 ⟨rfl, l3⟩
          have L3 := Lib.hid l3
          clear l3
          by_cases hjz : j < zs.length
          · have hjz' : (j : Int) < (zs.length : Int) := by omega
            have hzr := HR.out.below L3.out.two.bel
            obtain ⟨b3, o3, c3, e3, hc3, hd3, q3⟩ := rd_at2 hzr hjz
            cases e3
            have hzw := HWF.out _ (getD_mem hjz)
            have hlearn := L3.out.learn (by have := HB01.out; omega) hzw
            have HZR := Lib.hid (show ∀ X : World, Below w0.heap.size w0 X → X.cell? ⟨b3, o3 + j, none⟩ = some (.int .i64 (zs.getD j 0)) from fun X hX => by
              obtain ⟨b4, o4, c4, e4, _, _, q4⟩ := rd_at2 (HR.out.below hX) hjz
              cases e4
              exact q4)
            generalize zs.getD j 0 = z at *
            clear hzr hzw
            go_wp2_with fail
            refine hlearn.mono ?_
            clear hlearn
            rintro e w4 ⟨rfl, t4, m4, o4, s4⟩
            have T4 := Lib.hid t4
            have M4 := Lib.hid m4
            have O4 := Lib.hid o4
            have S4 := Lib.hid s4
            obtain ⟨ra4, rc4, hr4⟩ := t4.ref_len
            have q4 := HZR.out w4 t4.bel
            clear t4 m4 o4 s4 q3
            by_cases hz1 : (1 : Int) ≤ z
            · have dz1 : decide ((1 : Int) ≤ z) = true := decide_eq_true hz1
              by_cases hz2 : z ≤ (N2.length : Int)
              · have dz2 : decide (z ≤ (N2.length : Int)) = true := decide_eq_true hz2
                have LG := Lib.hid L3.out.good
                have LT := Lib.hid L3.out.txt
                have LI := Lib.hid L3.out.inn
                clear L3
                go_wp2_with fail
                go_quiet (fail)
                have TA := Lib.hid (T4.out.keep (below_drewN (Below.refl _ _) nq) |>.keep (below_alloc (w4.drewN nq) (.cells #[.int .i64 z] 3)))
                have MA := Lib.hid ((M4.out.below (below_drewN (Below.refl _ _) nq)).below (below_alloc (w4.drewN nq) (.cells #[.int .i64 z] 3)))
                have oA := own_alloc (own_below O4.out (below_drewN (Below.refl _ _) nq)) (.cells #[.int .i64 z] 3)
                have cA : ((w4.drewN nq).alloc (.cells #[.int .i64 z] 3)).cell? ⟨w4.heap.size, 0, none⟩ = some (.int .i64 z) := (cell_of_row _ w4.heap.size 0 _ 3 (0, 0) (heap_alloc_new (w4.drewN nq) _)).trans rfl
                have HZ12 := Lib.hid (And.intro hz1 hz2)
                go_wp2_with (at_builtin; refine wpList_append_int1 (.tmp 64) (.tmp 69) rfl rfl w0.heap.size _ Hs.length Hs rfl oA ⟨w4.heap.size, 0, none⟩ 1 z rfl cA (by omega) TA.out.bel.size ?_; intro v5 w5 o5 g5 l5; obtain ⟨a5, c5, rfl, _, _⟩ := own_shape o5; have HO5 := Lib.hid o5; have HG5 := Lib.hid g5; have HL5 := Lib.hid l5; have HOA := Lib.hid oA; clear o5 g5 l5 oA cA)
                obtain ⟨t5, m5⟩ := grow_two TA.out MA.out HOA.out HG5.out HL5.out (fun g hg => (HO5.out.lt g hg).2)
                have HRL := Lib.hid (show (Hs ++ [z]).length = Hs.length + 1 by simp)
                have LR := Lib.hid (show Lr w0 w5 tb mb w2.heap.size w1.heap.size M N2 (Hs ++ [z]) a5 c5 from by
                  have e := HRL.out
                  refine ⟨by rw [e]; exact t5, m5.told fun y => ?_, LG.out, LT.out, fun y hy => ?_, by rw [e]; exact HO5.out, ?_⟩
                  · rw [List.mem_append, List.mem_singleton]
                    constructor
                    · rintro ⟨h, _⟩; exact h
                    · rintro (h | h)
                      · exact ⟨.inl h, LI.out y h⟩
                      · rw [h]; exact ⟨.inr rfl, HZ12.out.1, HZ12.out.2⟩
                  · rcases List.mem_append.1 hy with h | h
                    · exact LI.out y h
                    · rw [List.mem_singleton] at h; rw [h]; exact HZ12.out
                  · have := S4.out
                    have := HG5.out.size
                    simp at this
                    have h4 : (w4.drewN nq).heap.size = w4.heap.size := rfl
                    omega)
                clear t5 m5 TA MA
                have HH6 := Lib.hid (show (Hs ++ [z]).length ≤ j + 1 by first | omega | (simp; omega))
                have HNJ := Lib.hid (show N2.length ≤ j + 1 by omega)
                have hn50 : N2.length ≤ 50 := by omega
                have hfind := find_any LR.out.two.plain.rb LR.out.good.wf LR.out.txt hn50 (Rd.of_own LR.out.own).1
                rw [HRL.out] at hfind
                refine hfind.mono ?_
                clear hfind
                rintro e w6 ⟨Gf, Gc, f, cn, rfl, hf, hc, hfd, hcd, hb6⟩
                have L6 := Lib.hid (LR.out.below hb6)
                have HC6 := Lib.hid hc
                have HF6 := Lib.hid hf
                have HFD := Lib.hid hfd
                have HCD := Lib.hid hcd
                clear hf hc hfd hcd hb6
                go_wp2_with fail
                refine (L6.out.md.knows L6.out.good.wf).mono ?_
                rintro e w7 ⟨v7, x, rfl, hxs, hxd, hxr, _, hb7⟩
                have L7 := Lib.hid (L6.out.below hb7)
                have HC7 := Lib.hid (HC6.out.below hb7)
                have htold := told_any hxr hxs (HF6.out.below hb7) (n := N2.length) (by omega) (fun y h1 h2 => by rw [hxd, HFD.out y h2]) (fun y hy => der_in LR.out.good.wf ((hxd y).1 hy))
                obtain ⟨a7, c7, rfl, _⟩ := id hxr
                clear hxs hxd hxr hb7
                go_wp2_with fail
                refine htold.mono ?_
                clear htold
                rintro e w8 ⟨rfl, rfl⟩
                obtain ⟨ra, rc, hr0⟩ := L7.out.two.ref_len
                go_wp2_with fail
                generalize w8 = W8 at *
                go_loopw [12] (fun hv wr => ∃ h : Nat, h ≤ N2.length + 1 ∧ hv = .int .i64 h ∧ Below W8.heap.size W8 wr) (fun hv _ => N2.length + 1 - (intOf hv).toNat)
                case atStart => exact ⟨0, Nat.zero_le _, rfl, Below.refl _ _⟩
                case round =>
                  obtain ⟨h, h2, rfl, hb⟩ := hrel
                  have HB := Lib.hid hb
                  have hr1 : wr.cell? ⟨w2.heap.size, 0, none⟩ = some (.slice ra N2.length rc) := by rw [hb.cell (cell_lt hr0)]; exact hr0
                  clear hb
                  by_cases hlt2 : h ≤ N2.length
                  · have hlt3 : (h : Int) ≤ (N2.length : Int) := by omega
                    have ih : h < N2.length + 1 := by omega
                    have hcan := (L7.out.md.below (show Below W8.heap.size W8 wr.drew from HB.out.drew)).can LR.out.good.wf (x := (h : Int)) (wf_of (by omega) (by omega))
                    have cy := ((HC7.out.below HB.out).cell (j := h) ih).1
                    have HYD := Lib.hid (show ∀ w9 : World, Below wr.drew.heap.size wr.drew w9 → w9.cell? ⟨Gc, h, none⟩ = some (.bool (cn h)) from fun w9 h9 => by
                      rw [h9.cell (show Gc < wr.heap.size from (HC7.out.below HB.out).lt)]; exact cy)
                    have HQ := Lib.hid (HCD.out h hlt2)
                    generalize cn h = cb at *
                    cases cb with
                    | false =>
                      go_wp2_with fail
                      go_region_with (go_at_call 21; refine hcan.mono ?_; rintro e w9 ⟨b9, rfl, hd9, hB9⟩; obtain rfl : b9 = false := (by rw [Bool.eq_iff_iff, hd9]; first | exact HQ.out.symm | (have hq := HQ.out; simp at hq ⊢; exact hq)); have hc9 := HYD.out w9 hB9; have HB9 := Lib.hid (HB.out.drew.trans (hB9.mono HB.out.drew.size)); clear hd9 hB9 hcan)
                      all_goals
                        go_wp2_with fail
                        go_roundw
                        case rel => exact ⟨h + 1, by omega, by go_num, HB9.out⟩
                        case measure => simp [intOf]; omega
                    | true =>
                      go_wp2_with fail
                      go_region_with (go_at_call 21; refine hcan.mono ?_; rintro e w9 ⟨b9, rfl, hd9, hB9⟩; obtain rfl : b9 = true := (by rw [Bool.eq_iff_iff, hd9]; first | exact HQ.out.symm | (have hq := HQ.out; simp at hq ⊢; exact hq)); have hc9 := HYD.out w9 hB9; have HB9 := Lib.hid (HB.out.drew.trans (hB9.mono HB.out.drew.size)); clear hd9 hB9 hcan)
                      all_goals
                        go_wp2_with fail
                        go_roundw
                        case rel => exact ⟨h + 1, by omega, by go_num, HB9.out⟩
                        case measure => simp [intOf]; omega
                  · obtain rfl : h = N2.length + 1 := by omega
                    have hlt3 : ¬ (((N2.length + 1 : Nat) : Int) ≤ (N2.length : Int)) := by omega
                    have LE := Lib.hid (L7.out.below HB.out)
                    go_wp2_with fail
                    go_roundw
                    case rel => exact ⟨j + 1, N2, (Hs ++ [z]), a5, c5, by omega, (by first | rfl | simp), by go_num, LE.out, HNJ.out, HH6.out⟩
                    case measure => simp [intOf]; omega
              · have dz2 : decide (z ≤ (N2.length : Int)) = false := decide_eq_false hz2
                have LR := Lib.hid (show Lr w0 w4 tb mb w2.heap.size w1.heap.size M N2 Hs a c from ⟨T4.out, M4.out.told fun y => by
                  constructor
                  · rintro ⟨h | h, h1, h2⟩
                    · exact h
                    · rw [h] at h2; exact absurd h2 hz2
                  · intro h; exact ⟨.inl h, L3.out.inn y h⟩, L3.out.good, L3.out.txt, L3.out.inn, O4.out, S4.out⟩)
                clear L3 T4 M4 O4 S4
                go_wp2_with fail
                go_quiet (fail)
                have LR' := LR.out.below (below_drewN (Below.refl _ _) nq)
                clear LR
                have LR := Lib.hid LR'
                clear LR'
                have HH6 := Lib.hid (show Hs.length ≤ j + 1 by first | omega | (simp; omega))
                have HNJ := Lib.hid (show N2.length ≤ j + 1 by omega)
                go_wp2_with fail
                have hn50 : N2.length ≤ 50 := by omega
                have hfind := find_any LR.out.two.plain.rb LR.out.good.wf LR.out.txt hn50 (Rd.of_own LR.out.own).1
                refine hfind.mono ?_
                clear hfind
                rintro e w6 ⟨Gf, Gc, f, cn, rfl, hf, hc, hfd, hcd, hb6⟩
                have L6 := Lib.hid (LR.out.below hb6)
                have HC6 := Lib.hid hc
                have HF6 := Lib.hid hf
                have HFD := Lib.hid hfd
                have HCD := Lib.hid hcd
                clear hf hc hfd hcd hb6
                go_wp2_with fail
                refine (L6.out.md.knows L6.out.good.wf).mono ?_
                rintro e w7 ⟨v7, x, rfl, hxs, hxd, hxr, _, hb7⟩
                have L7 := Lib.hid (L6.out.below hb7)
                have HC7 := Lib.hid (HC6.out.below hb7)
                have htold := told_any hxr hxs (HF6.out.below hb7) (n := N2.length) (by omega) (fun y h1 h2 => by rw [hxd, HFD.out y h2]) (fun y hy => der_in LR.out.good.wf ((hxd y).1 hy))
                obtain ⟨a7, c7, rfl, _⟩ := id hxr
                clear hxs hxd hxr hb7
                go_wp2_with fail
                refine htold.mono ?_
                clear htold
                rintro e w8 ⟨rfl, rfl⟩
                obtain ⟨ra, rc, hr0⟩ := L7.out.two.ref_len
                go_wp2_with fail
                generalize w8 = W8 at *
                go_loopw [12] (fun hv wr => ∃ h : Nat, h ≤ N2.length + 1 ∧ hv = .int .i64 h ∧ Below W8.heap.size W8 wr) (fun hv _ => N2.length + 1 - (intOf hv).toNat)
                case atStart => exact ⟨0, Nat.zero_le _, rfl, Below.refl _ _⟩
                case round =>
                  obtain ⟨h, h2, rfl, hb⟩ := hrel
                  have HB := Lib.hid hb
                  have hr1 : wr.cell? ⟨w2.heap.size, 0, none⟩ = some (.slice ra N2.length rc) := by rw [hb.cell (cell_lt hr0)]; exact hr0
                  clear hb
                  by_cases hlt2 : h ≤ N2.length
                  · have hlt3 : (h : Int) ≤ (N2.length : Int) := by omega
                    have ih : h < N2.length + 1 := by omega
                    have hcan := (L7.out.md.below (show Below W8.heap.size W8 wr.drew from HB.out.drew)).can LR.out.good.wf (x := (h : Int)) (wf_of (by omega) (by omega))
                    have cy := ((HC7.out.below HB.out).cell (j := h) ih).1
                    have HYD := Lib.hid (show ∀ w9 : World, Below wr.drew.heap.size wr.drew w9 → w9.cell? ⟨Gc, h, none⟩ = some (.bool (cn h)) from fun w9 h9 => by
                      rw [h9.cell (show Gc < wr.heap.size from (HC7.out.below HB.out).lt)]; exact cy)
                    have HQ := Lib.hid (HCD.out h hlt2)
                    generalize cn h = cb at *
                    cases cb with
                    | false =>
                      go_wp2_with fail
                      go_region_with (go_at_call 21; refine hcan.mono ?_; rintro e w9 ⟨b9, rfl, hd9, hB9⟩; obtain rfl : b9 = false := (by rw [Bool.eq_iff_iff, hd9]; first | exact HQ.out.symm | (have hq := HQ.out; simp at hq ⊢; exact hq)); have hc9 := HYD.out w9 hB9; have HB9 := Lib.hid (HB.out.drew.trans (hB9.mono HB.out.drew.size)); clear hd9 hB9 hcan)
                      all_goals
                        go_wp2_with fail
                        go_roundw
                        case rel => exact ⟨h + 1, by omega, by go_num, HB9.out⟩
                        case measure => simp [intOf]; omega
                    | true =>
                      go_wp2_with fail
                      go_region_with (go_at_call 21; refine hcan.mono ?_; rintro e w9 ⟨b9, rfl, hd9, hB9⟩; obtain rfl : b9 = true := (by rw [Bool.eq_iff_iff, hd9]; first | exact HQ.out.symm | (have hq := HQ.out; simp at hq ⊢; exact hq)); have hc9 := HYD.out w9 hB9; have HB9 := Lib.hid (HB.out.drew.trans (hB9.mono HB.out.drew.size)); clear hd9 hB9 hcan)
                      all_goals
                        go_wp2_with fail
                        go_roundw
                        case rel => exact ⟨h + 1, by omega, by go_num, HB9.out⟩
                        case measure => simp [intOf]; omega
                  · obtain rfl : h = N2.length + 1 := by omega
                    have hlt3 : ¬ (((N2.length + 1 : Nat) : Int) ≤ (N2.length : Int)) := by omega
                    have LE := Lib.hid (L7.out.below HB.out)
                    go_wp2_with fail
                    go_roundw
                    case rel => exact ⟨j + 1, N2, Hs, a, c, by omega, (by first | rfl | simp), by go_num, LE.out, HNJ.out, HH6.out⟩
                    case measure => simp [intOf]; omega
            · have dz1 : decide ((1 : Int) ≤ z) = false := decide_eq_false hz1
              have LR := Lib.hid (show Lr w0 w4 tb mb w2.heap.size w1.heap.size M N2 Hs a c from ⟨T4.out, M4.out.told fun y => by
                constructor
                · rintro ⟨h | h, h1, h2⟩
                  · exact h
                  · rw [h] at h1; exact absurd h1 hz1
                · intro h; exact ⟨.inl h, L3.out.inn y h⟩, L3.out.good, L3.out.txt, L3.out.inn, O4.out, S4.out⟩)
              clear L3 T4 M4 O4 S4
              go_wp2_with fail
              go_quiet (fail)
              have LR' := LR.out.below (below_drewN (Below.refl _ _) nq)
              clear LR
              have LR := Lib.hid LR'
              clear LR'
              have HH6 := Lib.hid (show Hs.length ≤ j + 1 by first | omega | (simp; omega))
              have HNJ := Lib.hid (show N2.length ≤ j + 1 by omega)
              go_wp2_with fail
              have hn50 : N2.length ≤ 50 := by omega
              have hfind := find_any LR.out.two.plain.rb LR.out.good.wf LR.out.txt hn50 (Rd.of_own LR.out.own).1
              refine hfind.mono ?_
              clear hfind
              rintro e w6 ⟨Gf, Gc, f, cn, rfl, hf, hc, hfd, hcd, hb6⟩
              have L6 := Lib.hid (LR.out.below hb6)
              have HC6 := Lib.hid hc
              have HF6 := Lib.hid hf
              have HFD := Lib.hid hfd
              have HCD := Lib.hid hcd
              clear hf hc hfd hcd hb6
              go_wp2_with fail
              refine (L6.out.md.knows L6.out.good.wf).mono ?_
              rintro e w7 ⟨v7, x, rfl, hxs, hxd, hxr, _, hb7⟩
              have L7 := Lib.hid (L6.out.below hb7)
              have HC7 := Lib.hid (HC6.out.below hb7)
              have htold := told_any hxr hxs (HF6.out.below hb7) (n := N2.length) (by omega) (fun y h1 h2 => by rw [hxd, HFD.out y h2]) (fun y hy => der_in LR.out.good.wf ((hxd y).1 hy))
              obtain ⟨a7, c7, rfl, _⟩ := id hxr
              clear hxs hxd hxr hb7
              go_wp2_with fail
              refine htold.mono ?_
              clear htold
              rintro e w8 ⟨rfl, rfl⟩
              obtain ⟨ra, rc, hr0⟩ := L7.out.two.ref_len
              go_wp2_with fail
              generalize w8 = W8 at *
              go_loopw [12] (fun hv wr => ∃ h : Nat, h ≤ N2.length + 1 ∧ hv = .int .i64 h ∧ Below W8.heap.size W8 wr) (fun hv _ => N2.length + 1 - (intOf hv).toNat)
              case atStart => exact ⟨0, Nat.zero_le _, rfl, Below.refl _ _⟩
              case round =>
                obtain ⟨h, h2, rfl, hb⟩ := hrel
                have HB := Lib.hid hb
                have hr1 : wr.cell? ⟨w2.heap.size, 0, none⟩ = some (.slice ra N2.length rc) := by rw [hb.cell (cell_lt hr0)]; exact hr0
                clear hb
                by_cases hlt2 : h ≤ N2.length
                · have hlt3 : (h : Int) ≤ (N2.length : Int) := by omega
                  have ih : h < N2.length + 1 := by omega
                  have hcan := (L7.out.md.below (show Below W8.heap.size W8 wr.drew from HB.out.drew)).can LR.out.good.wf (x := (h : Int)) (wf_of (by omega) (by omega))
                  have cy := ((HC7.out.below HB.out).cell (j := h) ih).1
                  have HYD := Lib.hid (show ∀ w9 : World, Below wr.drew.heap.size wr.drew w9 → w9.cell? ⟨Gc, h, none⟩ = some (.bool (cn h)) from fun w9 h9 => by
                    rw [h9.cell (show Gc < wr.heap.size from (HC7.out.below HB.out).lt)]; exact cy)
                  have HQ := Lib.hid (HCD.out h hlt2)
                  generalize cn h = cb at *
                  cases cb with
                  | false =>
                    go_wp2_with fail
                    go_region_with (go_at_call 21; refine hcan.mono ?_; rintro e w9 ⟨b9, rfl, hd9, hB9⟩; obtain rfl : b9 = false := (by rw [Bool.eq_iff_iff, hd9]; first | exact HQ.out.symm | (have hq := HQ.out; simp at hq ⊢; exact hq)); have hc9 := HYD.out w9 hB9; have HB9 := Lib.hid (HB.out.drew.trans (hB9.mono HB.out.drew.size)); clear hd9 hB9 hcan)
                    all_goals
                      go_wp2_with fail
                      go_roundw
                      case rel => exact ⟨h + 1, by omega, by go_num, HB9.out⟩
                      case measure => simp [intOf]; omega
                  | true =>
                    go_wp2_with fail
                    go_region_with (go_at_call 21; refine hcan.mono ?_; rintro e w9 ⟨b9, rfl, hd9, hB9⟩; obtain rfl : b9 = true := (by rw [Bool.eq_iff_iff, hd9]; first | exact HQ.out.symm | (have hq := HQ.out; simp at hq ⊢; exact hq)); have hc9 := HYD.out w9 hB9; have HB9 := Lib.hid (HB.out.drew.trans (hB9.mono HB.out.drew.size)); clear hd9 hB9 hcan)
                    all_goals
                      go_wp2_with fail
                      go_roundw
                      case rel => exact ⟨h + 1, by omega, by go_num, HB9.out⟩
                      case measure => simp [intOf]; omega
                · obtain rfl : h = N2.length + 1 := by omega
                  have hlt3 : ¬ (((N2.length + 1 : Nat) : Int) ≤ (N2.length : Int)) := by omega
                  have LE := Lib.hid (L7.out.below HB.out)
                  go_wp2_with fail
                  go_roundw
                  case rel => exact ⟨j + 1, N2, Hs, a, c, by omega, (by first | rfl | simp), by go_num, LE.out, HNJ.out, HH6.out⟩
                  case measure => simp [intOf]; omega
          · have LR := L3
            clear L3
            have hjz' : ¬ ((j : Int) < (zs.length : Int)) := by omega
            have HH6 := Lib.hid (show Hs.length ≤ j + 1 by first | omega | (simp; omega))
            have HNJ := Lib.hid (show N2.length ≤ j + 1 by omega)
            go_wp2_with fail
            have hn50 : N2.length ≤ 50 := by omega
            have hfind := find_any LR.out.two.plain.rb LR.out.good.wf LR.out.txt hn50 (Rd.of_own LR.out.own).1
            refine hfind.mono ?_
            clear hfind
            rintro e w6 ⟨Gf, Gc, f, cn, rfl, hf, hc, hfd, hcd, hb6⟩
            have L6 := Lib.hid (LR.out.below hb6)
            have HC6 := Lib.hid hc
            have HF6 := Lib.hid hf
            have HFD := Lib.hid hfd
            have HCD := Lib.hid hcd
            clear hf hc hfd hcd hb6
            go_wp2_with fail
            refine (L6.out.md.knows L6.out.good.wf).mono ?_
            rintro e w7 ⟨v7, x, rfl, hxs, hxd, hxr, _, hb7⟩
            have L7 := Lib.hid (L6.out.below hb7)
            have HC7 := Lib.hid (HC6.out.below hb7)
            have htold := told_any hxr hxs (HF6.out.below hb7) (n := N2.length) (by omega) (fun y h1 h2 => by rw [hxd, HFD.out y h2]) (fun y hy => der_in LR.out.good.wf ((hxd y).1 hy))
            obtain ⟨a7, c7, rfl, _⟩ := id hxr
            clear hxs hxd hxr hb7
            go_wp2_with fail
            refine htold.mono ?_
            clear htold
            rintro e w8 ⟨rfl, rfl⟩
            obtain ⟨ra, rc, hr0⟩ := L7.out.two.ref_len
            go_wp2_with fail
            generalize w8 = W8 at *
            go_loopw [12] (fun hv wr => ∃ h : Nat, h ≤ N2.length + 1 ∧ hv = .int .i64 h ∧ Below W8.heap.size W8 wr) (fun hv _ => N2.length + 1 - (intOf hv).toNat)
            case atStart => exact ⟨0, Nat.zero_le _, rfl, Below.refl _ _⟩
            case round =>
              obtain ⟨h, h2, rfl, hb⟩ := hrel
              have HB := Lib.hid hb
              have hr1 : wr.cell? ⟨w2.heap.size, 0, none⟩ = some (.slice ra N2.length rc) := by rw [hb.cell (cell_lt hr0)]; exact hr0
              clear hb
              by_cases hlt2 : h ≤ N2.length
              · have hlt3 : (h : Int) ≤ (N2.length : Int) := by omega
                have ih : h < N2.length + 1 := by omega
                have hcan := (L7.out.md.below (show Below W8.heap.size W8 wr.drew from HB.out.drew)).can LR.out.good.wf (x := (h : Int)) (wf_of (by omega) (by omega))
                have cy := ((HC7.out.below HB.out).cell (j := h) ih).1
                have HYD := Lib.hid (show ∀ w9 : World, Below wr.drew.heap.size wr.drew w9 → w9.cell? ⟨Gc, h, none⟩ = some (.bool (cn h)) from fun w9 h9 => by
                  rw [h9.cell (show Gc < wr.heap.size from (HC7.out.below HB.out).lt)]; exact cy)
                have HQ := Lib.hid (HCD.out h hlt2)
                generalize cn h = cb at *
                cases cb with
                | false =>
                  go_wp2_with fail
                  go_region_with (go_at_call 21; refine hcan.mono ?_; rintro e w9 ⟨b9, rfl, hd9, hB9⟩; obtain rfl : b9 = false := (by rw [Bool.eq_iff_iff, hd9]; first | exact HQ.out.symm | (have hq := HQ.out; simp at hq ⊢; exact hq)); have hc9 := HYD.out w9 hB9; have HB9 := Lib.hid (HB.out.drew.trans (hB9.mono HB.out.drew.size)); clear hd9 hB9 hcan)
                  all_goals
                    go_wp2_with fail
                    go_roundw
                    case rel => exact ⟨h + 1, by omega, by go_num, HB9.out⟩
                    case measure => simp [intOf]; omega
                | true =>
                  go_wp2_with fail
                  go_region_with (go_at_call 21; refine hcan.mono ?_; rintro e w9 ⟨b9, rfl, hd9, hB9⟩; obtain rfl : b9 = true := (by rw [Bool.eq_iff_iff, hd9]; first | exact HQ.out.symm | (have hq := HQ.out; simp at hq ⊢; exact hq)); have hc9 := HYD.out w9 hB9; have HB9 := Lib.hid (HB.out.drew.trans (hB9.mono HB.out.drew.size)); clear hd9 hB9 hcan)
                  all_goals
                    go_wp2_with fail
                    go_roundw
                    case rel => exact ⟨h + 1, by omega, by go_num, HB9.out⟩
                    case measure => simp [intOf]; omega
              · obtain rfl : h = N2.length + 1 := by omega
                have hlt3 : ¬ (((N2.length + 1 : Nat) : Int) ≤ (N2.length : Int)) := by omega
                have LE := Lib.hid (L7.out.below HB.out)
                go_wp2_with fail
                go_roundw
                case rel => exact ⟨j + 1, N2, Hs, a, c, by omega, (by first | rfl | simp), by go_num, LE.out, HNJ.out, HH6.out⟩
                case measure => simp [intOf]; omega
      · obtain rfl : j = l.length := by omega
        go_wp2_with fail
        refine (kawake_any _).mono ?_
        rintro e w9 ⟨rfl, b9⟩
        go_wp2_with fail
        go_ret
        have g1 := LR0.out.two.bel
        exact ⟨rfl, g1.trans (b9.mono g1.size)⟩
#print axioms klearns_walk
end Go.Proofs.Ytinncmljffcobaa
