/- law 15's own: is, Rows, derived. -/
import Derived.Test.YtipgidcpocgojaaScGd
namespace Go.Proofs.Ytipgidcpocgojaa
open Go Go.RowKit

variable {w0 w : World} {tb mb n : Nat} {N : List Nd}
set_option maxRecDepth 20000 in
set_option maxHeartbeats 1600000 in
theorem is_true (h : St w0 w tb mb N []) {m k : Int} {ps : List Int} (hm : Has N m (k, ByteArray.empty, ps)) {pv : Value} (hp : Rd .i64 w pv ps) (hpos : 0 < ps.length) (hle : ps.length ≤ 16) :
    Calls Try.prog 14 #[.pointer (some ⟨tb, 0, none⟩), .int .i64 m, .int .i64 k, pv] w fun e w' => e = .returned (.bool true) ∧ Below w.heap.size w w' := by
  have c1 : Calls Try.prog 25 #[.pointer (some ⟨tb, 0, none⟩), .int .i64 m] w fun e w' => ∃ g cap, e = .returned (.tuple #[.agg #[.int .i64 k, .string ByteArray.empty, .slice (some ⟨g, 0, none⟩) ps.length cap], .bool true]) ∧ ps.length ≤ cap ∧ cap ≤ 9223372036854775807 ∧ g < w'.heap.size ∧ (∀ j, j < ps.length → w'.cell? ⟨g, j, none⟩ = some (.int .i64 (ps.getD j 0))) ∧ Below w.heap.size w w' := by
    have hps := hm.pos
    have := h.look (m - 1).toNat _ hm.at'
    rw [show (((m - 1).toNat : Nat) : Int) + 1 = m by omega] at this
    refine this.mono ?_
    rintro e w' ⟨pv', rfl, ho, hb, hs⟩
    have hr := (Rd.of_own ho).1
    rcases ho.2 with ⟨_, h0⟩ | ⟨g, cap, cur, rfl, hg, hh, h1, h2, h3, h4⟩
    · simp only at h0; omega
    · unfold maxLen at h2
      obtain ⟨ao, cp, hv, _, _, _, hc⟩ := hr
      cases hv
      refine ⟨g, cap, rfl, h1, by omega, blk_lt hh, fun j hj => ?_, hb⟩
      have := hc _ rfl j hj
      rw [Addr.add_lit, Nat.zero_add] at this
      exact this
  obtain ⟨ao, pc, rfl, hpl, hpm, hpn, hpc⟩ := hp
  cases ao with
  | none => have := hpn rfl; omega
  | some ad =>
    obtain ⟨b, off, spot⟩ := ad
    have hs : spot = none := by
      have := hpc _ rfl 0 hpos
      simpa [Addr.add] using World.cell?_spot this
    subst hs
    have hcell : ∀ j, j < ps.length → w.cell? ⟨b, off + j, none⟩ = some (.int .i64 (ps.getD j 0)) := fun j hj => by
      have := hpc _ rfl j hj
      rwa [Addr.add_lit] at this
    unfold maxLen at hpm
    have HC := Lib.hid hcell
    have t1 : ((k : Int) != k) = false := by simp
    obtain ⟨n, hn⟩ : ∃ n, n = ps.length := ⟨_, rfl⟩
    rw [← hn] at c1 hpl hpos hle ⊢
    have t2 : ((n : Int) != (n : Int)) = false := by simp
    have HN := Lib.hid hn
    clear h hm hpc hpn hcell hn
    go_enter Try.func14, Try.ntmps14
    go_wp2_with fail
    refine c1.mono ?_
    rintro e w1 ⟨g, cap, rfl, hc1, hc2, hg, k0, hb1⟩
    obtain ⟨X, hX⟩ : ∃ X, X = w1.alloc (.cells #[.int .i64 k, .string ByteArray.empty, .slice (some ⟨g, 0, none⟩) n cap] 40) := ⟨_, rfl⟩
    have hXb : Below w1.heap.size w1 X := by rw [hX]; exact below_alloc _ _
    have hA : X.heap[w1.heap.size]? = some (.cells #[.int .i64 k, .string ByteArray.empty, .slice (some ⟨g, 0, none⟩) n cap] 40 (0, 0)) := by rw [hX]; exact heap_alloc_new _ _
    have HX := Lib.hid (And.intro hX (And.intro hXb (And.intro hA (And.intro hg (And.intro k0 (hb1.trans (hXb.mono hb1.size)))))))
    have hBX : Below X.heap.size (w1.alloc (.cells #[.int .i64 k, .string ByteArray.empty, .slice (some ⟨g, 0, none⟩) n cap] 40)) X := by rw [hX]; exact Below.refl _ _
    clear c1 k0 hX hXb hA
    go_wp2_with fail
    go_loopw [11] (fun i wr => ∃ j : Nat, i = .int .i64 j ∧ j ≤ n ∧ Hid (Below X.heap.size X wr)) (fun i _ => n - (intOf i).toNat)
    case atStart => exact ⟨0, rfl, Nat.zero_le _, Lib.hid (by rw [HX.out.1]; exact Below.refl _ _)⟩
    case round =>
      obtain ⟨j, rfl, hj, hB⟩ := hrel
      by_cases hlt : j < n
      · have hi : (j : Int) < (n : Int) := by omega
        have g0 : wr.cell? ⟨w1.heap.size, 2, none⟩ = some (.slice (some ⟨g, 0, none⟩) n cap) := by
          rw [hB.out.cell (blk_lt HX.out.2.2.1)]
          exact (cell_of_row _ w1.heap.size 2 _ 40 (0, 0) HX.out.2.2.1).trans rfl
        have g1 : wr.cell? ⟨g, j, none⟩ = some (.int .i64 (ps.getD j 0)) := by
          have hgX : g < X.heap.size := Nat.lt_of_lt_of_le HX.out.2.2.2.1 HX.out.2.1.size
          rw [hB.out.cell hgX, HX.out.2.1.cell HX.out.2.2.2.1]
          exact HX.out.2.2.2.2.1 j hlt
        have g2 : wr.cell? ⟨b, off + j, none⟩ = some (.int .i64 (ps.getD j 0)) := by
          have h1 := HC.out j (by rw [← HN.out]; exact hlt)
          have h2 := HX.out.2.2.2.2.2
          rw [hB.out.cell (Nat.lt_of_lt_of_le (cell_lt h1) h2.size), h2.cell (cell_lt h1)]
          exact h1
        generalize ps.getD j 0 = z at *
        have t3 : ((z : Int) != z) = false := by simp
        go_wp2_with fail
        go_quiet (fail)
        go_wp2_with fail
        go_roundw
        case rel => exact ⟨j + 1, by go_num, by omega, Lib.hid (hB.out.trans ((below_drewN wr nq).mono hB.out.size))⟩
        case measure => simp [intOf]; omega
      · have HBel := Lib.hid (HX.out.2.2.2.2.2.trans (hB.out.mono HX.out.2.2.2.2.2.size))
        go_wp2_with fail
        go_ret
        exact ⟨rfl, HBel.out⟩

/-- The rows' cells, and the rows. -/
def rowCells : Array Value := #[.string lClientIn, .bool false, .string lServerIn, .bool false, .string lEarly, .bool false, .string lClientEarly, .bool true, .string lHandshake, .bool false, .string lClientHs, .bool true, .string lServerHs, .bool true, .string lMain, .bool false, .string lClientApp, .bool true, .string lServerApp, .bool true, .string lResume, .bool true, .string lFinished, .bool false, .string lBinder, .bool false]
def rowsL : List (ByteArray × Bool) := [(lClientIn, false), (lServerIn, false), (lEarly, false), (lClientEarly, true), (lHandshake, false), (lClientHs, true), (lServerHs, true), (lMain, false), (lClientApp, true), (lServerApp, true), (lResume, true), (lFinished, false), (lBinder, false)]
set_option maxRecDepth 20000 in
set_option maxHeartbeats 1600000 in
theorem rows_any (w : World) : Calls Try.prog 44 #[] w fun e w' => e = .returned (.slice (some ⟨w.heap.size, 0, none⟩) 13 13) ∧ w' = w.alloc (.cells rowCells 66) := by
  unfold rowCells
  go_enter Try.func44, Try.ntmps44
  go_wp2_with fail
  go_ret
  exact ⟨rfl, rfl⟩
theorem row_at {r : Nat} {lab : ByteArray} {wi : Bool} (h : rowsL[r]? = some (lab, wi)) : r < 13 ∧ rowCells[r * 2]? = some (.string lab) ∧ rowCells[r * 2 + 1]? = some (.bool wi) ∧ lab.size ≤ 2048 := by
  have hr : r < 13 := (List.getElem?_eq_some_iff.1 h).1
  have : r = 0 ∨ r = 1 ∨ r = 2 ∨ r = 3 ∨ r = 4 ∨ r = 5 ∨ r = 6 ∨ r = 7 ∨ r = 8 ∨ r = 9 ∨ r = 10 ∨ r = 11 ∨ r = 12 := by omega
  rcases this with rfl | rfl | rfl | rfl | rfl | rfl | rfl | rfl | rfl | rfl | rfl | rfl | rfl <;>
    (simp only [rowsL, List.getElem?_cons_zero, List.getElem?_cons_succ, Option.some.injEq, Prod.mk.injEq] at h
     obtain ⟨rfl, rfl⟩ := h
     exact ⟨by decide, rfl, rfl, by decide⟩)
set_option maxRecDepth 20000 in
set_option maxHeartbeats 1600000 in
theorem derived_main {rs : List (Nat × Obj)} (h : Gd w0 w tb mb N n rs) {r : Nat} {lab : ByteArray} {wi : Bool} (hr : rowsL[r]? = some (lab, wi)) {m o x : Int} (hm : ∃ c, (wi = true ∧ c = x ∨ wi = false ∧ Has N c (1, ByteArray.empty, [])) ∧ Der N m o lab c) (hn : n ≤ 50000) :
    Calls Try.prog 26 #[.pointer (some ⟨tb, 0, none⟩), .int .i64 m, .int .i64 r, .int .i64 o, .int .i64 x] w fun e w' => ∃ N', e = .returned (.bool true) ∧ Gd w0 w' tb mb N' (n + 2) rs ∧ N <+: N' := by
  obtain ⟨c, hc, hd⟩ := hm
  obtain ⟨r1, r2, r3, r4⟩ := row_at hr
  have HH := Lib.hid (And.intro h (And.intro hc (And.intro hd (And.intro r4 hn))))
  have hri : (r : Int) < 13 := by omega
  clear h hc hd hr r4 hn
  go_enter Try.func26, Try.ntmps26
  go_wp2_with fail
  refine (rows_any w).mono ?_
  rintro e w1 ⟨rfl, rfl⟩
  have c0 : (w.alloc (.cells rowCells 66)).cell? ⟨w.heap.size, r * 2, none⟩ = some (.string lab) := (cell_of_row _ w.heap.size (r * 2) _ 66 (0, 0) (heap_alloc_new w _)).trans r2
  have c1 : (w.alloc (.cells rowCells 66)).cell? ⟨w.heap.size, r * 2 + 1, none⟩ = some (.bool wi) := (cell_of_row _ w.heap.size (r * 2 + 1) _ 66 (0, 0) (heap_alloc_new w _)).trans r3
  clear r2 r3
  obtain ⟨X, hX⟩ : ∃ X, X = (w.alloc (.cells rowCells 66)).alloc (.cells #[.string lab, .bool wi] 66) := ⟨_, rfl⟩
  have gX : Gd w0 X tb mb N n ((w.heap.size + 1, .cells #[.string lab, .bool wi] 66) :: rs) := by
    have h1 := HH.out.1.keep (below_alloc w (.cells rowCells 66))
    rw [hX]
    exact ⟨h1.st.guest _ _ (by rw [World.size_alloc]), h1.good, h1.len⟩
  have c2 := gX.textG (Rd.nil .u8 X) (Nat.zero_le _) (by have := HH.out.2.2.2.2; omega)
  rw [hX] at c2
  clear gX hX
  go_wp2_with fail
  refine c2.mono ?_
  rintro e w2 ⟨N2, ee, rfl, g2, p2, e2⟩
  clear c2
  have hg2 := g2.st.own _ (List.mem_cons_self)
  simp only at hg2
  have d0 : w2.cell? ⟨w.heap.size + 1, 0, none⟩ = some (.string lab) := (cell_of_row _ (w.heap.size + 1) 0 _ 66 (0, 0) hg2).trans rfl
  have d1 : w2.cell? ⟨w.heap.size + 1, 1, none⟩ = some (.bool wi) := (cell_of_row _ (w.heap.size + 1) 1 _ 66 (0, 0) hg2).trans rfl
  have hsz := HH.out.2.2.2.1
  obtain ⟨v, w3, hv, hrv, hb3⟩ := conv_str w2 lab (by unfold maxLen; omega)
  have c4 := (g2.keep hb3).textG hrv (by rw [sbytes_len]; exact hsz) (by have := HH.out.2.2.2.2; omega)
  rw [bstr_sbytes] at c4
  have HG := Lib.hid (And.intro p2 e2)
  clear hg2 g2 p2 e2 hrv hb3 hsz
  rcases Bool.eq_false_or_eq_true wi with rfl | rfl
  all_goals
    go_wp2_with fail
    refine c4.mono ?_
    rintro e w4 ⟨N4, l, rfl, g4, p4, e4⟩
  · have hdm : Has N4 m (6, ByteArray.empty, [o, l, x]) := by
      have hcx : c = x := by
        rcases HH.out.2.1 with ⟨_, h⟩ | ⟨h, _⟩
        · exact h
        · cases h
      obtain ⟨l', k1, k2⟩ := HH.out.2.2.1
      have h1 := (k1.ext (HG.out.1.trans p4)).num e4
      subst h1
      rw [← hcx]
      exact k2.ext (HG.out.1.trans p4)
    have g5 := g4.keep (below_alloc w4 (.cells (cs .i64 [o, l, x]).toArray 26))
    have c6 := is_true g5.st.st hdm (Rd.lit .i64 26 w4 [o, l, x] (by simp)) (by simp) (by simp)
    have HE := Lib.hid (And.intro g5 (HG.out.1.trans p4))
    clear c4 g4 p4 e4 hdm g5
    go_wp2_with fail
    refine c6.mono ?_
    rintro e w6 ⟨rfl, hb6⟩
    clear c6
    go_wp2_with fail
    go_ret
    refine ⟨N4, rfl, ⟨(HE.out.1.keep hb6).st.sub fun u hu => List.mem_cons_of_mem _ hu, HE.out.1.good, HE.out.1.len⟩, HE.out.2⟩
  · have hdm : Has N4 m (6, ByteArray.empty, [o, l, ee]) := by
      have hcx : c = ee := by
        rcases HH.out.2.1 with ⟨h, _⟩ | ⟨_, h⟩
        · cases h
        · exact (h.ext HG.out.1).num HG.out.2
      obtain ⟨l', k1, k2⟩ := HH.out.2.2.1
      have h1 := (k1.ext (HG.out.1.trans p4)).num e4
      subst h1
      rw [← hcx]
      exact k2.ext (HG.out.1.trans p4)
    have g5 := g4.keep (below_alloc w4 (.cells (cs .i64 [o, l, ee]).toArray 26))
    have c6 := is_true g5.st.st hdm (Rd.lit .i64 26 w4 [o, l, ee] (by simp)) (by simp) (by simp)
    have HE := Lib.hid (And.intro g5 (HG.out.1.trans p4))
    clear c4 g4 p4 e4 hdm g5
    go_wp2_with fail
    refine c6.mono ?_
    rintro e w6 ⟨rfl, hb6⟩
    clear c6
    go_wp2_with fail
    go_ret
    refine ⟨N4, rfl, ⟨(HE.out.1.keep hb6).st.sub fun u hu => List.mem_cons_of_mem _ hu, HE.out.1.good, HE.out.1.len⟩, HE.out.2⟩
#print axioms derived_main
end Go.Proofs.Ytipgidcpocgojaa
