/- ticket's read: the three numbers that a text consists of. -/
import Derived.Test.YtepkhhpdpmhfaaaDoorZKSl
import Derived.Test.YtepkhhpdpmhfaaaDoorZGive
import Derived.Test.YtepkhhpdpmhfaaaDoorZKTk
namespace Go.Proofs.YtepkhhpdpmhfaaaDoor
open Go Go.RowKit

theorem res_tr (tmps : Array Value) (w : World) (M : Nat) (c0 c1 c2 x : Value) (h2 : tmps[2]?.getD undef = .pointer (some ⟨M, 0, none⟩)) (h3 : tmps[3]?.getD undef = x)
    (hL : w.heap[M]? = some (.cells #[c0, c1, c2] 71 (0, 0))) :
    (results Tryd.f46 tmps).run Tryd.prog w = .ok (.tuple #[.agg #[c0, c1, c2], x]) w := by
  have hcc := fun i => cell_of_row w M i _ 71 (0, 0) hL
  have a0 := hcc 0
  have a1 := hcc 1
  have a2 := hcc 2
  clear hcc
  simp [results, Tryd.results46, h2, h3, asAddr, a0, a1, a2, go_sem]
/-- What is left behind k numbers, all of which are read; the numbers. -/
def rest3 (zs : List Int) : Nat → List Int
  | 0 => zs
  | k + 1 => (rest3 zs k).drop (rd (rest3 zs k)).2.1.toNat
def num3 (zs : List Int) (k : Nat) : Int := (rd (rest3 zs k)).1
def ok3 (zs : List Int) (k : Nat) : Prop := (rd (rest3 zs k)).2.2 = 0
theorem rest3_len (zs : List Int) : ∀ k, (rest3 zs k).length ≤ zs.length
  | 0 => Nat.le_refl _
  | k + 1 => by
    have := rest3_len zs k
    simp only [rest3, List.length_drop]
    omega
theorem tickR_yes {zs : List Int} (h : ∀ q, q < 3 → ok3 zs q) : tickR zs = if rest3 zs 3 = [] then some (num3 zs 0, num3 zs 1, num3 zs 2) else none := by
  have h0 := h 0 (by omega)
  have h1 := h 1 (by omega)
  have h2 := h 2 (by omega)
  unfold ok3 rest3 at h0 h1 h2
  simp only [rest3] at h0 h1 h2
  unfold tickR
  simp only [num3, rest3]
  rw [if_neg (show ¬ (rd zs).2.2 ≠ 0 by simpa using h0), if_neg (show ¬ (rd (zs.drop (rd zs).2.1.toNat)).2.2 ≠ 0 by simpa using h1), if_neg (show ¬ (rd ((zs.drop (rd zs).2.1.toNat).drop (rd (zs.drop (rd zs).2.1.toNat)).2.1.toNat)).2.2 ≠ 0 by simpa using h2)]
  rfl
theorem tickR_no {zs : List Int} {k : Nat} (hk : k < 3) (h : ¬ ok3 zs k) (hb : ∀ q, q < k → ok3 zs q) : tickR zs = none := by
  unfold tickR
  simp only
  by_cases h0 : (rd zs).2.2 ≠ 0
  · rw [if_pos h0]
  · rw [if_neg h0]
    by_cases h1 : (rd (zs.drop (rd zs).2.1.toNat)).2.2 ≠ 0
    · rw [if_pos h1]
    · rw [if_neg h1, if_pos]
      rcases (by omega : k = 0 ∨ k = 1 ∨ k = 2) with rfl | rfl | rfl
      · exact absurd (by simpa [ok3, rest3] using h0) h
      · exact absurd (by simpa [ok3, rest3] using h1) h
      · simpa [ok3, rest3] using h
/-- What read tells. -/
def KrP (w w' : World) (e : Ending) (zs : List Int) : Prop :=
  ∃ a b c r, e = .returned (.tuple #[.agg #[.int .i64 a, .int .i64 b, .int .i64 c], .bool r]) ∧ tickR zs = (if r then some (a, b, c) else none) ∧ Below w.heap.size w w'
set_option maxRecDepth 20000 in
set_option maxHeartbeats 1000000 in
theorem kread_any {w : World} {ao : Option Addr} {cap : Nat} {zs : List Int} (h : Rd w (.slice ao zs.length cap) zs) (hp : Plain (.slice ao zs.length cap)) (hl : zs.length ≤ 4000) :
    Calls Tryd.prog 46 #[.slice ao zs.length cap] w fun e w' => KrP w w' e zs := by
  have hb0 : Below w.heap.size w ((w.alloc (.cells #[.int .i64 0, .int .i64 0, .int .i64 0] 71)).alloc (.cells #[.int .i64 0, .int .i64 0, .int .i64 0] 71)) := ((Below.refl _ _).alloc (Nat.le_refl _) _).alloc (by simp) _
  have hR : ((w.alloc (.cells #[.int .i64 0, .int .i64 0, .int .i64 0] 71)).alloc (.cells #[.int .i64 0, .int .i64 0, .int .i64 0] 71)).heap[w.heap.size]? = some (.cells #[.int .i64 0, .int .i64 0, .int .i64 0] 71 (0, 0)) := ((below_alloc _ _).block _ (by simp)).trans (heap_alloc_new w _)
  have hA := heap_alloc_new (w.alloc (.cells #[.int .i64 0, .int .i64 0, .int .i64 0] 71)) (.cells #[.int .i64 0, .int .i64 0, .int .i64 0] 71)
  rw [World.size_alloc] at hA
  have H := Lib.hid (And.intro h (And.intro hp (And.intro hl (And.intro hb0 (And.intro hR hA)))))
  clear h hp hl hb0 hR hA
  go_enter Tryd.func46, Tryd.ntmps46
  go_wp2_with fail
  go_loopw [0, 9] (fun b i wr => ∃ (k : Nat) (ar : Option Addr) (cr : Nat) (x y z : Int), k ≤ 3 ∧ i = .int .i64 k ∧ b = .slice ar (rest3 zs k).length cr ∧ Hid (Rd w (.slice ar (rest3 zs k).length cr) (rest3 zs k) ∧ Plain (.slice ar (rest3 zs k).length cr)) ∧ Hid (∀ q, q < k → ok3 zs q) ∧ Hid (Below w.heap.size w wr ∧ wr.heap[w.heap.size]? = some (.cells #[.int .i64 0, .int .i64 0, .int .i64 0] 71 (0, 0))) ∧ Hid (wr.heap[w.heap.size + 1]? = some (.cells #[.int .i64 x, .int .i64 y, .int .i64 z] 71 (0, 0))) ∧ Hid ((0 < k → x = num3 zs 0) ∧ (1 < k → y = num3 zs 1) ∧ (2 < k → z = num3 zs 2))) (fun _ i _ => 3 - (intOf i).toNat)
  case atStart => exact ⟨0, ao, cap, 0, 0, 0, by omega, rfl, rfl, Lib.hid ⟨H.out.1, H.out.2.1⟩, Lib.hid (fun q h => absurd h (by omega)), Lib.hid ⟨H.out.2.2.2.1, H.out.2.2.2.2.1⟩, Lib.hid H.out.2.2.2.2.2, Lib.hid ⟨fun h => absurd h (by omega), fun h => absurd h (by omega), fun h => absurd h (by omega)⟩⟩
  case round =>
    obtain ⟨k, ar, cr, x, y, z, hk, rfl, rfl, hrp, hok, hbr, har, hxyz⟩ := hrel
    have hlen : (rest3 zs k).length ≤ 4000 := by have := rest3_len zs k; have := H.out.2.2.1; omega
    obtain ⟨m0, m1, m2, mf⟩ := cells3 har.out
    obtain ⟨n0, n1, n2, nf⟩ := cells3 hbr.out.2
    by_cases hlt : k < 3
    · have c1 := read_any (hrp.out.1.below hbr.out.1)
      by_cases he : (rd (rest3 zs k)).2.2 = 0
      · obtain ⟨s, hs, hsl⟩ := rd_bound hrp.out.1.byt
        obtain ⟨a', hsli, hr', hp'⟩ := part_l hrp.out.1 hrp.out.2 s hsl
        have e1 : rest3 zs (k + 1) = (rest3 zs k).drop s := by
          show (rest3 zs k).drop (rd (rest3 zs k)).2.1.toNat = _
          rw [hs]; rfl
        have e2 : (rest3 zs (k + 1)).length = (rest3 zs k).length - s := by rw [e1]; simp
        have HRP : Hid (Rd w (.slice a' (rest3 zs (k + 1)).length (cr - s)) (rest3 zs (k + 1)) ∧ Plain (.slice a' (rest3 zs (k + 1)).length (cr - s))) := Lib.hid (by rw [e2, e1]; exact ⟨hr', hp'⟩)
        have HOK : Hid (∀ q, q < k + 1 → ok3 zs q) := Lib.hid (fun q hq => by
          by_cases e : q = k
          · subst e; exact he
          · exact hok.out q (by omega))
        have HN := Lib.hid (show (rd (rest3 zs k)).1 = num3 zs k from rfl)
        rw [← e2] at hsli
        rw [he, hs] at c1
        obtain ⟨L, hL⟩ : ∃ L, (rest3 zs (k + 1)).length = L := ⟨_, rfl⟩
        rw [hL] at hsli
        have HL := Lib.hid hL
        generalize (rd (rest3 zs k)).1 = N at *
        clear he hs hr' hp' e1 e2 hrp hok hL
        rcases (by omega : k = 0 ∨ k = 1 ∨ k = 2) with rfl | rfl | rfl
        · go_wp2_with fail
          refine c1.mono ?_
          rintro e w1 ⟨rfl, rfl⟩
          clear c1
          go_wp2_with fail
          have e3 := heap_setCell_same wr (w.heap.size + 1) 0 _ 71 (.int .i64 N) har.out
          simp only [List.setIfInBounds_toArray, List.set_cons_zero] at e3
          go_round
          case rel => exact ⟨1, a', cr - s, N, y, z, by omega, rfl, congrArg (fun q => Value.slice a' q (cr - s)) HL.out.symm, HRP, HOK, Lib.hid ⟨hbr.out.1.setCell (p := ⟨w.heap.size + 1, 0, none⟩) (by simp) _, ((But.set wr (w.heap.size + 1) 0 _).block _ (blkLt hbr.out.2) (by omega)).trans hbr.out.2⟩, Lib.hid e3, Lib.hid ⟨fun _ => HN.out, fun h => absurd h (by omega), fun h => absurd h (by omega)⟩⟩
          case measure => simp [intOf]
        · go_wp2_with fail
          refine c1.mono ?_
          rintro e w1 ⟨rfl, rfl⟩
          clear c1
          go_wp2_with fail
          have e3 := heap_setCell_same wr (w.heap.size + 1) 1 _ 71 (.int .i64 N) har.out
          simp only [List.setIfInBounds_toArray, List.set_cons_zero, List.set_cons_succ] at e3
          go_round
          case rel => exact ⟨2, a', cr - s, x, N, z, by omega, rfl, congrArg (fun q => Value.slice a' q (cr - s)) HL.out.symm, HRP, HOK, Lib.hid ⟨hbr.out.1.setCell (p := ⟨w.heap.size + 1, 1, none⟩) (by simp) _, ((But.set wr (w.heap.size + 1) 1 _).block _ (blkLt hbr.out.2) (by omega)).trans hbr.out.2⟩, Lib.hid e3, Lib.hid ⟨fun h => hxyz.out.1 (by omega), fun _ => HN.out, fun h => absurd h (by omega)⟩⟩
          case measure => simp [intOf]
        · go_wp2_with fail
          refine c1.mono ?_
          rintro e w1 ⟨rfl, rfl⟩
          clear c1
          go_wp2_with fail
          have e3 := heap_setCell_same wr (w.heap.size + 1) 2 _ 71 (.int .i64 N) har.out
          simp only [List.setIfInBounds_toArray, List.set_cons_zero, List.set_cons_succ] at e3
          go_round
          case rel => exact ⟨3, a', cr - s, x, y, N, by omega, rfl, congrArg (fun q => Value.slice a' q (cr - s)) HL.out.symm, HRP, HOK, Lib.hid ⟨hbr.out.1.setCell (p := ⟨w.heap.size + 1, 2, none⟩) (by simp) _, ((But.set wr (w.heap.size + 1) 2 _).block _ (blkLt hbr.out.2) (by omega)).trans hbr.out.2⟩, Lib.hid e3, Lib.hid ⟨fun h => hxyz.out.1 (by omega), fun h => hxyz.out.2.1 (by omega), fun _ => HN.out⟩⟩
          case measure => simp [intOf]
      · have HT := Lib.hid (tickR_no hlt he hok.out)
        have q0 : ((rd (rest3 zs k)).2.2 != 0) = true := bne_iff_ne.2 he
        generalize rd (rest3 zs k) = T3 at *
        obtain ⟨t0, t1, t2⟩ := T3
        simp only at q0 c1
        have hk3 : (k : Int) < 3 := by omega
        clear he hok hlt
        go_wp2_with fail
        refine c1.mono ?_
        rintro e w1 ⟨rfl, rfl⟩
        clear c1
        go_wp2_with fail
        refine bodyPost_ret (res_tr _ _ w.heap.size _ _ _ _ rfl rfl (chain3_row hbr.out.2 _ _ _)) rfl ?_
        exact ⟨0, 0, 0, false, rfl, HT.out, (chain3_but _ _ _ _ _).below hbr.out.1 (Nat.le_refl _)⟩
    · obtain rfl : k = 3 := by omega
      have HT := Lib.hid (tickR_yes hok.out)
      have HX := Lib.hid (show x = num3 zs 0 ∧ y = num3 zs 1 ∧ z = num3 zs 2 from ⟨hxyz.out.1 (by omega), hxyz.out.2.1 (by omega), hxyz.out.2.2 (by omega)⟩)
      by_cases hn : rest3 zs 3 = []
      · have HT2 : Hid (tickR zs = some (x, y, z)) := Lib.hid (by rw [HT.out, if_pos hn, HX.out.1, HX.out.2.1, HX.out.2.2])
        have q0 : (((rest3 zs 3).length : Int) == 0) = true := by rw [hn]; rfl
        clear hn hok HT
        go_wp2_with fail
        refine bodyPost_ret (res_tr _ _ w.heap.size _ _ _ _ rfl rfl (chain3_row hbr.out.2 _ _ _)) rfl ?_
        exact ⟨x, y, z, true, rfl, HT2.out, (chain3_but _ _ _ _ _).below hbr.out.1 (Nat.le_refl _)⟩
      · have HT2 : Hid (tickR zs = none) := Lib.hid (by rw [HT.out, if_neg hn])
        have q0 : (((rest3 zs 3).length : Int) == 0) = false := by
          rw [beq_eq_false_iff_ne]
          intro e
          exact hn (List.eq_nil_of_length_eq_zero (by omega))
        clear hn hok HT
        go_wp2_with fail
        refine bodyPost_ret (res_tr _ _ w.heap.size _ _ _ _ rfl rfl (chain3_row hbr.out.2 _ _ _)) rfl ?_
        exact ⟨x, y, z, false, rfl, HT2.out, (chain3_but _ _ _ _ _).below hbr.out.1 (Nat.le_refl _)⟩
#print axioms kread_any
end Go.Proofs.YtepkhhpdpmhfaaaDoor
