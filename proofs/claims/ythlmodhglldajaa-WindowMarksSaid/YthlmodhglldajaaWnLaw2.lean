/- The program's window: no number twice; whatever order. -/
import Derived.Test.YthlmodhglldajaaWnLaw
namespace Go.Proofs.Ythlmodhglldajaa
open Go Go.RowKit

theorem mk_stale {L : List Int} {n : Int} (h : frB L n = false) (x : Int) : frB (mk L x) n = false := by
  unfold mk
  split
  · rw [Bool.eq_false_iff] at h ⊢
    intro hc
    rw [frB_iff] at hc
    rw [gr_app] at hc
    apply h
    rw [frB_iff]
    exact ⟨hc.1, hc.2.1, by omega, fun hm => hc.2.2.2 (List.mem_append_left _ hm)⟩
  · exact h
theorem mk_again (L : List Int) (x : Int) : frB (mk L x) x = false := by
  cases h : frB L x with
  | false => rw [mk_no h]; exact h
  | true =>
    rw [mk_yes h, Bool.eq_false_iff]
    intro hc
    exact ((frB_iff _ _).1 hc).2.2.2 (by simp)
theorem mk_mk (L : List Int) (x : Int) : mk (mk L x) x = mk L x := mk_no (mk_again L x)
/-- Whatever came in order is marked. -/
def mks (L : List Int) : List Int := L.foldl mk []
theorem mks_app (L : List Int) (x : Int) : mks (L ++ [x]) = mk (mks L) x := by unfold mks; rw [List.foldl_append]; rfl
theorem mks_take {L : List Int} {k : Nat} (h : k < L.length) : mks (L.take (k + 1)) = mk (mks (L.take k)) (L.getD k 0) := by
  rw [List.take_succ_eq_append_getElem h, mks_app]
  simp [List.getD, h]

theorem gr_next {L : List Int} (h : Ok L) : (gr L == 4611686018427387903) = true ∨ (gr L == 4611686018427387903) = false ∧ frB L (gr L + 1) = true := by
  have := h.gr
  by_cases e : gr L = 4611686018427387903
  · left; rw [e]; rfl
  · right
    exact ⟨by rw [beq_eq_false_iff_ne]; exact e, frB_above (by omega) (by omega) (by omega)⟩
/-- Behind all numbers: the one above the greatest is fresh. -/
theorem cells_keep {w0 w : World} {b o : Nat} {x : Value} (h : w0.cell? ⟨b, o, none⟩ = some x) (hb : Below w0.heap.size w0 w) : w.cell? ⟨b, o, none⟩ = some x := by
  rw [hb.cell (p := ⟨b, o, none⟩) (cell_lt h)]; exact h

set_option maxHeartbeats 2000000 in
theorem once_some {w0 : World} {b off cap : Nat} {l : List Int} (hcell : ∀ j, j < l.length → w0.cell? ⟨b, off + j, none⟩ = some (.int .i64 (l.getD j 0))) (hl : l.length ≤ 200) (n : Int) :
    Calls Try.prog 9 #[.slice (some ⟨b, off, none⟩) l.length cap, .int .i64 n] w0 fun e w' => e = .returned (.bool true) ∧ Below w0.heap.size w0 w' := by
  have h0 := wn_new w0
  have b0 := below_alloc w0 (.cells #[.int .i64 0, .int .u64 0] 33)
  have HC := Lib.hid hcell
  have hl' : (l.length : Int) ≤ 200 := by omega
  clear hcell
  go_enter Try.func9, Try.ntmps9
  go_wp2_with fail
  go_loopw [6, 7] (fun st i w => ∃ (k : Nat) (m : Nat), k ≤ l.length ∧ i = .int .i64 k ∧ Wn w w0.heap.size (mks (l.take k)) m ∧ Below w0.heap.size w0 w ∧ ∃ s : Bool, st = .bool s ∧ (s = true → frB (mks (l.take k)) n = false)) (fun _ i _ => l.length - (intOf i).toNat)
  case atStart => exact ⟨0, 0, by omega, rfl, h0, b0, false, rfl, fun h => by cases h⟩
  case round =>
    obtain ⟨k, m, hk, rfl, hwn, hbel, s, rfl, hs⟩ := hrel
    have hsz := hbel.size
    have hk' : (k : Int) ≤ (l.length : Int) := by omega
    by_cases hlt : k < l.length
    · have hlt' : (k : Int) < (l.length : Int) := by omega
      have hx := HC.out k hlt
      obtain ⟨x, hxe⟩ : ∃ x, l.getD k 0 = x := ⟨_, rfl⟩
      have hT := Lib.hid (mks_take hlt)
      rw [hxe] at hx hT
      have HT := hT
      clear hxe hT
      obtain ⟨L, hL⟩ : ∃ L, mks (l.take k) = L := ⟨_, rfl⟩
      rw [hL] at hwn hs HT
      clear hL
      have c0 := cells_keep hx hbel
      have hfr := fresh_any hwn x
      have hmk := mark_any hwn x
      have hst : s = true → frB (mk L x) n = false := fun h => mk_stale (hs h) x
      have HST := Lib.hid hst
      clear hs hst
      obtain ⟨f, hf⟩ : ∃ f, frB L x = f := ⟨_, rfl⟩
      rw [hf] at hfr hmk
      clear hf
      go_wp2_with fail
      refine hfr.mono ?_
      rintro e w' ⟨rfl, rfl⟩
      go_wp2_with fail
      refine hmk.mono ?_
      rintro e w1 ⟨rfl, ⟨m1, h1⟩, u1⟩
      have b1 := u1.below hbel (Nat.le_refl _) hsz
      have c1 := cells_keep hx b1
      have hfr1 := fresh_any h1 x
      rw [mk_again] at hfr1
      have hmk1 := mark_any h1 x
      rw [mk_again, mk_mk] at hmk1
      clear u1 hfr hmk h1 c0 hwn
      cases f
      all_goals
        go_wp2_with fail
        refine hfr1.mono ?_
        rintro e w' ⟨rfl, rfl⟩
        go_wp2_with fail
        refine hmk1.mono ?_
        rintro e w2 ⟨rfl, ⟨m2, h2⟩, u2⟩
        have b2 := u2.below b1 (Nat.le_refl _) b1.size
        clear u2 c1 hfr1 hmk1
        have hfn := fresh_any h2 n
        obtain ⟨g, hg⟩ : ∃ g, frB (mk L x) n = g := ⟨_, rfl⟩
        have HG := Lib.hid hg
        rw [hg] at hfn
        clear hg
        go_wp2_with fail
        refine hfn.mono ?_
        rintro e w' ⟨rfl, rfl⟩
        clear hfn
        cases s
        · cases g
          all_goals
            go_wp2_with fail
            go_roundw
            case rel => exact ⟨k + 1, m2, by omega, by go_num, by rw [HT.out]; exact h2, b2, _, rfl, by rw [HT.out]; simp [HG.out]⟩
            case measure => simp [intOf]; omega
        · have hgf : g = false := by rw [← HG.out]; exact HST.out rfl
          subst hgf
          go_wp2_with fail
          go_roundw
          case rel => exact ⟨k + 1, m2, by omega, by go_num, by rw [HT.out]; exact h2, b2, _, rfl, by rw [HT.out]; simp [HG.out]⟩
          case measure => simp [intOf]; omega
    · obtain rfl : k = l.length := by omega
      have hgo := hwn.ok.gr
      rcases gr_next hwn.ok with h1 | ⟨h1, h2⟩
      · have hgr := grt_any hwn
        clear hs hwn h0 hgo
        generalize gr (mks (l.take l.length)) = G at *
        go_wp2_with (first | (go_at_call 23; refine hgr.mono ?_; rintro e w' ⟨rfl, rfl⟩) | (go_at_call 25; refine (wawake_any _).mono ?_; rintro e w2 ⟨rfl, b2⟩))
        go_ret
        exact ⟨rfl, hbel.trans (b2.mono hsz)⟩
      · have hgr := grt_any hwn
        have hfr := fresh_any hwn (gr (mks (l.take l.length)) + 1)
        rw [h2] at hfr
        clear hs hwn h0 h2
        generalize gr (mks (l.take l.length)) = G at *
        go_wp2_with (first | (go_at_call 23; refine hgr.mono ?_; rintro e w' ⟨rfl, rfl⟩) | (go_at_call 19; refine hfr.mono ?_; rintro e w' ⟨rfl, rfl⟩) | (go_at_call 25; refine (wawake_any _).mono ?_; rintro e w2 ⟨rfl, b2⟩))
        go_ret
        exact ⟨rfl, hbel.trans (b2.mono hsz)⟩
theorem once_nil {w0 : World} {ao : Option Addr} {cap : Nat} (n : Int) : Calls Try.prog 9 #[.slice ao 0 cap, .int .i64 n] w0 fun e w' => e = .returned (.bool true) ∧ Below w0.heap.size w0 w' := by
  have h0 := wn_new w0
  have b0 := below_alloc w0 (.cells #[.int .i64 0, .int .u64 0] 33)
  go_enter Try.func9, Try.ntmps9
  go_wp2_with fail
  go_loopw [7] (fun i w => i = .int .i64 0 ∧ Wn w w0.heap.size [] 0 ∧ Below w0.heap.size w0 w) (fun _ _ => 0)
  case atStart => exact ⟨rfl, h0, b0⟩
  case round =>
    obtain ⟨rfl, hwn, hbel⟩ := hrel
    have hsz := hbel.size
    have hgr := grt_any hwn
    have hfr := fresh_any hwn (-1 + 1)
    rw [show gr [] = -1 from rfl] at hgr
    rw [show frB [] (-1 + 1) = true by decide] at hfr
    clear hwn h0
    go_wp2_with (first | (go_at_call 23; refine hgr.mono ?_; rintro e w' ⟨rfl, rfl⟩) | (go_at_call 19; refine hfr.mono ?_; rintro e w' ⟨rfl, rfl⟩) | (go_at_call 25; refine (wawake_any _).mono ?_; rintro e w2 ⟨rfl, b2⟩))
    go_ret
    exact ⟨rfl, hbel.trans (b2.mono hsz)⟩
theorem once_long {w0 : World} {ao : Option Addr} {len cap : Nat} (n : Int) (h : 200 < len) : Calls Try.prog 9 #[.slice ao len cap, .int .i64 n] w0 fun e w' => e = .returned (.bool true) ∧ Below w0.heap.size w0 w' := by
  have h' : (200 : Int) < (len : Int) := by omega
  go_enter Try.func9, Try.ntmps9
  go_wp2_with fail
  go_ret
  exact ⟨rfl, Below.refl _ _⟩
/-- The law, for every slice and number. -/
theorem once_walk {w0 : World} {v : Value} {l : List Int} (hr : Rd .i64 w0 v l) (n : Int) : Calls Try.prog 9 #[v, .int .i64 n] w0 fun e w' => e = .returned (.bool true) ∧ Below w0.heap.size w0 w' := by
  by_cases hl : l.length ≤ 200
  · rcases hr.cases with ⟨rfl, ao, cap, rfl, _⟩ | ⟨b, off, cap, rfl, _, _, _, _, h5⟩
    · exact once_nil n
    · exact once_some h5 hl n
  · obtain ⟨ao, cap, rfl, _⟩ := hr
    exact once_long n (by omega)
end Go.Proofs.Ythlmodhglldajaa
