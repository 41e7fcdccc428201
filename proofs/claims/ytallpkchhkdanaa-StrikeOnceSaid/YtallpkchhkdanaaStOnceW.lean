/- StrikeOnce: the walk. -/
import Derived.Test.YtallpkchhkdanaaStOnce
namespace Go.Proofs.Ytallpkchhkdanaa
open Go Go.RowKit

theorem once_big {w : World} {ao : Option Addr} {n cap : Nat} {a b : Int} (h : 100 < n) : Calls Try.prog 4 #[.int .u8 a, .int .u8 b, .slice ao n cap] w fun e w' => e = .returned (.bool true) ∧ Below w.heap.size w w' := by
  have t1 : decide ((100 : Int) < (n : Int)) = true := decide_eq_true (by omega)
  clear h
  go_enter Try.func4, Try.ntmps4
  go_wp2_with fail
  go_ret
  exact ⟨rfl, Below.refl _ _⟩
/-- What a round keeps. -/
structure Rnd (w wr : World) (a b : Int) (L : List Sp) (T : Nat → Bool) (now : Int) : Prop where
  st : St wr (w.heap.size + 1) w.heap.size a b L
  flag : Flag wr (w.heap.size + 1 + 1) T
  tried : Tried a b L T now
  bel : Below w.heap.size w wr
  now0 : 0 ≤ now
theorem Rnd.step {w wr w1 : World} {a b : Int} {L : List Sp} {T : Nat → Bool} {now now' : Int} (h : Rnd w wr a b L T now) (hn : now ≤ now') {k : Nat} (hk : k < 16) (hst : St w1 (w.heap.size + 1) w.heap.size a b (tryL a b L k (3 * k) now')) (hb : Bt (w.heap.size + 1) w.heap.size wr w1) (c : Bool) (hc : (T k || (tryE a b L k (3 * k) now' == 0)) = c) :
    Flag w1 (w.heap.size + 1 + 1) T ∧ Rnd w (w1.setCell ⟨w.heap.size + 1 + 1, k, none⟩ (.bool c)) a b (tryL a b L k (3 * k) now') (fun j => if j = k then c else T j) now' := by
  have hf := h.flag.keep (hb.block _ h.flag.lt (by omega) (by omega))
  have hs := (h.tried.step h.now0 hn hk).2
  rw [hc] at hs
  refine ⟨hf, hst.keep (Below.heap_setCell _ _ _ _ (by dsimp only; omega)) (Below.heap_setCell _ _ _ _ (by dsimp only; omega)), hf.set hk c, hs, ?_, by have := h.now0; omega⟩
  have := hb.below h.bel (by omega) (Nat.le_refl _) h.bel.size
  exact this.setCell (by dsimp only; omega) _
set_option maxRecDepth 20000 in
set_option maxHeartbeats 4000000 in
theorem once_some {w : World} {bb off cap : Nat} {l : List Int} (hcell : ∀ j, j < l.length → w.cell? ⟨bb, off + j, none⟩ = some (.int .u16 (l.getD j 0))) (hbd : ∀ j, 0 ≤ l.getD j 0 ∧ l.getD j 0 ≤ 65535) (hl : l.length ≤ 100) (a b : Int) (h0 : 0 ≤ a) (h1 : a ≤ 255) (h2 : 0 ≤ b) (h3 : b ≤ 255) :
    Calls Try.prog 4 #[.int .u8 a, .int .u8 b, .slice (some ⟨bb, off, none⟩) l.length cap] w fun e w' => e = .returned (.bool true) ∧ Below w.heap.size w w' := by
  have hnew := new_eq w a b
  rw [show winN a = a by unfold winN; rw [if_neg (by omega)], show roomN b = b by unfold roomN; rw [if_neg (by omega), if_neg (by omega)]] at hnew
  have hS0 := new_st w (a := a) (b := b) h0 (by omega)
  have hR0 : Rnd w ((newW w a b).alloc (.cells (Array.replicate 16 (.bool false)) 40)) a b [] (fun _ => false) 0 := by
    have hf := flag_new (newW w a b)
    rw [show (newW w a b).heap.size = w.heap.size + 1 + 1 by simp] at hf
    exact ⟨hS0.below (below_alloc _ _), hf, ⟨(fun p h => by cases h), (fun k _ h => by cases h), by simpa using h2⟩, (new_below w a b).trans ((below_alloc _ _).mono (new_below w a b).size), Int.le_refl _⟩
  have HC := Lib.hid hcell
  have HBD := Lib.hid hbd
  have t1 : decide ((100 : Int) < (l.length : Int)) = false := decide_eq_false (by omega)
  have hl' : (l.length : Int) ≤ 100 := by omega
  clear hcell hbd hS0
  go_enter Try.func4, Try.ntmps4
  go_wp2_with (go_at_call 9; refine hnew.mono ?_; rintro e w1 ⟨rfl, rfl⟩)
  go_loopw [9, 10] (fun nw i wr => ∃ (k : Nat) (now : Int) (L : List Sp) (T : Nat → Bool), i = .int .i64 k ∧ nw = .int .i64 now ∧ k ≤ l.length ∧ Rnd w wr a b L T now ∧ now ≤ 7 * k ∧ L.length ≤ k) (fun _ i _ => l.length - (intOf i).toNat)
  case atStart => exact ⟨0, 0, [], _, rfl, rfl, by omega, hR0, by omega, by simp⟩
  case round =>
    clear hR0 hnew
    obtain ⟨k, now, L, T, rfl, rfl, hk, hR, hn7, hLl⟩ := hrel
    have hk' : (k : Int) ≤ (l.length : Int) := by omega
    by_cases hlt : k < l.length
    · have hlt' : (k : Int) < (l.length : Int) := by omega
      have hx := HC.out k hlt
      rw [← hR.bel.cell (p := ⟨bb, off + k, none⟩) (cell_lt hx)] at hx
      obtain ⟨hx0, hx1⟩ := HBD.out k
      generalize l.getD k 0 = x at hx hx0 hx1
      obtain ⟨d, hd⟩ : ∃ d, x / 16 % 8 = d := ⟨_, rfl⟩
      have hd0 : 0 ≤ d ∧ d ≤ 7 := by omega
      obtain ⟨K, hK⟩ : ∃ K : Nat, x % 16 = (K : Int) := ⟨(x % 16).toNat, by omega⟩
      have hK16 : K < 16 := by omega
      have hK16' : (K : Int) < 16 := by omega
      have e1 : IntKind.i64.wrap (now + d) = now + d := IntWalk.i64_in _ (by have := hR.now0; omega)
      have e2 : IntKind.i64.wrap (3 * (K : Int)) = 3 * K := IntWalk.i64_in _ (by omega)
      have e3 : IntKind.i64.wrap (now + d - 3 * (K : Int)) = now + d - 3 * K := IntWalk.i64_in _ (by have := hR.now0; omega)
      have htry := try_any hR.st (by omega) (n := (K : Int)) (made := 3 * K) (now := now + d) ⟨by omega, by omega⟩ ⟨by omega, by omega⟩ ⟨by have := hR.now0; omega, by have := hR.now0; omega⟩
      have hst := (hR.tried.step hR.now0 (now' := now + d) (by omega) hK16).1
      have hlen := try_len (win := a) (room := b) L (K : Int) (3 * K) (now + d)
      have HR := Lib.hid (fun w1 h1 h2 c hc => hR.step (w1 := w1) (now' := now + d) (by omega) hK16 h1 h2 c hc)
      have HN := Lib.hid (show now + d ≤ 7 * ((k + 1 : Nat) : Int) by omega)
      have HL := Lib.hid (show (tryL a b L K (3 * K) (now + d)).length ≤ k + 1 by omega)
      have hfl : ∀ w1, Bt (w.heap.size + 1) w.heap.size wr w1 → w1.cell? ⟨w.heap.size + 1 + 1, K, none⟩ = some (.bool (T K)) ∧ w1.frozen? ⟨w.heap.size + 1 + 1, K, none⟩ = false := fun w1 hb => (hR.flag.keep (hb.block _ hR.flag.lt (by omega) (by omega))).cell hK16
      have HF := Lib.hid hfl
      clear hR hlen hn7 hLl hfl
      generalize tryL a b L K (3 * K) (now + d) = M at *
      generalize tryE a b L K (3 * K) (now + d) = E at *
      by_cases hE : E = 0
      · subst hE
        obtain ⟨f1, f2, f3⟩ := hst rfl
        have f2' : decide (now + d < 3 * (K : Int)) = false := decide_eq_false f2
        have f3' : decide (a < now + d - 3 * (K : Int)) = false := decide_eq_false f3
        rw [f1] at HF
        have HT := Lib.hid f1
        clear hst f1 f2 f3
        go_wp2_with (go_at_call 11; refine htry.mono ?_; rintro e w1 ⟨rfl, hS1, hb1⟩; obtain ⟨g1, g2⟩ := HF.out w1 hb1)
        go_roundw
        case rel => exact ⟨k + 1, _, _, _, by go_num, rfl, by omega, (HR.out w1 hS1 hb1 true (by simp)).2, HN.out, HL.out⟩
        case measure => simp [intOf]; omega
      · have hE' : (E == 0) = false := beq_eq_false_iff_ne.2 hE
        clear hst hE
        cases hT : T K with
        | true =>
          rw [hT] at HF
          have HT := Lib.hid hT
          clear hT
          go_wp2_with (go_at_call 11; refine htry.mono ?_; rintro e w1 ⟨rfl, hS1, hb1⟩; obtain ⟨g1, g2⟩ := HF.out w1 hb1)
          go_roundw
          case rel => exact ⟨k + 1, _, _, _, by go_num, rfl, by omega, (HR.out w1 hS1 hb1 true (by rw [HT.out]; rfl)).2, HN.out, HL.out⟩
          case measure => simp [intOf]; omega
        | false =>
          rw [hT] at HF
          have HT := Lib.hid hT
          clear hT
          go_wp2_with (go_at_call 11; refine htry.mono ?_; rintro e w1 ⟨rfl, hS1, hb1⟩; obtain ⟨g1, g2⟩ := HF.out w1 hb1)
          go_roundw
          case rel => exact ⟨k + 1, _, _, _, by go_num, rfl, by omega, (HR.out w1 hS1 hb1 false (by rw [HT.out, hE']; rfl)).2, HN.out, HL.out⟩
          case measure => simp [intOf]; omega
    · obtain rfl : k = l.length := by omega
      have hm := many_any hR.st
      have hlen : decide ((L.length : Int) ≤ b) = true := decide_eq_true hR.tried.len
      have hbel := hR.bel
      clear hR
      go_wp2_with (first
        | (go_at_call 13; refine hm.mono ?_; rintro e w' ⟨rfl, rfl⟩)
        | (go_at_call 14; refine (sawake_any _).mono ?_; rintro e w4 ⟨rfl, b4⟩))
      go_ret
      exact ⟨rfl, hbel.trans (b4.mono hbel.size)⟩
theorem once_nil {w : World} {ao : Option Addr} {cap : Nat} (a b : Int) (h0 : 0 ≤ a) (h1 : a ≤ 255) (h2 : 0 ≤ b) (h3 : b ≤ 255) :
    Calls Try.prog 4 #[.int .u8 a, .int .u8 b, .slice ao 0 cap] w fun e w' => e = .returned (.bool true) ∧ Below w.heap.size w w' := by
  have hnew := new_eq w a b
  rw [show winN a = a by unfold winN; rw [if_neg (by omega)], show roomN b = b by unfold roomN; rw [if_neg (by omega), if_neg (by omega)]] at hnew
  have hS0 := new_st w (a := a) (b := b) h0 (by omega)
  have hm := many_any (hS0.below (below_alloc _ (.cells (Array.replicate 16 (.bool false)) 40)))
  have hB := (new_below w a b).trans ((below_alloc _ (.cells (Array.replicate 16 (.bool false)) 40)).mono (new_below w a b).size)
  have HB := Lib.hid hB
  clear hS0 hB
  go_enter Try.func4, Try.ntmps4
  go_wp2_with (go_at_call 9; refine hnew.mono ?_; rintro e w1 ⟨rfl, rfl⟩)
  go_loop [10] (fun i => i = .int .i64 0) (fun _ => 0)
  case atStart => rfl
  case round =>
    subst hrel
    go_wp2_with (first
      | (go_at_call 13; refine hm.mono ?_; rintro e w' ⟨rfl, rfl⟩)
      | (go_at_call 14; refine (sawake_any _).mono ?_; rintro e w4 ⟨rfl, b4⟩))
    go_ret
    exact ⟨rfl, HB.out.trans (b4.mono HB.out.size)⟩
theorem getD_bd {l : List Int} (h : ∀ z ∈ l, 0 ≤ z ∧ z ≤ 65535) (j : Nat) : 0 ≤ l.getD j 0 ∧ l.getD j 0 ≤ 65535 := by
  by_cases hj : j < l.length
  · have : l.getD j 0 = l[j] := by simp [hj]
    rw [this]; exact h _ (List.getElem_mem hj)
  · have : l.getD j 0 = 0 := by simp [Nat.le_of_not_lt hj]
    rw [this]; omega
theorem once_walk {w : World} {v : Value} {l : List Int} (h : Rd .u16 w v l) (hb : ∀ z ∈ l, 0 ≤ z ∧ z ≤ 65535) (a b : Int) (h0 : 0 ≤ a) (h1 : a ≤ 255) (h2 : 0 ≤ b) (h3 : b ≤ 255) :
    Calls Try.prog 4 #[.int .u8 a, .int .u8 b, v] w fun e w' => e = .returned (.bool true) ∧ Below w.heap.size w w' := by
  by_cases hl : 100 < l.length
  · obtain ⟨ao, cap, rfl, _⟩ := h
    exact once_big hl
  · rcases h.cases with ⟨rfl, ao, cap, rfl, _⟩ | ⟨b', off, cap, rfl, _, _, _, _, h5⟩
    · exact once_nil a b h0 h1 h2 h3
    · exact once_some h5 (getD_bd hb) (by omega) a b h0 h1 h2 h3
end Go.Proofs.Ytallpkchhkdanaa
