/- The program's set in memory: Floor, place, Has. -/
import Derived.Test.YtnfednhleedljaaSpKit
namespace Go.Proofs.Ytnfednhleedljaa
open Go Go.RowKit

/-- Nothing but the block B has changed of what was there. -/
structure But (B : Nat) (w w' : World) : Prop where
  os : w'.os = w.os
  tape : w'.tape = w.tape
  output : w'.output = w.output
  size : w.heap.size ≤ w'.heap.size
  block : ∀ k, k < w.heap.size → k ≠ B → w'.heap[k]? = w.heap[k]?
theorem But.refl (B : Nat) (w : World) : But B w w := ⟨rfl, rfl, rfl, Nat.le_refl _, fun _ _ _ => rfl⟩
theorem But.trans {B : Nat} {a b c : World} (h : But B a b) (k : But B b c) : But B a c :=
  ⟨k.os.trans h.os, k.tape.trans h.tape, k.output.trans h.output, Nat.le_trans h.size k.size, fun i hi hn => (k.block i (Nat.lt_of_lt_of_le hi h.size) hn).trans (h.block i hi hn)⟩
theorem But.of_below {B : Nat} {w w' : World} (h : Below w.heap.size w w') : But B w w' := ⟨h.os, h.tape, h.output, h.size, fun k hk _ => h.block k hk⟩
theorem But.below {B : Nat} {base : Nat} {w0 w w' : World} (h : But B w w') (hb : Below base w0 w) (hB : base ≤ B) (hs : base ≤ w.heap.size) : Below base w0 w' :=
  ⟨h.os.trans hb.os, h.tape.trans hb.tape, h.output.trans hb.output, Nat.le_trans hb.size h.size, fun k hk => (h.block k (Nat.lt_of_lt_of_le hk hs) (by omega)).trans (hb.block k hk)⟩
theorem But.set (w : World) (B i : Nat) (v : Value) : But B w (w.setCell ⟨B, i, none⟩ v) :=
  ⟨rfl, rfl, rfl, by simp [World.setCell], fun k _ hn => Below.heap_setCell _ _ _ _ hn⟩

/-- The set in block B: its spans and its floor; its row lies in another block. -/
structure Sn (w : World) (B : Nat) (s : Set0) : Prop where
  ok : OkS s
  box : ∃ v, w.heap[B]? = some (.cells #[v, .int .i64 s.2] 26 (0, 0)) ∧ Rs w v s.1 ∧ (s.1 ≠ [] → v.ownBlock ≠ some B) ∧ (s.1 = [] → v = .slice none 0 0)
theorem Sn.lt {w : World} {B : Nat} {s : Set0} (h : Sn w B s) : B < w.heap.size := by obtain ⟨v, h1, _⟩ := h.box; exact blk_lt h1
theorem Rs.but {B : Nat} {w w' : World} {v : Value} {S : List Sp} (h : Rs w v S) (hb : But B w w') (hn : S ≠ [] → v.ownBlock ≠ some B) : Rs w' v S := by
  obtain ⟨ao, cap, rfl, h1, h2, h3, hc⟩ := h
  refine ⟨ao, cap, rfl, h1, h2, h3, fun a ha j hj => ?_⟩
  subst ha
  have h := hc a rfl j hj
  have hne : a.block ≠ B := fun e => hn (by intro e; rw [e] at hj; simp at hj) (by simp [Value.ownBlock, e])
  have hbl : ∀ k, (a.add k).block = a.block := fun k => by unfold Addr.add; split <;> rfl
  have hlt : a.block < w.heap.size := by have := cell_lt h.1; rwa [hbl] at this
  have key : ∀ k, w'.cell? (a.add k) = w.cell? (a.add k) := fun k => by
    unfold World.cell?
    rw [hbl k, hb.block a.block hlt hne]
  exact ⟨by rw [key]; exact h.1, by rw [key]; exact h.2⟩
theorem Sn.below {w w' : World} {B : Nat} {s : Set0} (h : Sn w B s) (hb : Below w.heap.size w w') : Sn w' B s := by
  obtain ⟨v, h1, h2, h3⟩ := h.box
  exact ⟨h.ok, v, by rw [hb.block B (blk_lt h1)]; exact h1, h2.below hb, h3⟩
theorem Sn.cells {w : World} {B : Nat} {s : Set0} (h : Sn w B s) : (∃ v, w.cell? ⟨B, 0, none⟩ = some v ∧ Rs w v s.1) ∧ w.cell? ⟨B, 1, none⟩ = some (.int .i64 s.2) ∧ ∀ j, w.frozen? ⟨B, j, none⟩ = false := by
  obtain ⟨v, h1, h2, _, _⟩ := h.box
  exact ⟨⟨v, (cell_of_row _ B 0 _ _ (0, 0) h1).trans rfl, h2⟩, (cell_of_row _ B 1 _ _ (0, 0) h1).trans rfl, fun j => by simp [World.frozen?, h1]⟩

theorem ret_bl {a b : Bool} (h : a = b) : Ending.returned (.bool a) = .returned (.bool b) := by rw [h]
theorem ret_in {k : IntKind} {a b : Int} (h : a = b) : Ending.returned (.int k a) = .returned (.int k b) := by rw [h]
theorem floor_any {w : World} {B : Nat} {s : Set0} (h : Sn w B s) : Calls Try.prog 12 #[.pointer (some ⟨B, 0, none⟩)] w fun e w' => e = .returned (.int .i64 s.2) ∧ w = w' := by
  obtain ⟨_, c1, _⟩ := h.cells
  clear h
  go_enter Try.func12, Try.ntmps12
  go_wp2_with fail
  go_ret
  exact ⟨rfl, rfl⟩
theorem floor_nil (w : World) : Calls Try.prog 12 #[.pointer none] w fun e w' => e = .returned (.int .i64 0) ∧ w = w' := by
  go_enter Try.func12, Try.ntmps12
  go_wp2_with fail
  go_ret
  exact ⟨rfl, rfl⟩

/-- The closure: is the span at i not all above n? -/
theorem ask_any {w : World} {B b off cap P Q i : Nat} {n : Int} {S : List Sp} (hp : w.cell? ⟨P, 0, none⟩ = some (.pointer (some ⟨B, 0, none⟩))) (hq : w.cell? ⟨Q, 0, none⟩ = some (.int .i64 n))
    (hc : w.cell? ⟨B, 0, none⟩ = some (.slice (some ⟨b, off, none⟩) S.length cap)) (hx : w.cell? ⟨b, off + i * 2, none⟩ = some (.int .i64 (S.getD i (0, 0)).1)) (hi : i < S.length) :
    Calls Try.prog 27 #[.int .i64 i, .pointer (some ⟨P, 0, none⟩), .pointer (some ⟨Q, 0, none⟩)] w fun e w' => e = .returned (.bool (decide ((S.getD i (0, 0)).1 ≤ n))) ∧ ∃ k, w' = w.drewN k := by
  generalize (S.getD i (0, 0)).1 = x at hx
  have hi' : (i : Int) < (S.length : Int) := by omega
  go_enter Try.func27, Try.ntmps27
  go_wp2_with fail
  go_quiet (fail)
  go_wp2_with fail
  go_ret
  exact ⟨rfl, _, rfl⟩
theorem takeWhile_at {S : List Sp} {n : Int} {i : Nat} (h : i < (abv S n).length) : n < (S.getD i (0, 0)).1 := by
  have hm : (abv S n)[i] ∈ abv S n := List.getElem_mem h
  have e : S.getD i (0, 0) = (abv S n)[i] := by
    have h2 : S = abv S n ++ blw S n := (abv_blw S n).symm
    have h3 : S[i]? = (abv S n)[i]? := by
      conv => lhs; rw [h2]
      exact List.getElem?_append_left h
    simp [List.getD, h3, h]
  rw [e]; exact abv_all _ hm
theorem dropWhile_at {S : List Sp} {n : Int} {i : Nat} (hw : WF S) (h : (abv S n).length ≤ i) (hi : i < S.length) : (S.getD i (0, 0)).1 ≤ n := by
  have h2 : S = abv S n ++ blw S n := (abv_blw S n).symm
  have hl : S.length = (abv S n).length + (blw S n).length := by
    have := congrArg List.length h2; simpa using this
  have h3 : S[i]? = (blw S n)[i - (abv S n).length]? := by
    conv => lhs; rw [h2]
    exact List.getElem?_append_right h
  have hj : i - (abv S n).length < (blw S n).length := by omega
  have e : S.getD i (0, 0) = (blw S n)[i - (abv S n).length] := by simp [List.getD, h3, hj]
  rw [e]
  have hm : (blw S n)[i - (abv S n).length] ∈ blw S n := List.getElem_mem hj
  have hb := hw.parts (n := n)
  generalize (blw S n)[i - (abv S n).length] = q at hm
  obtain ⟨p, r, hB⟩ : ∃ p r, blw S n = p :: r := by
    cases hB : blw S n with
    | nil => rw [hB] at hj; simp at hj
    | cons p r => exact ⟨p, r, rfl⟩
  have h4 := blw_head hB
  have h6 := hb.2.1
  rw [hB] at hm h6
  rcases List.mem_cons.1 hm with rfl | hq
  · exact h4
  · have := h6.tail.2.1 q hq
    have := h6.tail.1.2 q hq
    have := h6.tail.2.2
    omega
set_option maxRecDepth 20000 in
set_option maxHeartbeats 1000000 in
theorem search_any {w : World} {B b off cap P Q : Nat} {n : Int} {S : List Sp} (hw : WF S) (hp : w.cell? ⟨P, 0, none⟩ = some (.pointer (some ⟨B, 0, none⟩))) (hq : w.cell? ⟨Q, 0, none⟩ = some (.int .i64 n))
    (hc : w.cell? ⟨B, 0, none⟩ = some (.slice (some ⟨b, off, none⟩) S.length cap)) (hx : ∀ i, i < S.length → w.cell? ⟨b, off + i * 2, none⟩ = some (.int .i64 (S.getD i (0, 0)).1)) (hl : S.length ≤ 1000) :
    Calls Try.prog 26 #[.int .i64 S.length, .func (.func 27) #[] #[.pointer (some ⟨P, 0, none⟩), .pointer (some ⟨Q, 0, none⟩)]] w fun e w' => e = .returned (.int .i64 (abv S n).length) ∧ ∃ k, w' = w.drewN k := by
  have hle : (abv S n).length ≤ S.length := by have := congrArg List.length (abv_blw S n); simp at this; omega
  have HX := Lib.hid hx
  have HP := Lib.hid hp
  have HQ := Lib.hid hq
  have HC := Lib.hid hc
  clear hx hp hq hc
  have HU : Hid (∀ i, i < (abv S n).length → n < (S.getD i (0, 0)).1) := Lib.hid fun i h => takeWhile_at h
  have HD : Hid (∀ i, (abv S n).length ≤ i → i < S.length → (S.getD i (0, 0)).1 ≤ n) := Lib.hid fun i h hi => dropWhile_at hw h hi
  generalize (abv S n).length = p at *
  go_enter Try.func26, Try.ntmps26
  go_wp2_with fail
  go_loopw [5, 6] (fun i j wr => ∃ (x y k : Nat), i = .int .i64 x ∧ j = .int .i64 y ∧ x ≤ p ∧ p ≤ y ∧ y ≤ S.length ∧ wr = w.drewN k) (fun i j _ => (intOf j).toNat - (intOf i).toNat)
  case atStart => exact ⟨0, S.length, 0, rfl, rfl, by omega, by omega, by omega, rfl⟩
  case round =>
    obtain ⟨x, y, k, rfl, rfl, h1, h2, h3, rfl⟩ := hrel
    by_cases hlt : x < y
    · have hlt' : (x : Int) < (y : Int) := by omega
      have hb1 : (y : Int) ≤ 1000 := by omega
      obtain ⟨h, hh⟩ : ∃ h, (x + y) / 2 = h := ⟨_, rfl⟩
      have e1 : ((x : Int) + y) / 2 = (h : Int) := by omega
      have hlS : h < S.length := by omega
      have ha := ask_any (w := w.drewN k) HP.out HQ.out HC.out (HX.out h hlS) hlS
      clear hle
      by_cases hd : (S.getD h (0, 0)).1 ≤ n
      · have hph : p ≤ h := by
          by_cases hc : h < p
          · have := HU.out h hc; omega
          · omega
        rw [decide_eq_true hd] at ha
        clear hd
        go_wp2_with (go_at_call 27; refine ha.mono ?_; rintro e w' ⟨rfl, m, rfl⟩)
        go_roundw
        case rel => exact ⟨x, h, k + m, rfl, rfl, h1, hph, by omega, by simp⟩
        case measure => simp [intOf]; omega
      · have hph : h + 1 ≤ p := by
          by_cases hc : p ≤ h
          · have := HD.out h hc hlS; omega
          · omega
        rw [decide_eq_false hd] at ha
        clear hd
        go_wp2_with (go_at_call 27; refine ha.mono ?_; rintro e w' ⟨rfl, m, rfl⟩)
        go_roundw
        case rel => exact ⟨h + 1, y, k + m, by go_num, rfl, hph, h2, h3, by simp⟩
        case measure => simp [intOf]; omega
    · obtain rfl : x = y := by omega
      obtain rfl : x = p := by omega
      go_wp2_with fail
      go_ret
      exact ⟨rfl, _, rfl⟩
theorem search_nil {w : World} {P Q : Nat} : Calls Try.prog 26 #[.int .i64 0, .func (.func 27) #[] #[.pointer (some ⟨P, 0, none⟩), .pointer (some ⟨Q, 0, none⟩)]] w fun e w' => e = .returned (.int .i64 0) ∧ ∃ k, w' = w.drewN k := by
  go_enter Try.func26, Try.ntmps26
  go_wp2_with fail
  go_loop [5, 6] (fun i j => i = .int .i64 0 ∧ j = .int .i64 0) (fun _ _ => 0)
  case atStart => exact ⟨rfl, rfl⟩
  case round =>
    obtain ⟨rfl, rfl⟩ := hrel
    go_wp2_with fail
    go_ret
    exact ⟨rfl, 0, rfl⟩
/-- The two boxes of the closure. -/
theorem boxes_below (w : World) (B : Nat) (n : Int) (k : Nat) : Below w.heap.size w (((w.alloc (.cells #[.pointer (some ⟨B, 0, none⟩)] 23)).alloc (.cells #[.int .i64 n] 3)).drewN k) :=
  (((Below.refl _ _).alloc (Nat.le_refl _) _).alloc (by simp) _).trans ⟨rfl, rfl, rfl, Nat.le_refl _, fun _ _ => rfl⟩
theorem place_some {w : World} {B b off cap : Nat} {n : Int} {S : List Sp} (hw : WF S) (hB : B < w.heap.size) (hb : b < w.heap.size)
    (hc : w.cell? ⟨B, 0, none⟩ = some (.slice (some ⟨b, off, none⟩) S.length cap)) (hx : ∀ i, i < S.length → w.cell? ⟨b, off + i * 2, none⟩ = some (.int .i64 (S.getD i (0, 0)).1)) (hl : S.length ≤ 1000) :
    Calls Try.prog 18 #[.pointer (some ⟨B, 0, none⟩), .int .i64 n] w fun e w' => e = .returned (.int .i64 (abv S n).length) ∧ Below w.heap.size w w' := by
  have hs := search_any (w := (w.alloc (.cells #[.pointer (some ⟨B, 0, none⟩)] 23)).alloc (.cells #[.int .i64 n] 3)) (B := B) (b := b) (off := off) (cap := cap) (P := w.heap.size) (Q := w.heap.size + 1) (n := n) hw
    (by simp [go_sem]) (by simp [go_sem]) (by simp [go_sem, hB, Nat.lt_succ_of_lt hB, hc]) (fun i hi => by simp [go_sem, hb, Nat.lt_succ_of_lt hb, hx i hi]) hl
  have HB := Lib.hid (boxes_below w B n)
  clear hx hw
  generalize (abv S n).length = p at *
  go_enter Try.func18, Try.ntmps18
  go_wp2_with (go_at_call 26; refine hs.mono ?_; rintro e w' ⟨rfl, m, rfl⟩)
  go_ret
  exact ⟨rfl, HB.out m⟩
theorem place_nil {w : World} {B cap : Nat} {ao : Option Addr} {n : Int} (hB : B < w.heap.size)
    (hc : w.cell? ⟨B, 0, none⟩ = some (.slice ao 0 cap)) :
    Calls Try.prog 18 #[.pointer (some ⟨B, 0, none⟩), .int .i64 n] w fun e w' => e = .returned (.int .i64 0) ∧ Below w.heap.size w w' := by
  have hs := search_nil (w := (w.alloc (.cells #[.pointer (some ⟨B, 0, none⟩)] 23)).alloc (.cells #[.int .i64 n] 3)) (P := w.heap.size) (Q := w.heap.size + 1)
  have HB := Lib.hid (boxes_below w B n)
  go_enter Try.func18, Try.ntmps18
  go_wp2_with (go_at_call 26; refine hs.mono ?_; rintro e w' ⟨rfl, m, rfl⟩)
  go_ret
  exact ⟨rfl, HB.out m⟩
theorem Sn.shape {w : World} {B : Nat} {s : Set0} (h : Sn w B s) : (s.1 = [] ∧ w.cell? ⟨B, 0, none⟩ = some (.slice none 0 0)) ∨
    ∃ b off cap, w.cell? ⟨B, 0, none⟩ = some (.slice (some ⟨b, off, none⟩) s.1.length cap) ∧ 0 < s.1.length ∧ s.1.length ≤ cap ∧ cap ≤ 9223372036854775807 ∧ b < w.heap.size ∧ b ≠ B ∧
      ∀ j, j < s.1.length → w.cell? ⟨b, off + j * 2, none⟩ = some (.int .i64 (s.1.getD j (0, 0)).1) ∧ w.cell? ⟨b, off + j * 2 + 1, none⟩ = some (.int .i64 (s.1.getD j (0, 0)).2) := by
  obtain ⟨v, h1, h2, h3, h4⟩ := h.box
  have hc : w.cell? ⟨B, 0, none⟩ = some v := (cell_of_row _ B 0 _ _ (0, 0) h1).trans rfl
  rcases h2.cases with ⟨e, ao, cap, rfl, _⟩ | ⟨b, off, cap, rfl, g1, g2, g3, g4, g5⟩
  · have := h4 e
    rw [this] at hc
    exact Or.inl ⟨e, hc⟩
  · exact Or.inr ⟨b, off, cap, hc, g1, g2, g3, g4, fun e => h3 (by intro e; rw [e] at g1; simp at g1) (by simp [Value.ownBlock, e]), g5⟩
theorem place_any {w : World} {B : Nat} {s : Set0} (h : Sn w B s) (n : Int) : Calls Try.prog 18 #[.pointer (some ⟨B, 0, none⟩), .int .i64 n] w fun e w' => e = .returned (.int .i64 (abv s.1 n).length) ∧ Below w.heap.size w w' := by
  rcases h.shape with ⟨e, hc⟩ | ⟨b, off, cap, hc, _, _, _, hb, _, h5⟩
  · rw [e]; exact place_nil h.lt hc
  · exact place_some h.ok.1 h.lt hb hc (fun i hi => (h5 i hi).1) (by have := h.ok.2.1; omega)
end Go.Proofs.Ytnfednhleedljaa
