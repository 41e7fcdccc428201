/- The program's window: whatever order. -/
import Derived.Test.YthlmodhglldajaaWnLaw2
namespace Go.Proofs.Ythlmodhglldajaa
open Go Go.RowKit

/-- All numbers lie within 64 from n on. -/
def InW (n : Int) (L : List Int) : Prop := ∀ x ∈ L, n ≤ x ∧ x < n + 64
theorem InW.gr {n : Int} {L : List Int} (h : InW n L) (hn : 0 ≤ n) : gr L < n + 64 := by
  have key : ∀ (L : List Int) (a : Int), a < n + 64 → (∀ x ∈ L, x < n + 64) → L.foldl max a < n + 64 := by
    intro L
    induction L with
    | nil => intro a h _; simpa using h
    | cons y r ih =>
      intro a h1 h2
      simp only [List.foldl_cons]
      exact ih _ (by have := h2 y (by simp); omega) (fun x hx => h2 x (by simp [hx]))
  exact key L _ (by omega) fun x hx => (h x hx).2
theorem InW.fresh {n : Int} {L : List Int} (h : InW n L) (hn : 0 ≤ n) (hn1 : n ≤ 4294967295) {k : Nat} (hk : k < 64) : frB L (n + k) = !L.contains (n + k) := by
  have hg := h.gr hn
  rw [Bool.eq_iff_iff, frB_iff]
  simp
  exact ⟨fun h => h.2.2.2, fun h => ⟨by omega, by omega, by omega, h⟩⟩
theorem InW.mk {n : Int} {L : List Int} (h : InW n L) {k : Nat} (hk : k < 64) : InW n (mk L (n + k)) := by
  unfold Go.Proofs.Ythlmodhglldajaa.mk
  split
  · intro x hx
    rcases List.mem_append.1 hx with hx | hx
    · exact h x hx
    · rw [List.mem_singleton.1 hx]; omega
  · exact h
/-- What was seen lies in the array. -/
def Seen (w : World) (A : Nat) (n : Int) (L : List Int) : Prop := ∃ C : Array Value, w.heap[A]? = some (.cells C 42 (0, 0)) ∧ C.size = 64 ∧ ∀ j, j < 64 → C[j]? = some (.bool (L.contains (n + (j : Nat))))
theorem Seen.cell {w : World} {A : Nat} {n : Int} {L : List Int} (h : Seen w A n L) {k : Nat} (hk : k < 64) : w.cell? ⟨A, k, none⟩ = some (.bool (L.contains (n + k))) ∧ w.frozen? ⟨A, k, none⟩ = false := by
  obtain ⟨C, h1, h2, h3⟩ := h
  exact ⟨(cell_of_row _ A k _ _ (0, 0) h1).trans (h3 k hk), by simp [World.frozen?, h1]⟩
theorem Seen.but {w w' : World} {A B : Nat} {n : Int} {L : List Int} (h : Seen w A n L) (hb : But B w w') (hne : A ≠ B) : Seen w' A n L := by
  obtain ⟨C, h1, h2⟩ := h
  exact ⟨C, by rw [hb.block A (blk_lt h1) hne]; exact h1, h2⟩
theorem Seen.set {w : World} {A : Nat} {n : Int} {L : List Int} (h : Seen w A n L) {k : Nat} (hk : k < 64) (hf : frB L (n + k) = !L.contains (n + k)) : Seen (w.setCell ⟨A, k, none⟩ (.bool true)) A n (mk L (n + k)) := by
  obtain ⟨C, h1, h2, h3⟩ := h
  refine ⟨_, heap_setCell_same w A k _ _ (.bool true) h1, by simp [h2], fun j hj => ?_⟩
  have hm : ∀ y, (mk L (n + k)).contains y = (L.contains y || decide (y = n + k)) := by
    intro y
    unfold Go.Proofs.Ythlmodhglldajaa.mk
    rw [hf]
    by_cases hc : (n + (k : Int)) ∈ L
    · simp [hc]
      intro e; rw [e]; exact hc
    · simp [hc]
  rw [hm]
  by_cases e : j = k
  · subst e
    simp [h2, hj]
  · have hne : ¬ (n + (j : Int) = n + k) := by omega
    rw [decide_eq_false hne, Bool.or_false, ← h3 j hj]
    simp [Ne.symm e]
theorem seen_new (w : World) (n : Int) : Seen (w.alloc (.cells (Array.replicate 64 (.bool false)) 42)) w.heap.size n [] := by
  refine ⟨_, heap_alloc_new w _, by simp, fun j hj => ?_⟩
  simp [hj]
theorem cells_keep8 {w0 w : World} {b o : Nat} {x : Value} (h : w0.cell? ⟨b, o, none⟩ = some x) (hb : Below w0.heap.size w0 w) : w.cell? ⟨b, o, none⟩ = some x := by
  rw [hb.cell (p := ⟨b, o, none⟩) (cell_lt h)]; exact h

/-- What a round leaves. -/
theorem order_step {w0 w1 : World} {n : Int} {L : List Int} {m K : Nat} (h1 : Wn w1 w0.heap.size (mk L (n + (K : Int))) m) (hi : InW n (mk L (n + (K : Int)))) (hs : Seen w1 (w0.heap.size + 1) n L) (hb : Below w0.heap.size w0 w1) (hK : K < 64) (hf : frB L (n + (K : Int)) = !L.contains (n + (K : Int))) :
    Wn (w1.setCell ⟨w0.heap.size + 1, K, none⟩ (.bool true)) w0.heap.size (mk L (n + (K : Int))) m ∧ InW n (mk L (n + (K : Int))) ∧ Seen (w1.setCell ⟨w0.heap.size + 1, K, none⟩ (.bool true)) (w0.heap.size + 1) n (mk L (n + (K : Int))) ∧ Below w0.heap.size w0 (w1.setCell ⟨w0.heap.size + 1, K, none⟩ (.bool true)) :=
  ⟨h1.keep (Below.heap_setCell _ _ _ _ (by simp)), hi, hs.set hK hf, hb.setCell (by simp) _⟩
set_option maxHeartbeats 2000000 in
theorem order_some {w0 : World} {b off cap : Nat} {l : List Int} (hcell : ∀ j, j < l.length → w0.cell? ⟨b, off + j, none⟩ = some (.int .u8 (l.getD j 0))) (hby : ∀ j, 0 ≤ l.getD j 0 ∧ l.getD j 0 ≤ 255) (hl : l.length ≤ 200) (n : Int) (hn0 : 0 ≤ n) (hn1 : n ≤ 4294967295) :
    Calls Try.prog 10 #[.int .u32 n, .slice (some ⟨b, off, none⟩) l.length cap] w0 fun e w' => e = .returned (.bool true) ∧ Below w0.heap.size w0 w' := by
  have h0 : Wn ((w0.alloc (.cells #[.int .i64 0, .int .u64 0] 33)).alloc (.cells (Array.replicate 64 (.bool false)) 42)) w0.heap.size [] 0 := (wn_new w0).keep (by
    have := below_alloc (w0.alloc (.cells #[.int .i64 0, .int .u64 0] 33)) (.cells (Array.replicate 64 (.bool false)) 42)
    exact this.block _ (wn_new w0).lt)
  have hs0 : Seen ((w0.alloc (.cells #[.int .i64 0, .int .u64 0] 33)).alloc (.cells (Array.replicate 64 (.bool false)) 42)) (w0.heap.size + 1) n [] := by
    have := seen_new (w0.alloc (.cells #[.int .i64 0, .int .u64 0] 33)) n
    simpa using this
  have b0 : Below w0.heap.size w0 ((w0.alloc (.cells #[.int .i64 0, .int .u64 0] 33)).alloc (.cells (Array.replicate 64 (.bool false)) 42)) :=
    ((Below.refl _ _).alloc (Nat.le_refl _) _).alloc (by simp) _
  have HC := Lib.hid hcell
  have HB := Lib.hid hby
  have hl' : (l.length : Int) ≤ 200 := by omega
  clear hcell hby
  go_enter Try.func10, Try.ntmps10
  go_wp2_with fail
  go_loopw [7] (fun i w => ∃ (k m : Nat) (L : List Int), k ≤ l.length ∧ i = .int .i64 k ∧ Wn w w0.heap.size L m ∧ InW n L ∧ Seen w (w0.heap.size + 1) n L ∧ Below w0.heap.size w0 w) (fun i _ => l.length - (intOf i).toNat)
  case atStart => exact ⟨0, 0, [], by omega, rfl, h0, (fun x h => by cases h), hs0, b0⟩
  case round =>
    obtain ⟨j, m, L, hj, rfl, hwn, hin, hse, hbel⟩ := hrel
    have hsz := hbel.size
    have hj' : (j : Int) ≤ (l.length : Int) := by omega
    clear h0 hs0 b0
    by_cases hlt : j < l.length
    · have hlt' : (j : Int) < (l.length : Int) := by omega
      have hx := cells_keep (HC.out j hlt) hbel
      obtain ⟨hx0, hx1⟩ := HB.out j
      generalize l.getD j 0 = x at hx hx0 hx1
      obtain ⟨K, hK⟩ : ∃ K : Nat, x % 64 = (K : Int) := ⟨(x % 64).toNat, by omega⟩
      have hK64 : K < 64 := by omega
      have hK64' : (K : Int) < 64 := by omega
      obtain ⟨c0, f0⟩ := hse.cell hK64
      have hfr := hin.fresh hn0 hn1 hK64
      have hin' := Lib.hid (hin.mk hK64)
      have hmk := mark_any (w := wr.drew) (hwn.keep rfl) (n + K)
      have hsb : ∀ w1, But w0.heap.size wr.drew w1 → Seen w1 (w0.heap.size + 1) n L := fun w1 hb => Seen.but (w := wr.drew) hse hb (by omega)
      have HSB := Lib.hid hsb
      rw [hfr] at hmk
      have HF := Lib.hid hfr
      obtain ⟨c, hc⟩ : ∃ c, L.contains (n + (K : Int)) = c := ⟨_, rfl⟩
      rw [hc] at c0 hmk
      have HCC := Lib.hid hc
      have e1 : IntKind.i64.wrap n = n := IntWalk.i64_in _ (by omega)
      have e2 : IntKind.i64.wrap (n + (K : Int)) = n + K := IntWalk.i64_in _ (by omega)
      clear hfr hsb hse hwn hc
      go_wp2_with fail
      go_region_with (go_at_call 21; refine hmk.mono ?_; rintro e w1 ⟨rfl, ⟨m1, h1⟩, u1⟩; have hs1 := HSB.out w1 u1; have c1 := (hs1.cell hK64).1; have f1 := (hs1.cell hK64).2; rw [HCC.out] at c1)
      all_goals
        have HR := Lib.hid (order_step h1 hin'.out hs1 (u1.below (w0 := w0) hbel.drew (Nat.le_refl _) hsz) hK64 HF.out)
        clear h1 hs1 u1 hmk hin
        cases c
        all_goals
          clear e1 e2
          go_wp2_with fail
          go_roundw
          case rel => exact ⟨j + 1, m1, _, by omega, by go_num, HR.out⟩
          case measure => simp [intOf]; omega
    · obtain rfl : j = l.length := by omega
      clear hse hwn hin
      go_wp2_with (go_at_call 25; refine (wawake_any _).mono ?_; rintro e w2 ⟨rfl, b2⟩)
      go_ret
      exact ⟨rfl, hbel.trans (b2.mono hsz)⟩
theorem order_nil {w0 : World} {ao : Option Addr} {cap : Nat} (n : Int) : Calls Try.prog 10 #[.int .u32 n, .slice ao 0 cap] w0 fun e w' => e = .returned (.bool true) ∧ Below w0.heap.size w0 w' := by
  have b0 : Below w0.heap.size w0 ((w0.alloc (.cells #[.int .i64 0, .int .u64 0] 33)).alloc (.cells (Array.replicate 64 (.bool false)) 42)) :=
    ((Below.refl _ _).alloc (Nat.le_refl _) _).alloc (by simp) _
  go_enter Try.func10, Try.ntmps10
  go_wp2_with fail
  go_loopw [7] (fun i w => i = .int .i64 0 ∧ Below w0.heap.size w0 w) (fun _ _ => 0)
  case atStart => exact ⟨rfl, b0⟩
  case round =>
    obtain ⟨rfl, hbel⟩ := hrel
    have hsz := hbel.size
    go_wp2_with (go_at_call 25; refine (wawake_any _).mono ?_; rintro e w2 ⟨rfl, b2⟩)
    go_ret
    exact ⟨rfl, hbel.trans (b2.mono hsz)⟩
theorem order_long {w0 : World} {ao : Option Addr} {len cap : Nat} (n : Int) (h : 200 < len) : Calls Try.prog 10 #[.int .u32 n, .slice ao len cap] w0 fun e w' => e = .returned (.bool true) ∧ Below w0.heap.size w0 w' := by
  have h' : (200 : Int) < (len : Int) := by omega
  go_enter Try.func10, Try.ntmps10
  go_wp2_with fail
  go_ret
  exact ⟨rfl, Below.refl _ _⟩
/-- The law, for every number and slice of bytes. -/
theorem order_walk {w0 : World} {v : Value} {l : List Int} (hr : Rd .u8 w0 v l) (hby : ∀ z ∈ l, 0 ≤ z ∧ z ≤ 255) (n : Int) (hn0 : 0 ≤ n) (hn1 : n ≤ 4294967295) : Calls Try.prog 10 #[.int .u32 n, v] w0 fun e w' => e = .returned (.bool true) ∧ Below w0.heap.size w0 w' := by
  by_cases hl : l.length ≤ 200
  · rcases hr.cases with ⟨rfl, ao, cap, rfl, _⟩ | ⟨b, off, cap, rfl, _, _, _, _, h5⟩
    · exact order_nil n
    · refine order_some h5 (fun j => ?_) hl n hn0 hn1
      by_cases hj : j < l.length
      · have e : l.getD j 0 = l[j] := by simp [hj]
        rw [e]; exact hby _ (List.getElem_mem hj)
      · have e : l.getD j 0 = 0 := by simp [List.getD, List.getElem?_eq_none (Nat.not_lt.1 hj)]
        rw [e]; omega
  · obtain ⟨ao, cap, rfl, _⟩ := hr
    exact order_long n (by omega)
end Go.Proofs.Ythlmodhglldajaa
