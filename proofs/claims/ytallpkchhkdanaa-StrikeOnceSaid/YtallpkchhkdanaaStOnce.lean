/- strike: no number is taken twice; behind as many as there is room for nothing is taken: the walks. -/
import Derived.Test.YtallpkchhkdanaaStNew
namespace Go.Proofs.Ytallpkchhkdanaa
open Go Go.RowKit

theorem tr_full {win room : Int} {L Y : List Sp} {n made now : Int} (h1 : ¬ (made < 0 ∨ now < 0)) (h2 : ¬ (now < made ∨ win < now - made)) (hY : youngS win now L = Y) (hk : n ∉ keysS Y) (hf : room ≤ (Y.length : Int)) : tryE win room L n made now = 5 ∧ tryL win room L n made now = Y := by
  unfold tryE tryL
  rw [if_neg h1, if_neg h1, if_neg h2, if_neg h2, hY, if_neg hk, if_neg hk, if_pos hf, if_pos hf]
  exact ⟨rfl, rfl⟩
theorem tr_ok {win room : Int} {L Y : List Sp} {n made now : Int} (h1 : ¬ (made < 0 ∨ now < 0)) (h2 : ¬ (now < made ∨ win < now - made)) (hY : youngS win now L = Y) (hk : n ∉ keysS Y) (hf : ¬ room ≤ (Y.length : Int)) : tryE win room L n made now = 0 ∧ tryL win room L n made now = Y ++ [(n, made)] := by
  unfold tryE tryL
  rw [if_neg h1, if_neg h1, if_neg h2, if_neg h2, hY, if_neg hk, if_neg hk, if_neg hf, if_neg hf]
  exact ⟨rfl, rfl⟩
/-- What fills a store. -/
def fullL : Nat → List Sp
  | 0 => []
  | i + 1 => fullL i ++ [((i : Int) + 1, 5)]
theorem full_len (i : Nat) : (fullL i).length = i := by
  induction i with | zero => rfl | succ i ih => simp [fullL, ih]
theorem full_mem {i : Nat} {p : Sp} (h : p ∈ fullL i) : 1 ≤ p.1 ∧ p.1 ≤ i ∧ p.2 = 5 := by
  induction i with
  | zero => cases h
  | succ i ih =>
    rcases List.mem_append.1 h with h | h
    · have := ih h; exact ⟨this.1, by omega, this.2.2⟩
    · simp at h; subst h; exact ⟨by simp; omega, by simp, rfl⟩
theorem full_not {i : Nat} {k : Int} (h : k < 1 ∨ (i : Int) < k) : k ∉ keysS (fullL i) := fun hk => by
  obtain ⟨p, hp, rfl⟩ := mem_keysS.1 hk
  have := full_mem hp; omega
theorem full_young {win : Int} (h : 0 ≤ win) (i : Nat) : youngS win 5 (fullL i) = fullL i :=
  List.filter_eq_self.2 fun p hp => by
    have e := (full_mem hp).2.2
    unfold oldB; rw [e, decide_eq_false (by omega)]; rfl
theorem full_step {win room : Int} (h : 0 ≤ win) {i : Nat} (hi : (i : Int) < room) : tryE win room (fullL i) ((i : Int) + 1) 5 5 = 0 ∧ tryL win room (fullL i) ((i : Int) + 1) 5 5 = fullL (i + 1) :=
  tr_ok (by omega) (by omega) (full_young h i) (full_not (by omega)) (by rw [full_len]; omega)
theorem full_end {win : Int} (h : 0 ≤ win) {i : Nat} (hi : i ≤ 255) : tryE win i (fullL i) 1000 5 5 = 5 ∧ tryL win i (fullL i) 1000 5 5 = fullL i :=
  tr_full (by omega) (by omega) (full_young h i) (full_not (by omega)) (by rw [full_len]; omega)
theorem full_late {win : Int} (i : Nat) : youngS win (5 + win + 1) (fullL i) = [] :=
  List.filter_eq_nil_iff.2 fun p hp => by
    have e := (full_mem hp).2.2
    unfold oldB; rw [e, decide_eq_true (by omega)]; simp
theorem full_last {win : Int} (h : 0 ≤ win) (i : Nat) : (i = 0 → tryE win i (fullL i) 1000 (5 + win + 1) (5 + win + 1) = 5 ∧ tryL win i (fullL i) 1000 (5 + win + 1) (5 + win + 1) = []) ∧ (i ≠ 0 → tryE win i (fullL i) 1000 (5 + win + 1) (5 + win + 1) = 0 ∧ tryL win i (fullL i) 1000 (5 + win + 1) (5 + win + 1) = [(1000, 5 + win + 1)]) :=
  ⟨fun e => tr_full (by omega) (by omega) (full_late i) (by simp [keysS]) (by simp; omega), fun e => tr_ok (by omega) (by omega) (full_late i) (by simp [keysS]) (by simp; omega)⟩
set_option maxHeartbeats 2000000 in
theorem full_walk (a b : Int) (h0 : 0 ≤ a) (h1 : a ≤ 255) (h2 : 0 ≤ b) (h3 : b ≤ 255) (w : World) : Calls Try.prog 5 #[.int .u8 a, .int .u8 b] w fun e w' => e = .returned (.bool true) ∧ Below w.heap.size w w' := by
  obtain ⟨K, rfl⟩ := Int.eq_ofNat_of_zero_le h2
  have hnew := new_eq w a K
  rw [show winN a = a by unfold winN; rw [if_neg (by omega)], show roomN (K : Int) = K by unfold roomN; rw [if_neg (by omega), if_neg (by omega)]] at hnew
  have hS0 := new_st w (a := a) (b := K) h0 (by omega)
  have HB := Lib.hid (new_below w a K)
  have hlast := Lib.hid (full_last h0 K)
  have hend := Lib.hid (full_end h0 (i := K) (by omega))
  have hw1 : IntKind.i64.wrap (5 + a) = 5 + a := IntWalk.i64_in _ (by omega)
  have hw2 : IntKind.i64.wrap (5 + a + 1) = 5 + a + 1 := IntWalk.i64_in _ (by omega)
  have h64 : i64 (5 + a + 1) := ⟨by omega, by omega⟩
  have H64 := Lib.hid h64
  clear h64
  go_enter Try.func5, Try.ntmps5
  go_wp2_with (go_at_call 9; refine hnew.mono ?_; rintro e w1 ⟨rfl, rfl⟩)
  go_loopw [6] (fun i wr => ∃ k : Nat, i = .int .i64 k ∧ k ≤ K ∧ St wr (w.heap.size + 1) w.heap.size a K (fullL k) ∧ Below w.heap.size w wr) (fun i _ => K - (intOf i).toNat)
  case atStart => exact ⟨0, rfl, by omega, hS0, HB.out⟩
  case round =>
    clear hS0 hnew
    obtain ⟨k, rfl, hk, hS, hbel⟩ := hrel
    have hsz := hbel.size
    have hk' : (k : Int) ≤ (K : Int) := by omega
    by_cases hlt : k < K
    · have hlt' : (k : Int) < (K : Int) := by omega
      have ht := try_to hS (by rw [full_len]; omega) (n := (k : Int) + 1) (made := 5) (now := 5) ⟨by omega, by omega⟩ (dec64 rfl) (dec64 rfl) (full_step h0 hlt')
      go_wp2_with (go_at_call 11; refine ht.mono ?_; rintro e w1 ⟨rfl, hS1, hb1⟩)
      go_roundw
      case rel => exact ⟨k + 1, by go_num, by omega, hS1, hb1.below hbel (by omega) (Nat.le_refl _) hsz⟩
      case measure => simp [intOf]; omega
    · obtain rfl : k = K := by omega
      have ht := try_to hS (by rw [full_len]; omega) (n := 1000) (made := 5) (now := 5) (dec64 rfl) (dec64 rfl) (dec64 rfl) hend.out
      by_cases hz : k = 0
      · subst hz
        have HL := Lib.hid (hlast.out.1 rfl)
        clear hlt hlast
        go_wp2_with (first
          | (go_at_call 13; refine (many_any hS2).mono ?_; rintro e w' ⟨rfl, rfl⟩)
          | (go_at_call 13; refine (many_any hS1).mono ?_; rintro e w' ⟨rfl, rfl⟩)
          | (go_at_call 11; refine (try_to hS1 (by rw [full_len]; omega) (dec64 rfl) H64.out H64.out HL.out).mono ?_; rintro e w2 ⟨rfl, hS2, hb2⟩)
          | (go_at_call 11; refine ht.mono ?_; rintro e w1 ⟨rfl, hS1, hb1⟩)
          | (go_at_call 14; refine (sawake_any _).mono ?_; rintro e w4 ⟨rfl, b4⟩))
        go_ret
        have B2 := (hb1.trans hb2).below hbel (by omega) (Nat.le_refl _) hsz
        exact ⟨rfl, B2.trans (b4.mono B2.size)⟩
      · have HL := Lib.hid (hlast.out.2 hz)
        have hz' : (0 : Int) < (k : Int) := by omega
        have hfl : (fullL k).length = k := full_len k
        clear hlt hlast hz
        go_wp2_with (first
          | (go_at_call 13; refine (many_any hS2).mono ?_; rintro e w' ⟨rfl, rfl⟩)
          | (go_at_call 13; have hmm := many_any hS1; rw [hfl] at hmm; refine hmm.mono ?_; rintro e w' ⟨rfl, rfl⟩)
          | (go_at_call 11; refine (try_to hS1 (by rw [full_len]; omega) (dec64 rfl) H64.out H64.out HL.out).mono ?_; rintro e w2 ⟨rfl, hS2, hb2⟩)
          | (go_at_call 11; refine ht.mono ?_; rintro e w1 ⟨rfl, hS1, hb1⟩)
          | (go_at_call 14; refine (sawake_any _).mono ?_; rintro e w4 ⟨rfl, b4⟩))
        go_ret
        have B2 := (hb1.trans hb2).below hbel (by omega) (Nat.le_refl _) hsz
        exact ⟨rfl, B2.trans (b4.mono B2.size)⟩

/-- Which numbers were taken lies in the array. -/
def Flag (w : World) (A : Nat) (T : Nat → Bool) : Prop := ∃ C : Array Value, w.heap[A]? = some (.cells C 40 (0, 0)) ∧ C.size = 16 ∧ ∀ j, j < 16 → C[j]? = some (.bool (T j))
theorem Flag.cell {w : World} {A : Nat} {T : Nat → Bool} (h : Flag w A T) {k : Nat} (hk : k < 16) : w.cell? ⟨A, k, none⟩ = some (.bool (T k)) ∧ w.frozen? ⟨A, k, none⟩ = false := by
  obtain ⟨C, h1, h2, h3⟩ := h
  exact ⟨(cell_of_row _ A k _ _ (0, 0) h1).trans (h3 k hk), by simp [World.frozen?, h1]⟩
theorem Flag.keep {w w' : World} {A : Nat} {T : Nat → Bool} (h : Flag w A T) (e : w'.heap[A]? = w.heap[A]?) : Flag w' A T := by
  obtain ⟨C, h1, h2⟩ := h
  exact ⟨C, by rw [e]; exact h1, h2⟩
theorem Flag.lt {w : World} {A : Nat} {T : Nat → Bool} (h : Flag w A T) : A < w.heap.size := by
  obtain ⟨C, h1, _⟩ := h; exact blk_lt h1
theorem Flag.set {w : World} {A : Nat} {T : Nat → Bool} (h : Flag w A T) {k : Nat} (hk : k < 16) (b : Bool) : Flag (w.setCell ⟨A, k, none⟩ (.bool b)) A (fun j => if j = k then b else T j) := by
  obtain ⟨C, h1, h2, h3⟩ := h
  refine ⟨_, heap_setCell_same w A k _ _ (.bool b) h1, by simp [h2], fun j hj => ?_⟩
  by_cases e : j = k
  · subst e; simp [h2, hj]
  · simp only [if_neg e]; rw [← h3 j hj]; simp [Ne.symm e]
theorem flag_new (w : World) : Flag (w.alloc (.cells (Array.replicate 16 (.bool false)) 40)) w.heap.size (fun _ => false) :=
  ⟨_, heap_alloc_new w _, by simp, fun j hj => by simp [hj]⟩
/-- What has been tried so far. -/
structure Tried (win room : Int) (L : List Sp) (T : Nat → Bool) (now : Int) : Prop where
  mem : ∀ p ∈ L, ∃ k : Nat, k < 16 ∧ p = ((k : Int), 3 * (k : Int))
  old : ∀ k : Nat, k < 16 → T k = true → (k : Int) ∈ keysS L ∨ win < now - 3 * k
  len : (L.length : Int) ≤ room
theorem Tried.young {win room : Int} {L : List Sp} {T : Nat → Bool} {now now' : Int} (h : Tried win room L T now) (hn : now ≤ now') : Tried win room (youngS win now' L) T now' := by
  refine ⟨fun p hp => h.mem p (List.mem_filter.1 hp).1, fun k hk ht => ?_, ?_⟩
  · rcases h.old k hk ht with h1 | h1
    · by_cases ho : win < now' - 3 * k
      · exact Or.inr ho
      · left
        obtain ⟨p, hp, e⟩ := mem_keysS.1 h1
        obtain ⟨j, hj, rfl⟩ := h.mem p hp
        refine mem_keysS.2 ⟨_, List.mem_filter.2 ⟨hp, ?_⟩, e⟩
        have e' : j = k := by have e2 : (j : Int) = k := e; omega
        subst e'
        unfold oldB; rw [decide_eq_false (by simpa using ho)]; rfl
    · exact Or.inr (by omega)
  · have : (youngS win now' L).length ≤ L.length := List.length_filter_le _ _
    have := h.len; omega
theorem Tried.later {win room : Int} {L : List Sp} {T : Nat → Bool} {now now' : Int} (h : Tried win room L T now) (hn : now ≤ now') : Tried win room L T now' :=
  ⟨h.mem, fun k hk ht => (h.old k hk ht).imp id (fun _ => by omega), h.len⟩
theorem Tried.step {win room : Int} {L : List Sp} {T : Nat → Bool} {now now' : Int} (h : Tried win room L T now) (h0 : 0 ≤ now) (hn : now ≤ now') {k : Nat} (hk : k < 16) :
    (tryE win room L k (3 * k) now' = 0 → T k = false ∧ ¬ now' < 3 * (k : Int) ∧ ¬ win < now' - 3 * (k : Int)) ∧
    Tried win room (tryL win room L k (3 * k) now') (fun j => if j = k then (T k || (tryE win room L k (3 * k) now' == 0)) else T j) now' := by
  have h1 : ¬ (3 * (k : Int) < 0 ∨ now' < 0) := by omega
  have same : ∀ M e, e ≠ 0 → Tried win room M T now' → Tried win room M (fun j => if j = k then (T k || (e == (0 : Int))) else T j) now' := by
    intro M e he hM
    have e1 : (fun j => if j = k then (T k || (e == (0 : Int))) else T j) = T := by
      funext j
      by_cases ej : j = k
      · subst ej; simp [he]
      · rw [if_neg ej]
    rw [e1]; exact hM
  by_cases h2 : now' < 3 * (k : Int) ∨ win < now' - 3 * (k : Int)
  · unfold tryE tryL
    rw [if_neg h1, if_neg h1, if_pos h2, if_pos h2]
    exact ⟨(fun h => by cases h), same _ 9 (by decide) (h.later hn)⟩
  · by_cases hm : (k : Int) ∈ keysS (youngS win now' L)
    · unfold tryE tryL
      rw [if_neg h1, if_neg h1, if_neg h2, if_neg h2, if_pos hm, if_pos hm]
      exact ⟨(fun h => by cases h), same _ 10 (by decide) (h.young hn)⟩
    · have hy := h.young hn
      by_cases hf : room ≤ ((youngS win now' L).length : Int)
      · obtain ⟨e1, e2⟩ := tr_full h1 h2 rfl hm hf
        rw [e1, e2]
        exact ⟨(fun h => by cases h), same _ 5 (by decide) hy⟩
      · obtain ⟨e1, e2⟩ := tr_ok h1 h2 rfl hm hf
        rw [e1, e2]
        refine ⟨fun _ => ⟨?_, by omega, by omega⟩, fun p hp => ?_, fun j hj ht => ?_, by simp; omega⟩
        · cases hT : T k with
          | false => rfl
          | true => rcases hy.old k hk hT with h3 | h3
                    · exact absurd h3 hm
                    · exact absurd (Or.inr h3) h2
        · rcases List.mem_append.1 hp with hp | hp
          · exact hy.mem p hp
          · simp at hp; exact ⟨k, hk, hp⟩
        · rw [keysS_app, List.mem_append]
          by_cases ej : j = k
          · subst ej; exact Or.inl (Or.inr (by simp [keysS]))
          · simp only [if_neg ej] at ht
            exact (hy.old j hj ht).imp Or.inl id
end Go.Proofs.Ytallpkchhkdanaa
