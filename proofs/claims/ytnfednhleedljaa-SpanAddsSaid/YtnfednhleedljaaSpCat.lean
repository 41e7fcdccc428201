/- slices.Grow of nothing, slices.Concat of rows of spans. -/
import Derived.Test.YtnfednhleedljaaSpHas
import Derived.Lib.AppendZeros
namespace Go.Proofs.Ytnfednhleedljaa
open Go Go.RowKit

theorem size_zeros (z : Array Value) (n : Nat) : (Builtin.zeroCells z n).size = n * z.size := by simp [Builtin.zeroCells]
theorem grow_run (w : World) (n : Nat) (h0 : 0 < n) (hn : n ≤ 100000) (ty : TypeId) : ∃ v cap w', (Builtin.append_ #[24, 3] ty #[.slice none 0 0, .int .i64 n]).run Try.prog w = .ok v w' ∧
    v = .slice (some ⟨w.heap.size, 0, none⟩) n cap ∧ n ≤ cap ∧ cap ≤ maxLen ∧ w'.ownsRow w.heap.size 44 2 (.slice (some ⟨w.heap.size, 0, none⟩) 0 cap) 0 (sc []) ∧ Below w.heap.size w w' := by
  obtain ⟨i, hi, hz⟩ : ∃ i, Try.prog.info? 44 = some i ∧ (i.zero.map (·.cells.size), i.size, i.bytes) = (some 2, 2, 16) := by
    cases he : Try.prog.info? 44 with
    | none => have := info44; rw [he] at this; cases this
    | some i => have := info44; rw [he] at this; exact ⟨i, rfl, by simpa using this⟩
  simp only [Prod.mk.injEq, Option.map_eq_some_iff] at hz
  obtain ⟨⟨z, hz0, hz3⟩, hz1, hz2⟩ := hz
  have hr := Lib.run_append_nil_zeros (P := Try.prog) w 24 3 ty 44 i z .i64 .i64 Try.underlying24 Try.underlying3 hi hz0 n h0 (by omega) (by omega) (by rw [hz2]; omega)
  have hge := grownCap_ge w n 0 44
  have hle := grownCap_le_maxLen w n 0 44 (by unfold maxLen; omega)
  refine ⟨_, _, _, hr, rfl, hge, hle, ⟨rfl, .inr ⟨w.heap.size, _, _, rfl, Nat.le_refl _, heap_alloc_new _ _, Nat.zero_le _, hle, ?_, by simp [sc]⟩⟩, (Below.refl _ _).drew.alloc (Nat.le_refl _) _⟩
  simp only [Array.size_append, size_zeros, hz3]
  omega
set_option maxHeartbeats 1000000 in
theorem grow_any (w : World) (n : Nat) (hn : n ≤ 100000) : Calls Try.prog 28 #[.slice none 0 0, .int .i64 n] w fun e w' => ∃ v, e = .returned v ∧ w'.ownsRow w.heap.size 44 2 v 0 (sc []) ∧ Below w.heap.size w w' := by
  by_cases h0 : 0 < n
  · obtain ⟨v, cap, w', hr, rfl, h1, h2, ho, hb⟩ := grow_run w n h0 hn 24
    have h0' : (0 : Int) < (n : Int) := by omega
    have hn' : (n : Int) ≤ 100000 := by omega
    have HR := Lib.hid hr
    unfold maxLen at h2
    clear hr
    go_enter Try.func28, Try.ntmps28
    go_wp2_with (at_builtin; refine Lib.wpList_append_run _ rfl _ _ _ _ rfl _ _ rfl rfl _ _ HR.out ?_)
    go_ret
    exact ⟨_, rfl, ho, hb⟩
  · obtain rfl : n = 0 := by omega
    go_enter Try.func28, Try.ntmps28
    go_wp2_with fail
    go_ret
    exact ⟨_, rfl, World.ownsRow_nil _ _ _ _, Below.refl _ _⟩

/-- A row of three slices that read as spans. -/
def Three (w : World) (r : Nat) (V : List (Value × List Sp)) : Prop := ∀ j p, V[j]? = some p → w.cell? ⟨r, j, none⟩ = some p.1 ∧ Rs w p.1 p.2
def flat (V : List (Value × List Sp)) : List Sp := (V.map (·.2)).flatten
theorem flat_take {V : List (Value × List Sp)} {k : Nat} {p : Value × List Sp} (h : V[k]? = some p) : flat (V.take (k + 1)) = flat (V.take k) ++ p.2 := by
  have hlt : k < V.length := (List.getElem?_eq_some_iff.1 h).1
  rw [List.take_succ_eq_append_getElem hlt]
  have : V[k] = p := by rw [List.getElem?_eq_getElem hlt] at h; simpa using h
  simp [flat, this]
theorem flat_le (V : List (Value × List Sp)) (k : Nat) : (flat (V.take k)).length ≤ (flat V).length := by
  have : flat V = flat (V.take k) ++ flat (V.drop k) := by
    unfold flat; rw [← List.flatten_append, ← List.map_append, List.take_append_drop]
  rw [this]; simp
theorem Rs.out {w : World} {v : Value} {S : List Sp} (h : Rs w v S) : ∃ ao cap, v = .slice ao S.length cap := by
  obtain ⟨ao, cap, hv, _⟩ := h; exact ⟨ao, cap, hv⟩
theorem Three.below {w w' : World} {r : Nat} {V : List (Value × List Sp)} (h : Three w r V) (hb : Below w.heap.size w w') : Three w' r V := fun j p hp => by
  have := h j p hp
  exact ⟨by rw [hb.cell (cell_lt this.1)]; exact this.1, this.2.below hb⟩
set_option maxHeartbeats 2000000 in
theorem concat_any {w : World} {r : Nat} {V : List (Value × List Sp)} (h : Three w r V) (hV : V.length = 3) (hl : (flat V).length ≤ 1000) :
    Calls Try.prog 20 #[.slice (some ⟨r, 0, none⟩) 3 3] w fun e w' => ∃ v', e = .returned v' ∧ w'.ownsRow w.heap.size 44 2 v' (flat V).length (sc (flat V)) ∧ Below w.heap.size w w' := by
  have H := Lib.hid h
  clear h
  go_enter Try.func20, Try.ntmps20
  go_wp2_with fail
  go_loop [3, 11] (fun s i => ∃ k : Nat, k ≤ 3 ∧ i = .int .i64 k ∧ s = .int .i64 ((flat (V.take k)).length : Nat)) (fun _ i => 3 - (intOf i).toNat)
  case atStart => exact ⟨0, by omega, rfl, rfl⟩
  case round =>
    obtain ⟨k, hk, rfl, rfl⟩ := hrel
    have hk' : (k : Int) ≤ 3 := by omega
    by_cases hlt : k < 3
    · have hlt' : (k : Int) < 3 := by omega
      obtain ⟨p, hp⟩ : ∃ p, V[k]? = some p := ⟨V[k], List.getElem?_eq_getElem (by omega)⟩
      obtain ⟨hc, hr⟩ := H.out k p hp
      obtain ⟨ao, cap, e⟩ := hr.out
      rw [e] at hc
      have hf := flat_take hp
      have hf2 : (flat (V.take (k + 1))).length = (flat (V.take k)).length + p.2.length := by rw [hf]; simp
      have hle := flat_le V (k + 1)
      rw [hf2] at hle
      have HF := Lib.hid hf2
      generalize (flat (V.take k)).length = a at *
      generalize p.2.length = m at *
      have hs : ((a : Int) + (m : Int)) ≤ 1000 := by omega
      clear hf hf2 hp hr e hle
      go_wp2_with fail
      go_round
      case rel => exact ⟨k + 1, by omega, by go_num, by rw [HF.out]; go_num⟩
      case measure => simp [intOf]; omega
    · obtain rfl : k = 3 := by omega
      have e3 : V.take 3 = V := List.take_of_length_le (by omega)
      rw [e3]
      clear e3
      have hg := grow_any w (flat V).length (by omega)
      go_wp2_with (go_at_call 28; refine hg.mono ?_; rintro e w1 ⟨v, rfl, ho, hb⟩)
      have h1 := H.out.below hb
      have H1 := Lib.hid h1
      have hs1 := hb.size
      clear h1 hg
      go_loopw [6, 27] (fun x i wr => ∃ k : Nat, k ≤ 3 ∧ i = .int .i64 k ∧ wr.ownsRow w.heap.size 44 2 x (flat (V.take k)).length (sc (flat (V.take k))) ∧ Below w.heap.size w wr) (fun _ i _ => 3 - (intOf i).toNat)
      case atStart => exact ⟨0, by omega, rfl, by simpa [flat] using ho, hb⟩
      case round =>
        obtain ⟨k, hk, rfl, ho, hb⟩ := hrel
        have hk' : (k : Int) ≤ 3 := by omega
        by_cases hlt : k < 3
        · have hlt' : (k : Int) < 3 := by omega
          obtain ⟨p, hp⟩ : ∃ p, V[k]? = some p := ⟨V[k], List.getElem?_eq_getElem (by omega)⟩
          obtain ⟨hc, hr⟩ := H.out.below hb k p hp
          have hf := flat_take hp
          have hf2 : (flat (V.take (k + 1))).length = (flat (V.take k)).length + p.2.length := by rw [hf]; simp
          have hle := flat_le V (k + 1)
          rw [hf2] at hle
          have HF := Lib.hid hf
          have HF2 := Lib.hid hf2
          have hsz := hb.size
          clear hf hf2 hp
          generalize flat (V.take k) = A at *
          go_wp2_with (at_builtin; refine wpList_append_spans 44 (.tmp 31) (.tmp 32) 24 rfl rfl info44 Try.underlying24 w.heap.size _ A.length A rfl ho _ p.2 rfl hr (by omega) hsz ?_; intro v5 w5 hown5 hb5 _)
          go_roundw
          case rel => exact ⟨k + 1, by omega, by go_num, by rw [HF2.out, HF.out]; exact hown5, hb.trans hb5⟩
          case measure => simp [intOf]; omega
        · obtain rfl : k = 3 := by omega
          have e3 : V.take 3 = V := List.take_of_length_le (by omega)
          rw [e3] at ho
          clear e3
          go_wp2_with fail
          go_ret
          exact ⟨_, rfl, ho, hb⟩
end Go.Proofs.Ytnfednhleedljaa
