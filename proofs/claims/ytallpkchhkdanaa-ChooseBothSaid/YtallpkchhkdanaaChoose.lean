/- choose: lists of versions; what is the first of one that is among another. -/
import Derived.Test.YtallpkchhkdanaaKit
import Derived.Test.YtallpkchhkdanaaChecked
import Derived.Deep.RegionHeld3
import Derived.Deep.RegionWith
import Derived.Deep.QuietTactic
import Derived.BigQuiet
import Derived.IntWalk
import Derived.Outline
namespace Go.Proofs.Ytallpkchhkdanaa
open Go Go.RowKit

def inB (l : List Int) (n : Int) : Bool := decide (n ∈ l)
/-- The first of l that is among m: it, and whether there is one. -/
def fstI (l m : List Int) : Int := (l.find? (inB m)).getD 0
def fstB (l m : List Int) : Bool := (l.find? (inB m)).isSome
theorem fst_nil (m : List Int) : fstI [] m = 0 ∧ fstB [] m = false := ⟨rfl, rfl⟩
theorem ret_b {a b : Bool} (h : a = b) : Ending.returned (.bool a) = .returned (.bool b) := by rw [h]
theorem getD_mem {l : List Int} {k : Nat} (h : k < l.length) : l.getD k 0 ∈ l := by
  have : l.getD k 0 = l[k] := by simp [h]
  rw [this]; exact List.getElem_mem h
/-- None of the first k holds. -/
def NoneB (p : Int → Bool) (l : List Int) (k : Nat) : Prop := ∀ x ∈ l.take k, p x = false
theorem NoneB.zero (p : Int → Bool) (l : List Int) : NoneB p l 0 := fun x h => by simp at h
theorem NoneB.succ {p : Int → Bool} {l : List Int} {k : Nat} (h : NoneB p l k) (hk : k < l.length) (hx : p (l.getD k 0) = false) : NoneB p l (k + 1) := by
  intro x hm
  rw [List.take_succ_eq_append_getElem hk, List.mem_append] at hm
  rcases hm with hm | hm
  · exact h x hm
  · have : l.getD k 0 = l[k] := by simp [hk]
    rw [List.mem_singleton] at hm; rw [hm, ← this]; exact hx
theorem NoneB.all {p : Int → Bool} {l : List Int} (h : NoneB p l l.length) : l.find? p = none := by
  rw [List.find?_eq_none]
  intro x hx
  rw [h x (by simpa using hx)]; simp
theorem NoneB.find {p : Int → Bool} {l : List Int} {k : Nat} (h : NoneB p l k) (hk : k < l.length) (hx : p (l.getD k 0) = true) : l.find? p = some (l.getD k 0) := by
  have e : l.getD k 0 = l[k] := by simp [hk]
  have hs : l = l.take k ++ l[k] :: l.drop (k + 1) := by
    rw [List.getElem_cons_drop]; exact (List.take_append_drop k l).symm
  rw [e] at hx ⊢
  have hn : (l.take k).find? p = none := by
    rw [List.find?_eq_none]; intro x hm; rw [h x hm]; simp
  calc l.find? p = (l.take k ++ l[k] :: l.drop (k + 1)).find? p := by rw [← hs]
    _ = some l[k] := by rw [List.find?_append, hn, List.find?_cons, hx]; rfl
theorem eq_none {n : Int} {l : List Int} (h : NoneB (fun x => decide (n = x)) l l.length) : inB l n = false := by
  unfold inB
  rw [decide_eq_false_iff_not]
  intro hm
  have := h n (by simpa using hm)
  simp at this

set_option maxRecDepth 20000 in
set_option maxHeartbeats 1000000 in
theorem index_some {w : World} {b off cap : Nat} {vs : List Int} {n : Int} (hcell : ∀ j, j < vs.length → w.cell? ⟨b, off + j, none⟩ = some (.int .i64 (vs.getD j 0))) (hl : vs.length ≤ 100000) :
    Calls Try.prog 29 #[.slice (some ⟨b, off, none⟩) vs.length cap, .int .i64 n] w fun e w' => ∃ r : Int, e = .returned (.int .i64 r) ∧ decide (0 ≤ r) = inB vs n ∧ w = w' := by
  have HC := Lib.hid hcell
  clear hcell
  have hl' : (vs.length : Int) ≤ 100000 := by omega
  go_enter Try.func29, Try.ntmps29
  go_wp2_with fail
  go_loop [8] (fun i => ∃ k : Nat, k ≤ vs.length ∧ i = .int .i64 k ∧ NoneB (fun x => decide (n = x)) vs k) (fun i => vs.length - (intOf i).toNat)
  case atStart => exact ⟨0, by omega, rfl, NoneB.zero _ _⟩
  case round =>
    obtain ⟨k, hk, rfl, ha⟩ := hrel
    have hk' : (k : Int) ≤ (vs.length : Int) := by omega
    by_cases hlt : k < vs.length
    · have hlt' : (k : Int) < (vs.length : Int) := by omega
      have hx := HC.out k hlt
      have HT := Lib.hid (fun hx => ha.succ hlt hx)
      have HM := Lib.hid (getD_mem hlt)
      clear ha
      generalize vs.getD k 0 = x at hx HT HM
      by_cases hv : n = x
      · subst hv
        have HV : Hid (inB vs n = true) := Lib.hid (by unfold inB; exact decide_eq_true HM.out)
        go_wp2_with fail
        go_ret
        exact ⟨_, rfl, by rw [HV.out]; simp, rfl⟩
      · have HV : Hid (decide (n = x) = false) := Lib.hid (decide_eq_false hv)
        have hv' : (n == x) = false := beq_eq_false_iff_ne.2 hv
        clear hv
        go_wp2_with fail
        go_round
        case rel => exact ⟨k + 1, by omega, by go_num, HT.out HV.out⟩
        case measure => simp [intOf]; omega
    · obtain rfl : k = vs.length := by omega
      have HA := Lib.hid (eq_none ha)
      clear ha
      go_wp2_with fail
      go_ret
      exact ⟨_, rfl, by rw [HA.out]; rfl, rfl⟩
theorem index_nil {w : World} {ao : Option Addr} {cap : Nat} {n : Int} : Calls Try.prog 29 #[.slice ao 0 cap, .int .i64 n] w fun e w' => ∃ r : Int, e = .returned (.int .i64 r) ∧ decide (0 ≤ r) = inB [] n ∧ w = w' := by
  go_enter Try.func29, Try.ntmps29
  go_wp2_with fail
  go_loop [8] (fun i => i = .int .i64 0) (fun _ => 0)
  case atStart => rfl
  case round =>
    subst hrel
    go_wp2_with fail
    go_ret
    exact ⟨_, rfl, by simp [inB], rfl⟩
theorem contains_any {w : World} {v : Value} {vs : List Int} {n : Int} (h : Rd .i64 w v vs) (hl : vs.length ≤ 100000) : Calls Try.prog 27 #[v, .int .i64 n] w fun e w' => e = .returned (.bool (inB vs n)) ∧ w = w' := by
  have hi : Calls Try.prog 29 #[v, .int .i64 n] w fun e w' => ∃ r : Int, e = .returned (.int .i64 r) ∧ decide (0 ≤ r) = inB vs n ∧ w = w' := by
    rcases h.cases with ⟨rfl, ao, cap, rfl, _⟩ | ⟨b, off, cap, rfl, _, _, _, _, h5⟩
    · exact index_nil
    · exact index_some h5 hl
  generalize (inB vs n) = c at hi
  clear h
  go_enter Try.func27, Try.ntmps27
  go_wp2_with fail
  refine hi.mono ?_
  rintro e w' ⟨r, rfl, hr, rfl⟩
  have HR := Lib.hid hr
  clear hr hi
  go_wp2_with fail
  go_ret
  exact ⟨ret_b HR.out, rfl⟩

/-- What asks whether a version is in a list: the list lies in the box at B. -/
abbrev amF (B : Nat) : Value := .func (.func 26) #[] #[.pointer (some ⟨B, 0, none⟩)]
theorem among_any (w : World) (v : Value) (hv : ∃ ao n cap, v = .slice ao n cap) : Calls Try.prog 24 #[v] w fun e w' => e = .returned (amF w.heap.size) ∧ w' = w.alloc (.cells #[v] 44) := by
  obtain ⟨ao, n, cap, rfl⟩ := hv
  go_enter Try.func24, Try.ntmps24
  go_wp2_with fail
  go_ret
  exact ⟨rfl, rfl⟩
theorem am_any {w : World} {B : Nat} {v : Value} {vs : List Int} (hB : w.heap[B]? = some (.cells #[v] 44 (0, 0))) (h : Rd .i64 w v vs) (hl : vs.length ≤ 100000) (n : Int) :
    Calls Try.prog 26 #[.int .i64 n, .pointer (some ⟨B, 0, none⟩)] w fun e w' => e = .returned (.bool (inB vs n)) ∧ w = w' := by
  have hc := contains_any (n := n) h hl
  have c0 : w.cell? ⟨B, 0, none⟩ = some v := (cell_of_row _ B 0 _ _ (0, 0) hB).trans rfl
  obtain ⟨ao, cap, rfl, _⟩ := h
  clear hB
  generalize inB vs n = c at hc
  go_enter Try.func26, Try.ntmps26
  go_wp2_with fail
  refine hc.mono ?_
  rintro e w' ⟨rfl, rfl⟩
  go_wp2_with fail
  go_ret
  exact ⟨rfl, rfl⟩
/-- How the place of the first is told. -/
def Found (vs ms : List Int) (e : Ending) : Prop := (∃ k : Nat, k < vs.length ∧ e = .returned (.int .i64 k) ∧ vs.find? (inB ms) = some (vs.getD k 0)) ∨ e = .returned (.int .i64 (-1)) ∧ vs.find? (inB ms) = none
set_option maxRecDepth 20000 in
set_option maxHeartbeats 1000000 in
/-- The place of the first that is among the others, or -1. -/
theorem indexf_some {w : World} {b off cap B : Nat} {vs ms : List Int} {m : Value} (hcell : ∀ j, j < vs.length → w.cell? ⟨b, off + j, none⟩ = some (.int .i64 (vs.getD j 0))) (hl : vs.length ≤ 100000)
    (hB : w.heap[B]? = some (.cells #[m] 44 (0, 0))) (hm : Rd .i64 w m ms) (hml : ms.length ≤ 100000) :
    Calls Try.prog 28 #[.slice (some ⟨b, off, none⟩) vs.length cap, amF B] w fun e w' => Found vs ms e ∧ w = w' := by
  have HC := Lib.hid hcell
  have HA := Lib.hid (fun n => am_any hB hm hml n)
  clear hcell hB hm
  have hl' : (vs.length : Int) ≤ 100000 := by omega
  go_enter Try.func28, Try.ntmps28
  go_wp2_with fail
  go_loop [8] (fun i => ∃ k : Nat, k ≤ vs.length ∧ i = .int .i64 k ∧ NoneB (inB ms) vs k) (fun i => vs.length - (intOf i).toNat)
  case atStart => exact ⟨0, by omega, rfl, NoneB.zero _ _⟩
  case round =>
    obtain ⟨k, hk, rfl, ha⟩ := hrel
    have hk' : (k : Int) ≤ (vs.length : Int) := by omega
    by_cases hlt : k < vs.length
    · have hlt' : (k : Int) < (vs.length : Int) := by omega
      have hx := HC.out k hlt
      have HT := Lib.hid (fun hx => ha.succ hlt hx)
      have HF := Lib.hid (fun hx => ha.find hlt hx)
      clear ha
      obtain ⟨x, hxe⟩ : ∃ x, vs.getD k 0 = x := ⟨_, rfl⟩
      have HX := Lib.hid hxe
      rw [hxe] at hx HT HF
      clear hxe
      have hn := HA.out x
      cases hv : inB ms x with
      | true =>
        have HV := Lib.hid (HF.out hv)
        rw [hv] at hn
        clear hv HF HT
        go_wp2_with (go_at_call 26; refine hn.mono ?_; rintro e w' ⟨rfl, rfl⟩)
        go_ret
        exact ⟨Or.inl ⟨k, hlt, rfl, by rw [HX.out]; exact HV.out⟩, rfl⟩
      | false =>
        have HV := Lib.hid (HT.out hv)
        rw [hv] at hn
        clear hv HF HT
        go_wp2_with (go_at_call 26; refine hn.mono ?_; rintro e w' ⟨rfl, rfl⟩)
        go_round
        case rel => exact ⟨k + 1, by omega, by go_num, HV.out⟩
        case measure => simp [intOf]; omega
    · obtain rfl : k = vs.length := by omega
      have HN := Lib.hid ha.all
      clear ha
      go_wp2_with fail
      go_ret
      exact ⟨Or.inr ⟨rfl, HN.out⟩, rfl⟩
theorem indexf_nil {w : World} {ao : Option Addr} {cap B : Nat} {ms : List Int} : Calls Try.prog 28 #[.slice ao 0 cap, amF B] w fun e w' => Found [] ms e ∧ w = w' := by
  go_enter Try.func28, Try.ntmps28
  go_wp2_with fail
  go_loop [8] (fun i => i = .int .i64 0) (fun _ => 0)
  case atStart => rfl
  case round =>
    subst hrel
    go_wp2_with fail
    go_ret
    exact ⟨Or.inr ⟨rfl, rfl⟩, rfl⟩
theorem indexf_any {w : World} {B : Nat} {v m : Value} {vs ms : List Int} (h : Rd .i64 w v vs) (hl : vs.length ≤ 100000)
    (hB : w.heap[B]? = some (.cells #[m] 44 (0, 0))) (hm : Rd .i64 w m ms) (hml : ms.length ≤ 100000) :
    Calls Try.prog 28 #[v, amF B] w fun e w' => Found vs ms e ∧ w = w' := by
  rcases h.cases with ⟨rfl, ao, cap, rfl, _⟩ | ⟨b, off, cap, rfl, _, _, _, _, h5⟩
  · exact indexf_nil
  · exact indexf_some h5 hl hB hm hml
set_option maxHeartbeats 1000000 in
theorem first_any {w : World} {B : Nat} {v m : Value} {vs ms : List Int} (h : Rd .i64 w v vs) (hl : vs.length ≤ 100000)
    (hB : w.heap[B]? = some (.cells #[m] 44 (0, 0))) (hm : Rd .i64 w m ms) (hml : ms.length ≤ 100000) :
    Calls Try.prog 25 #[v, amF B] w fun e w' => e = .returned (.tuple #[.int .i64 (fstI vs ms), .bool (fstB vs ms)]) ∧ w = w' := by
  have hi := indexf_any h hl hB hm hml
  have hc := h.cases
  clear hB hm h
  unfold fstI fstB
  unfold Found at hi
  generalize vs.find? (inB ms) = o at hi
  have hl' : (vs.length : Int) ≤ 100000 := by omega
  rcases hc with ⟨rfl, ao, cap, rfl, _⟩ | ⟨b, off, cap, rfl, _, _, _, _, h5⟩
  · have HI := Lib.hid hi
    clear hi
    go_enter Try.func25, Try.ntmps25
    go_wp2_with fail
    refine HI.out.mono ?_
    rintro e w' ⟨⟨k, hk, _⟩ | ⟨rfl, ho⟩, rfl⟩
    · simp at hk
    · subst ho
      go_wp2_with fail
      go_ret2
      exact ⟨rfl, rfl⟩
  · have HI := Lib.hid hi
    have HC := Lib.hid h5
    clear hi h5
    go_enter Try.func25, Try.ntmps25
    go_wp2_with fail
    refine HI.out.mono ?_
    rintro e w' ⟨⟨k, hk, rfl, ho⟩ | ⟨rfl, ho⟩, rfl⟩
    · subst ho
      have hx := HC.out k hk
      have hk' : (k : Int) < vs.length := by omega
      obtain ⟨x, hxe⟩ : ∃ x, vs.getD k 0 = x := ⟨_, rfl⟩
      rw [hxe] at hx
      have HX := Lib.hid hxe
      clear hxe
      go_wp2_with fail
      go_ret2
      exact ⟨by rw [HX.out]; rfl, rfl⟩
    · subst ho
      go_wp2_with fail
      go_ret2
      exact ⟨rfl, rfl⟩

theorem amF_box (w : World) (v : Value) : (w.alloc (.cells #[v] 44)).heap[w.heap.size]? = some (.cells #[v] 44 (0, 0)) := heap_alloc_new _ _
set_option maxHeartbeats 1000000 in
theorem pick_any {w : World} {v m : Value} {vs ms : List Int} (h : Rd .i64 w v vs) (hl : vs.length ≤ 100000) (hm : Rd .i64 w m ms) (hml : ms.length ≤ 100000) :
    Calls Try.prog 19 #[v, m] w fun e w' => e = .returned (.int .i64 (fstI vs ms)) ∧ Below w.heap.size w w' := by
  have ha := among_any w m (by obtain ⟨ao, cap, rfl, _⟩ := hm; exact ⟨_, _, _, rfl⟩)
  have hf := first_any (h.alloc _) hl (amF_box w m) (hm.alloc _) hml
  have hb := below_alloc w (.cells #[m] 44)
  have hv := h
  obtain ⟨ao, cap, rfl, _⟩ := hv
  have hv := hm
  obtain ⟨ao', cap', rfl, _⟩ := hv
  have HB := Lib.hid hb
  clear h hm hb
  generalize fstI vs ms = x at *
  generalize fstB vs ms = y at *
  go_enter Try.func19, Try.ntmps19
  go_wp2_with (first
    | (go_at_call 24; refine ha.mono ?_; rintro e w' ⟨rfl, rfl⟩)
    | (go_at_call 25; refine hf.mono ?_; rintro e w' ⟨rfl, rfl⟩))
  go_ret
  exact ⟨rfl, HB.out⟩
/-- React: what is tried next, an error's number. -/
def reactN (told offered : List Int) (used : Int) : Int := if inB told used then 0 else fstI offered told
def reactE (told offered : List Int) (used : Int) : Int := if inB told used then 12 else if fstB offered told then 0 else 13
theorem fst_none {l m : List Int} (h : fstB l m = false) : fstI l m = 0 := by
  unfold fstB at h; unfold fstI
  cases hf : l.find? (inB m) with
  | none => rfl
  | some x => rw [hf] at h; cases h
set_option maxHeartbeats 1000000 in
theorem react_any {w : World} {v m : Value} {vs ms : List Int} (h : Rd .i64 w v vs) (hl : vs.length ≤ 100000) (hm : Rd .i64 w m ms) (hml : ms.length ≤ 100000) (n : Int) :
    Calls Try.prog 16 #[m, v, .int .i64 n] w fun e w' => e = .returned (.tuple #[.int .i64 (reactN ms vs n), .int .i64 (reactE ms vs n)]) ∧ Below w.heap.size w w' := by
  have ha := among_any w m (by obtain ⟨ao, cap, rfl, _⟩ := hm; exact ⟨_, _, _, rfl⟩)
  have hf := first_any (h.alloc _) hl (amF_box w m) (hm.alloc _) hml
  have hq := am_any (amF_box w m) (hm.alloc _) hml n
  have hb := below_alloc w (.cells #[m] 44)
  have hv := h
  obtain ⟨ao, cap, rfl, _⟩ := hv
  have hv := hm
  obtain ⟨ao', cap', rfl, _⟩ := hv
  have HB := Lib.hid hb
  have HN := Lib.hid (@fst_none vs ms)
  unfold reactN reactE
  clear h hm hb
  generalize fstI vs ms = x at *
  generalize fstB vs ms = y at *
  generalize inB ms n = q at *
  cases q
  · cases y
    · obtain rfl := HN.out rfl
      go_enter Try.func16, Try.ntmps16
      go_wp2_with (first
        | (go_at_call 24; refine ha.mono ?_; rintro e w' ⟨rfl, rfl⟩)
        | (go_at_call 26; refine hq.mono ?_; rintro e w' ⟨rfl, rfl⟩)
        | (go_at_call 25; refine hf.mono ?_; rintro e w' ⟨rfl, rfl⟩))
      go_ret2
      exact ⟨rfl, HB.out⟩
    · go_enter Try.func16, Try.ntmps16
      go_wp2_with (first
        | (go_at_call 24; refine ha.mono ?_; rintro e w' ⟨rfl, rfl⟩)
        | (go_at_call 26; refine hq.mono ?_; rintro e w' ⟨rfl, rfl⟩)
        | (go_at_call 25; refine hf.mono ?_; rintro e w' ⟨rfl, rfl⟩))
      go_ret2
      exact ⟨rfl, HB.out⟩
  · go_enter Try.func16, Try.ntmps16
    go_wp2_with (first
      | (go_at_call 24; refine ha.mono ?_; rintro e w' ⟨rfl, rfl⟩)
      | (go_at_call 26; refine hq.mono ?_; rintro e w' ⟨rfl, rfl⟩))
    go_ret2
    exact ⟨rfl, HB.out⟩
/-- Verify: an error's number. -/
def verE (p n : Int) : Int := if n = 0 ∨ n ≠ p then 13 else 0
set_option maxHeartbeats 1000000 in
theorem verify_any {w : World} {v m : Value} {vs ms : List Int} (h : Rd .i64 w v vs) (hl : vs.length ≤ 100000) (hm : Rd .i64 w m ms) (hml : ms.length ≤ 100000) (n : Int) :
    Calls Try.prog 18 #[m, v, .int .i64 n] w fun e w' => e = .returned (.int .i64 (verE (fstI vs ms) n)) ∧ Below w.heap.size w w' := by
  have hp := pick_any h hl hm hml
  obtain ⟨ao, cap, rfl, _⟩ := h
  obtain ⟨ao', cap', rfl, _⟩ := hm
  generalize fstI vs ms = x at *
  unfold verE
  by_cases h0 : n = 0
  · subst h0
    rw [if_pos (Or.inl rfl)]
    go_enter Try.func18, Try.ntmps18
    go_wp2_with fail
    go_ret
    exact ⟨rfl, Below.refl _ _⟩
  · have h0' : (n == 0) = false := beq_eq_false_iff_ne.2 h0
    by_cases h1 : n = x
    · rw [if_neg (by rintro (h | h); exact h0 h; exact h h1)]
      subst h1
      have h1' : (n != n) = false := by simp
      clear h0
      go_enter Try.func18, Try.ntmps18
      go_wp2_with (go_at_call 19; refine hp.mono ?_; rintro e w' ⟨rfl, hb⟩)
      go_ret
      exact ⟨rfl, hb⟩
    · rw [if_pos (Or.inr h1)]
      have h1' : (n != x) = true := by simpa using h1
      clear h0 h1
      go_enter Try.func18, Try.ntmps18
      go_wp2_with (go_at_call 19; refine hp.mono ?_; rintro e w' ⟨rfl, hb⟩)
      go_ret
      exact ⟨rfl, hb⟩
end Go.Proofs.Ytallpkchhkdanaa
