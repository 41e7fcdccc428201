/- Right: of the program, of the document. -/
import Derived.Test.YtefcjggmlhoebaaDoorHv
import Derived.Deep.QuietTactic
import Derived.BigQuiet
import Derived.Outline
import Derived.Test.YtefcjggmlhoebaaDoorVal
import Derived.Laws.BytesArg
import Derived.Test.YtefcjggmlhoebaaDoorHApp
import Derived.Test.YtefcjggmlhoebaaDoorInv
namespace Go.Proofs.YtefcjggmlhoebaaDoor
open Go Go.RowKit
theorem below_drewNP (w : World) : ∀ n, Below w.heap.size w (w.drewN n)
  | 0 => Below.refl _ _
  | n + 1 => (below_drewNP w n).drew
theorem Rd.cellAt {w : World} {ao : Option Addr} {cap : Nat} {zs : List Int} (h : Rd w (.slice ao zs.length cap) zs) {j : Nat} (hj : j < zs.length) : ∃ b off, ao = some ⟨b, off, none⟩ ∧ w.cell? ⟨b, off + j, none⟩ = some (.int .u8 (zs.getD j 0)) := by
  obtain ⟨a2, c2, h1, h2, h3, h4, h5, h6⟩ := h
  simp only [Value.slice.injEq] at h1
  obtain ⟨rfl, _, rfl⟩ := h1
  cases ao with
  | none => have := h4 rfl; omega
  | some a =>
    obtain ⟨b, off, spot⟩ := a
    have h0 := h6 _ rfl 0 (by omega)
    have hs : spot = none := by simpa [Addr.add] using World.cell?_spot h0
    subst hs
    have := h6 _ rfl j hj
    rw [Addr.add_lit] at this
    exact ⟨b, off, rfl, this⟩
end Go.Proofs.YtefcjggmlhoebaaDoor
namespace Go.Proofs.YtefcjggmlhoebaaDoor
open Go Go.RowKit

/-- The value is a slice that reads as these numbers. -/
def Ri (w : World) (v : Value) (zs : List Int) : Prop :=
  ∃ (ao : Option Addr) (cap : Nat), v = .slice ao zs.length cap ∧ zs.length ≤ cap ∧ cap ≤ maxLen ∧ (ao = none → cap = 0) ∧
    (∀ a, ao = some a → ∀ j, j < zs.length → w.cell? (a.add j) = some (.int .i64 (zs.getD j 0)))
theorem Ri.nil (w : World) : Ri w (.slice none 0 0) [] := ⟨none, 0, rfl, by simp, by simp [maxLen], fun _ => rfl, fun a h => by cases h⟩
theorem Ri.below {w w' : World} {v : Value} {zs : List Int} (h : Ri w v zs) (hb : Below w.heap.size w w') : Ri w' v zs := by
  obtain ⟨ao, cap, hv, h1, h2, h3, hc⟩ := h
  refine ⟨ao, cap, hv, h1, h2, h3, fun a ha j hj => ?_⟩
  have := hc a ha j hj
  rw [hb.cell (cell_lt this)]; exact this
theorem Ri.cases {w : World} {v : Value} {zs : List Int} (h : Ri w v zs) :
    (zs = [] ∧ ∃ ao cap, v = .slice ao 0 cap) ∨ ∃ b off cap, v = .slice (some ⟨b, off, none⟩) zs.length cap ∧ 0 < zs.length ∧ b < w.heap.size ∧ ∀ j, j < zs.length → w.cell? ⟨b, off + j, none⟩ = some (.int .i64 (zs.getD j 0)) := by
  obtain ⟨ao, cap, hv, h1, h2, h3, hc⟩ := h
  by_cases hz : zs = []
  · subst hz; exact .inl ⟨rfl, ao, cap, hv⟩
  · have hl : 0 < zs.length := List.length_pos_iff.2 hz
    cases ao with
    | none => have := h3 rfl; omega
    | some a =>
      obtain ⟨b, off, spot⟩ := a
      have h0 := hc _ rfl 0 hl
      have hs : spot = none := by simpa [Addr.add] using World.cell?_spot h0
      subst hs
      refine .inr ⟨b, off, cap, hv, hl, cell_lt (by simpa [Addr.add] using h0), fun j hj => ?_⟩
      have := hc _ rfl j hj
      rwa [Addr.add_lit] at this

theorem Ri.shape {w : World} {v : Value} {zs : List Int} (h : Ri w v zs) : ∃ ao cap, v = .slice ao zs.length cap := by
  obtain ⟨ao, cap, hv, _⟩ := h
  exact ⟨ao, cap, hv⟩
theorem Ri.cellAt {w : World} {ao : Option Addr} {cap : Nat} {zs : List Int} (h : Ri w (.slice ao zs.length cap) zs) {j : Nat} (hj : j < zs.length) : ∃ b off, ao = some ⟨b, off, none⟩ ∧ w.cell? ⟨b, off + j, none⟩ = some (.int .i64 (zs.getD j 0)) := by
  obtain ⟨a2, c2, h1, h2, h3, h4, h6⟩ := h
  simp only [Value.slice.injEq] at h1
  obtain ⟨rfl, _, rfl⟩ := h1
  cases ao with
  | none => have := h4 rfl; omega
  | some a =>
    obtain ⟨b, off, spot⟩ := a
    have h0 := h6 _ rfl 0 (by omega)
    have hs : spot = none := by simpa [Addr.add] using World.cell?_spot h0
    subst hs
    have := h6 _ rfl j hj
    rw [Addr.add_lit] at this
    exact ⟨b, off, rfl, this⟩
end Go.Proofs.YtefcjggmlhoebaaDoor
namespace Go.Proofs.YtefcjggmlhoebaaDoor
open Go Go.RowKit
theorem Rd.shape3P {w : World} {v : Value} {zs : List Int} (h : Rd w v zs) : ∃ ao n cap, v = .slice ao n cap := by
  obtain ⟨ao, cap, hv, _⟩ := h
  exact ⟨ao, _, cap, hv⟩

theorem str_conv {w : World} {v : Value} {zs : List Int} (h : Rd w v zs) : (convert 22 9 v).run Tryd.prog w = .ok (.string (strOfNums zs)) w := by
  rcases h.cases with ⟨rfl, a, c, rfl, _⟩ | ⟨b, off, cap, rfl, hp, hlc, hcm, hbl, hcell⟩
  · cases a with
    | none => exact run_convert_bytes_nil w 22 5 Tryd.underlying22 Tryd.underlying5 0 c 9 Tryd.underlying9
    | some ad =>
      rw [run_convert_bytes_string w 22 9 5 _ 0 c Tryd.underlying22 Tryd.underlying5 Tryd.underlying9]
      exact run_bytesToString w ad 0 c [] (by simp [loadCells, loadCellsFrom])
  · exact run_convert_bytes_arg w 22 5 Tryd.underlying22 Tryd.underlying5 b off zs.length cap zs rfl (fun i hi => hcell i hi) 9 Tryd.underlying9
theorem str_inj {xs ys : List Int} (hx : Byt xs) (hy : Byt ys) : ((strOfNums xs).toList == (strOfNums ys).toList) = decide (xs = ys) := by
  have key : ∀ (xs ys : List Int), Byt xs → Byt ys → xs.map (fun n => UInt8.ofNat n.toNat) = ys.map (fun n => UInt8.ofNat n.toNat) → xs = ys := by
    intro xs
    induction xs with
    | nil => intro ys _ _ h; cases ys with
      | nil => rfl
      | cons y ys => simp at h
    | cons x xs ih => intro ys hx hy h; cases ys with
      | nil => simp at h
      | cons y ys =>
        simp only [List.map_cons, List.cons.injEq] at h
        have h1 := hx x List.mem_cons_self
        have h2 := hy y List.mem_cons_self
        have e := congrArg UInt8.toNat h.1
        simp only [UInt8.toNat_ofNat'] at e
        have e1 : x = y := by omega
        rw [e1, ih ys (fun z hz => hx z (List.mem_cons_of_mem _ hz)) (fun z hz => hy z (List.mem_cons_of_mem _ hz)) h.2]
  rw [ByteArray.toList_eq, ByteArray.toList_eq]
  simp only [strOfNums]
  by_cases e : xs = ys
  · subst e; simp
  · rw [decide_eq_false e, beq_eq_false_iff_ne]
    intro h
    exact e (key xs ys hx hy (by simpa using h))
end Go.Proofs.YtefcjggmlhoebaaDoor
namespace Go.Proofs.YtefcjggmlhoebaaDoor
open Go Go.RowKit

/-- Params, their rows told by what they read. -/
structure Pv where
  i : Int
  d : Int
  hg : Bool
  ho : Bool
  hr : Bool
  g : List Int
  o : List Int
  r : List Int
  c : Int
  l : List Int
/-- The four rows read as the params'. -/
structure Pr (w : World) (p : Pv) (v5 v6 v7 v9 : Value) : Prop where
  g : Rd w v5 p.g
  o : Rd w v6 p.o
  r : Rd w v7 p.r
  l : Ri w v9 p.l
theorem Pr.below {w w' : World} {p : Pv} {v5 v6 v7 v9 : Value} (h : Pr w p v5 v6 v7 v9) (hb : Below w.heap.size w w') : Pr w' p v5 v6 v7 v9 := ⟨h.g.below hb, h.o.below hb, h.r.below hb, h.l.below hb⟩
theorem Ri.len {w : World} {v : Value} {zs : List Int} (h : Ri w v zs) : zs.length ≤ 9223372036854775807 := by
  obtain ⟨_, _, _, q1, q2, _⟩ := h
  unfold maxLen at q2
  omega
theorem ret_bool {a b : Bool} (h : a = b) : Ending.returned (.bool a) = .returned (.bool b) := by rw [h]
def plightB (p : Pv) : Bool := decide (p.g.length ≤ 50) && decide (p.o.length ≤ 50) && decide (p.r.length ≤ 50) && decide (p.l.length ≤ 30)
end Go.Proofs.YtefcjggmlhoebaaDoor
namespace Go.Proofs.YtefcjggmlhoebaaDoor
open Go Go.RowKit

set_option maxRecDepth 20000 in
set_option maxHeartbeats 1000000 in
theorem fits_any (w : World) (n : Int) (k : Nat) (h1 : 1 ≤ k) (h4 : k ≤ 4) : Calls Tryd.prog 57 #[.int .i64 n, .int .i64 (k : Int)] w fun e w' => e = .returned (.bool (fitsB n (k : Int))) ∧ w = w' := by
  have h : k = 1 ∨ k = 2 ∨ k = 3 ∨ k = 4 := by omega
  clear h1 h4
  by_cases h0 : 0 ≤ n
  · rcases h with rfl | rfl | rfl | rfl
    · by_cases hn : n < 256
      all_goals
        go_enter Tryd.func57, Tryd.ntmps57
        go_wp2
        go_ret
        exact ⟨ret_bool (by simp [fitsB, h0, hn]), rfl⟩
    · by_cases hn : n < 65536
      all_goals
        go_enter Tryd.func57, Tryd.ntmps57
        go_wp2
        go_ret
        exact ⟨ret_bool (by simp [fitsB, h0, hn]), rfl⟩
    · by_cases hn : n < 16777216
      all_goals
        go_enter Tryd.func57, Tryd.ntmps57
        go_wp2
        go_ret
        exact ⟨ret_bool (by simp [fitsB, h0, hn]), rfl⟩
    · by_cases hn : n < 4294967296
      all_goals
        go_enter Tryd.func57, Tryd.ntmps57
        go_wp2
        go_ret
        exact ⟨ret_bool (by simp [fitsB, h0, hn]), rfl⟩
  · have HE : Hid (fitsB n (k : Int) = false) := Lib.hid (by simp [fitsB, h0])
    go_enter Tryd.func57, Tryd.ntmps57
    go_wp2
    go_ret
    exact ⟨ret_bool HE.out.symm, rfl⟩

set_option maxRecDepth 20000 in
set_option maxHeartbeats 1000000 in
theorem isver_any (w : World) (n : Int) : Calls Tryd.prog 28 #[.int .i64 n] w fun e w' => e = .returned (.bool (decide (0 < n) && decide (n < 4294967296))) ∧ w = w' := by
  have hf := fits_any w n 4 (by decide) (by decide)
  by_cases h0 : 0 < n
  · have HE : Hid ((decide (0 < n) && decide (n < 4294967296)) = fitsB n ((4 : Nat) : Int)) := Lib.hid (by simp [fitsB, h0]; omega)
    generalize fitsB n ((4 : Nat) : Int) = X at *
    go_enter Tryd.func28, Tryd.ntmps28
    go_wp2_with (go_at_call 57; refine hf.mono ?_; rintro e w' ⟨rfl, rfl⟩)
    go_ret
    exact ⟨ret_bool HE.out.symm, rfl⟩
  · have HE : Hid ((decide (0 < n) && decide (n < 4294967296)) = false) := Lib.hid (by simp [h0])
    clear hf
    go_enter Tryd.func28, Tryd.ntmps28
    go_wp2_with fail
    go_ret
    exact ⟨ret_bool HE.out.symm, rfl⟩


def verB (n : Int) : Bool := decide (0 < n) && decide (n < 4294967296)
def inB (l : List Int) (n : Int) : Bool := decide (n ∈ l)
theorem getD_mem {l : List Int} {k : Nat} (h : k < l.length) : l.getD k 0 ∈ l := by
  have : l.getD k 0 = l[k] := by simp [h]
  rw [this]; exact List.getElem_mem h
/-- None of the first k holds. -/
def NoneB (p : Int → Bool) (l : List Int) (k : Nat) : Prop := ∀ x ∈ l.take k, p x = false
theorem NoneB.zero (p : Int → Bool) (l : List Int) : NoneB p l 0 := fun x h => by simp at h
theorem NoneB.succ {p : Int → Bool} {l : List Int} {k : Nat} (h : NoneB p l k) (hk : k < l.length) (hx : p (l.getD k 0) = false) : NoneB p l (k + 1) := by
  intro x hm
  rw [List.take_succ_eq_append_getElem hk, List.mem_append] at hm
  rcases hm with hm | hm
  · exact h x hm
  · have : l.getD k 0 = l[k] := by simp [hk]
    rw [List.mem_singleton] at hm; rw [hm, ← this]; exact hx
theorem eq_none {n : Int} {l : List Int} (h : NoneB (fun x => decide (n = x)) l l.length) : inB l n = false := by
  unfold inB
  rw [decide_eq_false_iff_not]
  intro hm
  have := h n (by simpa using hm)
  simp at this
set_option maxRecDepth 20000 in
set_option maxHeartbeats 1000000 in
theorem index_some {w : World} {b off cap : Nat} {vs : List Int} {n : Int} (hcell : ∀ j, j < vs.length → w.cell? ⟨b, off + j, none⟩ = some (.int .i64 (vs.getD j 0))) (hl : vs.length ≤ 100000) :
    Calls Tryd.prog 107 #[.slice (some ⟨b, off, none⟩) vs.length cap, .int .i64 n] w fun e w' => ∃ r : Int, e = .returned (.int .i64 r) ∧ decide (0 ≤ r) = inB vs n ∧ w = w' := by
  have HC := Lib.hid hcell
  clear hcell
  have hl' : (vs.length : Int) ≤ 100000 := by omega
  go_enter Tryd.func107, Tryd.ntmps107
  go_wp2_with fail
  go_loop [8] (fun i => ∃ k : Nat, k ≤ vs.length ∧ i = .int .i64 k ∧ NoneB (fun x => decide (n = x)) vs k) (fun i => vs.length - (intOf i).toNat)
  case atStart => exact ⟨0, by omega, rfl, NoneB.zero _ _⟩
  case round =>
    obtain ⟨k, hk, rfl, ha⟩ := hrel
    have hk' : (k : Int) ≤ (vs.length : Int) := by omega
    by_cases hlt : k < vs.length
    · have hlt' : (k : Int) < (vs.length : Int) := by omega
      have hx := HC.out k hlt
      have HT := Lib.hid (fun hx => ha.succ hlt hx)
      have HM := Lib.hid (getD_mem hlt)
      clear ha
      generalize vs.getD k 0 = x at hx HT HM
      by_cases hv : n = x
      · subst hv
        have HV : Hid (inB vs n = true) := Lib.hid (by unfold inB; exact decide_eq_true HM.out)
        go_wp2_with fail
        go_ret
        exact ⟨_, rfl, by rw [HV.out]; simp, rfl⟩
      · have HV : Hid (decide (n = x) = false) := Lib.hid (decide_eq_false hv)
        have hv' : (n == x) = false := beq_eq_false_iff_ne.2 hv
        clear hv
        go_wp2_with fail
        go_round
        case rel => exact ⟨k + 1, by omega, by go_num, HT.out HV.out⟩
        case measure => simp [intOf]; omega
    · obtain rfl : k = vs.length := by omega
      have HA := Lib.hid (eq_none ha)
      clear ha
      go_wp2_with fail
      go_ret
      exact ⟨_, rfl, by rw [HA.out]; rfl, rfl⟩
theorem index_nil {w : World} {ao : Option Addr} {cap : Nat} {n : Int} : Calls Tryd.prog 107 #[.slice ao 0 cap, .int .i64 n] w fun e w' => ∃ r : Int, e = .returned (.int .i64 r) ∧ decide (0 ≤ r) = inB [] n ∧ w = w' := by
  go_enter Tryd.func107, Tryd.ntmps107
  go_wp2_with fail
  go_loop [8] (fun i => i = .int .i64 0) (fun _ => 0)
  case atStart => rfl
  case round =>
    subst hrel
    go_wp2_with fail
    go_ret
    exact ⟨_, rfl, by simp [inB], rfl⟩
theorem contains_any {w : World} {v : Value} {vs : List Int} {n : Int} (h : Ri w v vs) (hl : vs.length ≤ 100000) : Calls Tryd.prog 106 #[v, .int .i64 n] w fun e w' => e = .returned (.bool (inB vs n)) ∧ w = w' := by
  have hi : Calls Tryd.prog 107 #[v, .int .i64 n] w fun e w' => ∃ r : Int, e = .returned (.int .i64 r) ∧ decide (0 ≤ r) = inB vs n ∧ w = w' := by
    rcases h.cases with ⟨rfl, ao, cap, rfl⟩ | ⟨b, off, cap, rfl, _, _, h5⟩
    · exact index_nil
    · exact index_some h5 hl
  generalize (inB vs n) = c at hi
  clear h
  go_enter Tryd.func106, Tryd.ntmps106
  go_wp2_with fail
  refine hi.mono ?_
  rintro e w' ⟨r, rfl, hr, rfl⟩
  have HR := Lib.hid hr
  clear hr hi
  go_wp2_with fail
  go_ret
  exact ⟨ret_bool HR.out, rfl⟩

/-- May they be the list? -/
def versB (l : List Int) : Bool := decide (l.length ≤ 16 ∧ (∀ v ∈ l, verB v = true) ∧ l.Nodup)
/-- The first k are right. -/
def Good (l : List Int) (k : Nat) : Prop := (∀ v ∈ l.take k, verB v = true) ∧ (l.take k).Nodup
theorem Good.zero (l : List Int) : Good l 0 := ⟨fun v h => by simp at h, by simp⟩
theorem Good.succ {l : List Int} {k : Nat} (h : Good l k) (hk : k < l.length) (h1 : verB (l.getD k 0) = true) (h2 : inB (l.take k) (l.getD k 0) = false) : Good l (k + 1) := by
  have e : l.getD k 0 = l[k] := by simp [hk]
  unfold Good
  rw [List.take_succ_eq_append_getElem hk, ← e]
  refine ⟨fun v hv => ?_, ?_⟩
  · rcases List.mem_append.1 hv with hv | hv
    · exact h.1 v hv
    · rw [List.mem_singleton.1 hv]; exact h1
  · refine List.nodup_append.2 ⟨h.2, by simp, fun a ha b hb hab => ?_⟩
    rw [List.mem_singleton.1 hb] at hab
    unfold inB at h2
    rw [hab] at ha
    exact absurd ha (of_decide_eq_false h2)
theorem good_all {l : List Int} (hl : l.length ≤ 16) (h : Good l l.length) : versB l = true := by
  unfold Good at h
  rw [List.take_length] at h
  exact decide_eq_true ⟨hl, h⟩
theorem bad_ver {l : List Int} {k : Nat} (hk : k < l.length) (h : verB (l.getD k 0) = false) : versB l = false := by
  unfold versB
  refine decide_eq_false fun hc => ?_
  rw [hc.2.1 _ (getD_mem hk)] at h; cases h
theorem bad_twice {l : List Int} {k : Nat} (hk : k < l.length) (h : inB (l.take k) (l.getD k 0) = true) : versB l = false := by
  unfold versB
  refine decide_eq_false fun hc => ?_
  have e : l.getD k 0 = l[k] := by simp [hk]
  have h2 := hc.2.2
  have hs : l = l.take (k + 1) ++ l.drop (k + 1) := (List.take_append_drop _ _).symm
  rw [hs, List.nodup_append] at h2
  have h3 := h2.1
  rw [List.take_succ_eq_append_getElem hk, List.nodup_append] at h3
  exact h3.2.2 _ (by unfold inB at h; simpa using h) _ (List.mem_singleton.2 rfl) e
set_option maxRecDepth 20000 in
set_option maxHeartbeats 2000000 in
theorem rvers_some {w : World} {b off cap : Nat} {vs : List Int} (hr : Ri w (.slice (some ⟨b, off, none⟩) vs.length cap) vs) (hcell : ∀ j, j < vs.length → w.cell? ⟨b, off + j, none⟩ = some (.int .i64 (vs.getD j 0))) :
    Calls Tryd.prog 102 #[.slice (some ⟨b, off, none⟩) vs.length cap] w fun e w' => e = .returned (.bool (versB vs)) ∧ w = w' := by
  by_cases hl : vs.length ≤ 16
  · have t1 : decide ((16 : Int) < (vs.length : Int)) = false := decide_eq_false (by omega)
    have hcp : vs.length ≤ cap ∧ cap ≤ 9223372036854775807 := by
      obtain ⟨a', c', e, q1, q2, _⟩ := hr
      simp only [Value.slice.injEq, true_and] at e
      obtain ⟨_, rfl⟩ := e
      unfold maxLen at q2; exact ⟨q1, by omega⟩
    have hcp1 := hcp.1
    have hcp2 := hcp.2
    have HC := Lib.hid hcell
    have HL := Lib.hid hl
    have hl' : (vs.length : Int) ≤ 16 := by omega
    have htk : ∀ k, k ≤ vs.length → Ri w (.slice (some ⟨b, off, none⟩) k cap) (vs.take k) := fun k hk =>
      ⟨some ⟨b, off, none⟩, cap, by simp [hk], by simp; omega, by unfold maxLen; omega, (fun h => by cases h), fun a ha j hj => by
        cases ha
        have hj' : j < k := by simp at hj; omega
        rw [Addr.add_lit, hcell j (by omega)]
        simp [List.getD, hj']⟩
    have HTK := Lib.hid htk
    clear hcell hcp hl htk hr
    obtain ⟨q, hq⟩ : ∃ q, versB vs = q := ⟨_, rfl⟩
    have HQ := Lib.hid hq
    rw [hq]
    clear hq
    go_enter Tryd.func102, Tryd.ntmps102
    go_wp2_with fail
    go_loopw [10] (fun i wr => ∃ k : Nat, k ≤ vs.length ∧ i = .int .i64 k ∧ Good vs k ∧ w = wr) (fun i _ => vs.length - (intOf i).toNat)
    case atStart => exact ⟨0, by omega, rfl, Good.zero _, rfl⟩
    case round =>
      obtain ⟨k, hk, rfl, ha, rfl⟩ := hrel
      have hk' : (k : Int) ≤ (vs.length : Int) := by omega
      by_cases hlt : k < vs.length
      · have hlt' : (k : Int) < (vs.length : Int) := by omega
        have hkc : (k : Int) ≤ (cap : Int) := by omega
        have hx := HC.out k hlt
        have HG := Lib.hid (fun h1 h2 => ha.succ hlt h1 h2)
        have HB1 := Lib.hid (fun h => bad_ver (l := vs) hlt h)
        have HB2 := Lib.hid (fun h => bad_twice (l := vs) hlt h)
        clear ha
        generalize vs.getD k 0 = x at hx HG HB1 HB2
        have hv := isver_any w x
        have hc := contains_any (n := x) (HTK.out k hk) (by simp; omega)
        change Calls _ _ _ _ fun e w' => e = .returned (.bool (verB x)) ∧ w = w' at hv
        cases e1 : verB x with
        | false =>
          rw [e1] at hv
          obtain rfl := HQ.out.symm.trans (HB1.out e1)
          clear e1 HG HB1 HB2 hc
          go_wp2_with (go_at_call 28; refine hv.mono ?_; rintro e w' ⟨rfl, rfl⟩)
          go_ret
          exact ⟨rfl, rfl⟩
        | true =>
          rw [e1] at hv
          cases e2 : inB (vs.take k) x with
          | true =>
            rw [e2] at hc
            obtain rfl := HQ.out.symm.trans (HB2.out e2)
            clear e1 e2 HG HB1 HB2
            go_wp2_with (first | (go_at_call 28; refine hv.mono ?_; rintro e w' ⟨rfl, rfl⟩) | (go_at_call 106; refine hc.mono ?_; rintro e w' ⟨rfl, rfl⟩))
            go_ret
            exact ⟨rfl, rfl⟩
          | false =>
            rw [e2] at hc
            have HG2 := Lib.hid (HG.out e1 e2)
            clear e1 e2 HG HB1 HB2
            go_wp2_with (first | (go_at_call 28; refine hv.mono ?_; rintro e w' ⟨rfl, rfl⟩) | (go_at_call 106; refine hc.mono ?_; rintro e w' ⟨rfl, rfl⟩))
            go_roundw
            case rel => exact ⟨k + 1, by omega, by go_num, HG2.out, trivial⟩
            case measure => simp [intOf]; omega
      · obtain rfl : k = vs.length := by omega
        obtain rfl := HQ.out.symm.trans (good_all HL.out ha)
        clear ha
        go_wp2_with fail
        go_ret
        exact ⟨rfl, rfl⟩
  · have t1 : decide ((16 : Int) < (vs.length : Int)) = true := decide_eq_true (by omega)
    have e : versB vs = false := decide_eq_false fun h => hl h.1
    rw [e]
    clear hl hcell hr e
    go_enter Tryd.func102, Tryd.ntmps102
    go_wp2_with fail
    go_ret
    exact ⟨rfl, rfl⟩
theorem rvers_nil {w : World} {ao : Option Addr} {cap : Nat} : Calls Tryd.prog 102 #[.slice ao 0 cap] w fun e w' => e = .returned (.bool (versB [])) ∧ w = w' := by
  rw [show versB [] = true by decide]
  go_enter Tryd.func102, Tryd.ntmps102
  go_wp2_with fail
  go_loop [10] (fun i => i = .int .i64 0) (fun _ => 0)
  case atStart => rfl
  case round =>
    subst hrel
    go_wp2_with fail
    go_ret
    exact ⟨rfl, rfl⟩
theorem rvers_any {w : World} {v : Value} {vs : List Int} (h : Ri w v vs) : Calls Tryd.prog 102 #[v] w fun e w' => e = .returned (.bool (versB vs)) ∧ w = w' := by
  rcases h.cases with ⟨rfl, ao, cap, rfl⟩ | ⟨b, off, cap, rfl, _, _, h5⟩
  · exact rvers_nil
  · exact rvers_some h h5

/-- May it be a name, there or not? -/
def nameB (has : Bool) (n : Nat) : Bool := decide (n = 0) || (has && decide (n ≤ 20))
def numBP (n : Int) : Bool := decide (0 < sz n)
theorem isnum_any (w : World) (n : Int) : Calls Tryd.prog 100 #[.int .i64 n] w fun e w' => e = .returned (.bool (numBP n)) ∧ w = w' := by
  have h := size_any n w
  unfold numBP
  generalize sz n = s at *
  go_enter Tryd.func100, Tryd.ntmps100
  go_wp2_with (go_at_call 29; refine h.mono ?_; rintro e w' ⟨rfl, rfl⟩)
  go_ret
  exact ⟨rfl, rfl⟩
theorem rname_any (w : World) (has : Bool) (ao : Option Addr) (n cap : Nat) : Calls Tryd.prog 101 #[.bool has, .slice ao n cap] w fun e w' => e = .returned (.bool (nameB has n)) ∧ w = w' := by
  unfold nameB
  by_cases h0 : n = 0
  · subst h0
    go_enter Tryd.func101, Tryd.ntmps101
    go_wp2_with fail
    go_ret
    exact ⟨rfl, rfl⟩
  · have t0 : ((n : Int) == 0) = false := beq_eq_false_iff_ne.2 (by omega)
    have t0' : (n == 0) = false := beq_eq_false_iff_ne.2 h0
    rw [decide_eq_false h0]
    cases has
    · clear h0
      go_enter Tryd.func101, Tryd.ntmps101
      go_wp2_with fail
      go_ret
      exact ⟨rfl, rfl⟩
    · by_cases h2 : n ≤ 20
      · have t2 : decide ((n : Int) ≤ 20) = true := decide_eq_true (by omega)
        rw [decide_eq_true h2]
        clear h0
        go_enter Tryd.func101, Tryd.ntmps101
        go_wp2_with fail
        go_ret
        exact ⟨rfl, rfl⟩
      · have t2 : decide ((n : Int) ≤ 20) = false := decide_eq_false (by omega)
        rw [decide_eq_false h2]
        clear h0 h2
        go_enter Tryd.func101, Tryd.ntmps101
        go_wp2_with fail
        go_ret
        exact ⟨rfl, rfl⟩
/-- May they be? -/
def rightP (p : Pv) : Bool := numBP p.i && (numBP p.d && (nameB p.hg p.g.length && (nameB p.ho p.o.length && (nameB p.hr p.r.length && (verB p.c && versB p.l)))))
abbrev pAgg (p : Pv) (v5 v6 v7 v9 : Value) : Value := .agg #[.int .i64 p.i, .int .i64 p.d, .bool p.hg, .bool p.ho, .bool p.hr, v5, v6, v7, .int .i64 p.c, v9]
abbrev pCells (p : Pv) (v5 v6 v7 v9 : Value) : Array Value := #[.int .i64 p.i, .int .i64 p.d, .bool p.hg, .bool p.ho, .bool p.hr, v5, v6, v7, .int .i64 p.c, v9]
set_option maxRecDepth 20000 in
set_option maxHeartbeats 8000000 in
theorem right_any {w : World} {p : Pv} {v5 v6 v7 v9 : Value} (h : Pr w p v5 v6 v7 v9) : Calls Tryd.prog 85 #[pAgg p v5 v6 v7 v9] w fun e w' => e = .returned (.bool (rightP p)) ∧ Below w.heap.size w w' := by
  obtain ⟨a5, k5, rfl⟩ := h.g.shape
  obtain ⟨a6, k6, rfl⟩ := h.o.shape
  obtain ⟨a7, k7, rfl⟩ := h.r.shape
  obtain ⟨a9, k9, rfl⟩ := h.l.shape
  have HB := Lib.hid (below_alloc w (.cells (pCells p (.slice a5 p.g.length k5) (.slice a6 p.o.length k6) (.slice a7 p.r.length k7) (.slice a9 p.l.length k9)) 79))
  have c0 := isnum_any (w.alloc (.cells (pCells p (.slice a5 p.g.length k5) (.slice a6 p.o.length k6) (.slice a7 p.r.length k7) (.slice a9 p.l.length k9)) 79)) p.i
  have c1 := isnum_any (w.alloc (.cells (pCells p (.slice a5 p.g.length k5) (.slice a6 p.o.length k6) (.slice a7 p.r.length k7) (.slice a9 p.l.length k9)) 79)) p.d
  have c2 := rname_any (w.alloc (.cells (pCells p (.slice a5 p.g.length k5) (.slice a6 p.o.length k6) (.slice a7 p.r.length k7) (.slice a9 p.l.length k9)) 79)) p.hg a5 p.g.length k5
  have c3 := rname_any (w.alloc (.cells (pCells p (.slice a5 p.g.length k5) (.slice a6 p.o.length k6) (.slice a7 p.r.length k7) (.slice a9 p.l.length k9)) 79)) p.ho a6 p.o.length k6
  have c4 := rname_any (w.alloc (.cells (pCells p (.slice a5 p.g.length k5) (.slice a6 p.o.length k6) (.slice a7 p.r.length k7) (.slice a9 p.l.length k9)) 79)) p.hr a7 p.r.length k7
  have c5 := isver_any (w.alloc (.cells (pCells p (.slice a5 p.g.length k5) (.slice a6 p.o.length k6) (.slice a7 p.r.length k7) (.slice a9 p.l.length k9)) 79)) p.c
  change Calls _ _ _ _ fun e w' => e = .returned (.bool (verB p.c)) ∧ _ = w' at c5
  have c6 := rvers_any (h.l.below (below_alloc w (.cells (pCells p (.slice a5 p.g.length k5) (.slice a6 p.o.length k6) (.slice a7 p.r.length k7) (.slice a9 p.l.length k9)) 79)))
  unfold rightP
  clear h
  generalize numBP p.i = b0 at *
  generalize numBP p.d = b1 at *
  generalize nameB p.hg p.g.length = b2 at *
  generalize nameB p.ho p.o.length = b3 at *
  generalize nameB p.hr p.r.length = b4 at *
  generalize verB p.c = b5 at *
  generalize versB p.l = b6 at *
  cases b0
  · clear c1 c2 c3 c4 c5 c6
    go_enter Tryd.func85, Tryd.ntmps85
    go_wp2_with (first | (go_at_call 100; refine c0.mono ?_; rintro e w' ⟨rfl, rfl⟩; clear c0))
    go_ret
    exact ⟨rfl, HB.out⟩
  cases b1
  · clear c2 c3 c4 c5 c6
    go_enter Tryd.func85, Tryd.ntmps85
    go_wp2_with (first | (go_at_call 100; refine c0.mono ?_; rintro e w' ⟨rfl, rfl⟩; clear c0) | (go_at_call 100; refine c1.mono ?_; rintro e w' ⟨rfl, rfl⟩; clear c1))
    go_ret
    exact ⟨rfl, HB.out⟩
  cases b2
  · clear c3 c4 c5 c6
    go_enter Tryd.func85, Tryd.ntmps85
    go_wp2_with (first | (go_at_call 100; refine c0.mono ?_; rintro e w' ⟨rfl, rfl⟩; clear c0) | (go_at_call 100; refine c1.mono ?_; rintro e w' ⟨rfl, rfl⟩; clear c1) | (go_at_call 101; refine c2.mono ?_; rintro e w' ⟨rfl, rfl⟩; clear c2))
    go_ret
    exact ⟨rfl, HB.out⟩
  cases b3
  · clear c4 c5 c6
    go_enter Tryd.func85, Tryd.ntmps85
    go_wp2_with (first | (go_at_call 100; refine c0.mono ?_; rintro e w' ⟨rfl, rfl⟩; clear c0) | (go_at_call 100; refine c1.mono ?_; rintro e w' ⟨rfl, rfl⟩; clear c1) | (go_at_call 101; refine c2.mono ?_; rintro e w' ⟨rfl, rfl⟩; clear c2) | (go_at_call 101; refine c3.mono ?_; rintro e w' ⟨rfl, rfl⟩; clear c3))
    go_ret
    exact ⟨rfl, HB.out⟩
  cases b4
  · clear c5 c6
    go_enter Tryd.func85, Tryd.ntmps85
    go_wp2_with (first | (go_at_call 100; refine c0.mono ?_; rintro e w' ⟨rfl, rfl⟩; clear c0) | (go_at_call 100; refine c1.mono ?_; rintro e w' ⟨rfl, rfl⟩; clear c1) | (go_at_call 101; refine c2.mono ?_; rintro e w' ⟨rfl, rfl⟩; clear c2) | (go_at_call 101; refine c3.mono ?_; rintro e w' ⟨rfl, rfl⟩; clear c3) | (go_at_call 101; refine c4.mono ?_; rintro e w' ⟨rfl, rfl⟩; clear c4))
    go_ret
    exact ⟨rfl, HB.out⟩
  cases b5
  · clear c6
    go_enter Tryd.func85, Tryd.ntmps85
    go_wp2_with (first | (go_at_call 100; refine c0.mono ?_; rintro e w' ⟨rfl, rfl⟩; clear c0) | (go_at_call 100; refine c1.mono ?_; rintro e w' ⟨rfl, rfl⟩; clear c1) | (go_at_call 101; refine c2.mono ?_; rintro e w' ⟨rfl, rfl⟩; clear c2) | (go_at_call 101; refine c3.mono ?_; rintro e w' ⟨rfl, rfl⟩; clear c3) | (go_at_call 101; refine c4.mono ?_; rintro e w' ⟨rfl, rfl⟩; clear c4) | (go_at_call 28; refine c5.mono ?_; rintro e w' ⟨rfl, rfl⟩; clear c5))
    go_ret
    exact ⟨rfl, HB.out⟩
  cases b6
  · skip
    go_enter Tryd.func85, Tryd.ntmps85
    go_wp2_with (first | (go_at_call 100; refine c0.mono ?_; rintro e w' ⟨rfl, rfl⟩; clear c0) | (go_at_call 100; refine c1.mono ?_; rintro e w' ⟨rfl, rfl⟩; clear c1) | (go_at_call 101; refine c2.mono ?_; rintro e w' ⟨rfl, rfl⟩; clear c2) | (go_at_call 101; refine c3.mono ?_; rintro e w' ⟨rfl, rfl⟩; clear c3) | (go_at_call 101; refine c4.mono ?_; rintro e w' ⟨rfl, rfl⟩; clear c4) | (go_at_call 28; refine c5.mono ?_; rintro e w' ⟨rfl, rfl⟩; clear c5) | (go_at_call 102; refine c6.mono ?_; rintro e w' ⟨rfl, rfl⟩; clear c6))
    go_ret
    exact ⟨rfl, HB.out⟩
  · skip
    go_enter Tryd.func85, Tryd.ntmps85
    go_wp2_with (first | (go_at_call 100; refine c0.mono ?_; rintro e w' ⟨rfl, rfl⟩; clear c0) | (go_at_call 100; refine c1.mono ?_; rintro e w' ⟨rfl, rfl⟩; clear c1) | (go_at_call 101; refine c2.mono ?_; rintro e w' ⟨rfl, rfl⟩; clear c2) | (go_at_call 101; refine c3.mono ?_; rintro e w' ⟨rfl, rfl⟩; clear c3) | (go_at_call 101; refine c4.mono ?_; rintro e w' ⟨rfl, rfl⟩; clear c4) | (go_at_call 28; refine c5.mono ?_; rintro e w' ⟨rfl, rfl⟩; clear c5) | (go_at_call 102; refine c6.mono ?_; rintro e w' ⟨rfl, rfl⟩; clear c6))
    go_ret
    exact ⟨rfl, HB.out⟩

theorem refname_any (w : World) (has : Bool) (ao : Option Addr) (n cap : Nat) : Calls Tryd.prog 81 #[.bool has, .slice ao n cap] w fun e w' => e = .returned (.bool (nameB has n)) ∧ w = w' := by
  unfold nameB
  by_cases h2 : n ≤ 20
  · have t2 : decide ((n : Int) ≤ 20) = true := decide_eq_true (by omega)
    by_cases h0 : n = 0
    · subst h0
      clear h2
      cases has
      all_goals
        go_enter Tryd.func81, Tryd.ntmps81
        go_wp2_with fail
        go_ret
        exact ⟨rfl, rfl⟩
    · have t0 : ((n : Int) == 0) = false := beq_eq_false_iff_ne.2 (by omega)
      have t0' : (n == 0) = false := beq_eq_false_iff_ne.2 h0
      rw [decide_eq_false h0, decide_eq_true h2]
      clear h0 h2
      cases has
      all_goals
        go_enter Tryd.func81, Tryd.ntmps81
        go_wp2_with fail
        go_ret
        exact ⟨rfl, rfl⟩
  · have t2 : decide ((n : Int) ≤ 20) = false := decide_eq_false (by omega)
    rw [decide_eq_false h2, decide_eq_false (show ¬ n = 0 by omega), Bool.and_false]
    clear h2
    go_enter Tryd.func81, Tryd.ntmps81
    go_wp2_with fail
    go_ret
    exact ⟨rfl, rfl⟩
end Go.Proofs.YtefcjggmlhoebaaDoor
