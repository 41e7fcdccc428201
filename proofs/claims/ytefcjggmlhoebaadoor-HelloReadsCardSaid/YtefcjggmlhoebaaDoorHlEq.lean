/- Plain: what the document's reader makes of a handshake's message is what hParse tells, or both are none. -/
import Derived.Test.YtefcjggmlhoebaaDoorGNmd
import Derived.Test.YtefcjggmlhoebaaDoorGPure
import Derived.Test.YtefcjggmlhoebaaDoorRefRead
import Derived.Deep.QuietTactic
import Derived.BigQuiet
import Derived.Laws.Cover3
namespace Go.Proofs.YtefcjggmlhoebaaDoor
open Go Go.RowKit

/-- Where the document's reader stands: how many bytes are taken, and whether something was bad. -/
structure JS where
  t : Nat
  b : Bool
def jNum (zs : List Int) (s : JS) : Int × JS := if s.b = true then (0, s) else match gVar zs s.t with | some (n, t) => (n, ⟨t, false⟩) | none => (0, ⟨s.t, true⟩)
def jBytes (zs : List Int) (n : Nat) (s : JS) : List Int × JS := if s.b = true then ([], s) else match gBytes zs n s.t with | some (l, t) => (l, ⟨t, false⟩) | none => ([], ⟨s.t, true⟩)
def jTerm (zs : List Int) (s : JS) : Int × JS := (numd (jBytes zs 4 s).1, ⟨(jBytes zs 4 s).2.t, (jBytes zs 4 s).2.b || decide (numd (jBytes zs 4 s).1 = 0)⟩)
theorem jnum_bad {zs : List Int} {s : JS} (h : s.b = true) : jNum zs s = (0, s) := if_pos h
theorem jnum_no {zs : List Int} {t : Nat} (h : gVar zs t = none) : jNum zs ⟨t, false⟩ = (0, ⟨t, true⟩) := by simp [jNum, h]
theorem jnum_yes {zs : List Int} {t t' : Nat} {n : Int} (h : gVar zs t = some (n, t')) : jNum zs ⟨t, false⟩ = (n, ⟨t', false⟩) := by simp [jNum, h]
theorem jbytes_bad {zs : List Int} {n : Nat} {s : JS} (h : s.b = true) : jBytes zs n s = ([], s) := if_pos h
theorem jbytes_no {zs : List Int} {n t : Nat} (h : gBytes zs n t = none) : jBytes zs n ⟨t, false⟩ = ([], ⟨t, true⟩) := by simp [jBytes, h]
theorem jbytes_yes {zs l : List Int} {n t t' : Nat} (h : gBytes zs n t = some (l, t')) : jBytes zs n ⟨t, false⟩ = (l, ⟨t', false⟩) := by simp [jBytes, h]

/-- The document's reader in the box I. -/
structure Jq (w0 w : World) (I : Nat) (zs : List Int) (s : JS) : Prop where
  bel : Below w0.heap.size w0 w
  lo : w0.heap.size ≤ I
  tl : s.t ≤ zs.length
  sz : zs.length ≤ 1000000
  box : ∃ rv, w.heap[I]? = some (.cells #[rv, .bool s.b] 63 (0, 0)) ∧ Rd w0 rv (zs.drop s.t) ∧ Plain rv
theorem Jq.lt {w0 w : World} {I : Nat} {zs : List Int} {s : JS} (h : Jq w0 w I zs s) : I < w.heap.size := by
  obtain ⟨rv, hb, _⟩ := h.box
  exact (Array.getElem?_eq_some_iff.1 hb).1
theorem Jq.cells {w0 w : World} {I : Nat} {zs : List Int} {s : JS} (h : Jq w0 w I zs s) : ∃ ao n cap, n + s.t = zs.length ∧ Rd w0 (.slice ao n cap) (zs.drop s.t) ∧ Plain (.slice ao n cap) ∧ n ≤ cap ∧ cap ≤ 9223372036854775807 ∧ w.cell? ⟨I, 0, none⟩ = some (.slice ao n cap) ∧ w.cell? ⟨I, 1, none⟩ = some (.bool s.b) ∧ ∀ j, w.frozen? ⟨I, j, none⟩ = false := by
  obtain ⟨rv, hb, hr, hp⟩ := h.box
  have hr' := hr
  obtain ⟨ao, cap, rfl, h1, h2, _⟩ := hr'
  unfold maxLen at h2
  have ht := h.tl
  exact ⟨ao, _, cap, by simp; omega, hr, hp, h1, by omega, (cell_of_row _ I 0 _ _ (0, 0) hb).trans rfl, (cell_of_row _ I 1 _ _ (0, 0) hb).trans rfl, fun j => by simp [World.frozen?, hb]⟩
theorem Jq.but {w0 w w' : World} {I K : Nat} {zs : List Int} {s : JS} (h : Jq w0 w I zs s) (hb : But K w w') (hK : w0.heap.size ≤ K) (hne : I ≠ K) : Jq w0 w' I zs s := by
  obtain ⟨rv, h1, h2⟩ := h.box
  exact ⟨hb.below h.bel hK, h.lo, h.tl, h.sz, rv, by rw [hb.block I h.lt hne]; exact h1, h2⟩
theorem Jq.keep {w0 w w' : World} {I : Nat} {zs : List Int} {s : JS} (h : Jq w0 w I zs s) (hb : Below w.heap.size w w') : Jq w0 w' I zs s := by
  obtain ⟨rv, h1, h2⟩ := h.box
  exact ⟨h.bel.trans (hb.mono h.bel.size), h.lo, h.tl, h.sz, rv, by rw [hb.block I h.lt]; exact h1, h2⟩
theorem Jq.setb {w0 w : World} {I : Nat} {zs : List Int} {s : JS} (h : Jq w0 w I zs s) (x : Bool) : Jq w0 (w.setCell ⟨I, 1, none⟩ (.bool x)) I zs ⟨s.t, x⟩ := by
  obtain ⟨rv, hb, hr⟩ := h.box
  have e0 := heap_setCell_same _ _ 1 _ _ (.bool x) hb
  simp only [List.setIfInBounds_toArray, List.set_cons_zero, List.set_cons_succ] at e0
  exact ⟨h.bel.setCell (p := ⟨I, 1, none⟩) h.lo _, h.lo, h.tl, h.sz, rv, e0, hr⟩
theorem Jq.setr {w0 w : World} {I : Nat} {zs : List Int} {s : JS} (h : Jq w0 w I zs s) (t' : Nat) (ht : t' ≤ zs.length) (rv : Value) (hr : Rd w0 rv (zs.drop t')) (hp : Plain rv) : Jq w0 (w.setCell ⟨I, 0, none⟩ rv) I zs ⟨t', s.b⟩ := by
  obtain ⟨rv0, hb, _⟩ := h.box
  have e0 := heap_setCell_same _ _ 0 _ _ rv hb
  simp only [List.setIfInBounds_toArray, List.set_cons_zero] at e0
  exact ⟨h.bel.setCell (p := ⟨I, 0, none⟩) h.lo _, h.lo, ht, h.sz, rv, e0, hr, hp⟩
theorem Jq.to {w0 w : World} {I : Nat} {zs : List Int} {s s' : JS} (h : Jq w0 w I zs s) (e : s = s') : Jq w0 w I zs s' := e ▸ h
theorem jrd_part {w : World} {ao : Option Addr} {n cap : Nat} {zs : List Int} (h : Rd w (.slice ao n cap) zs) (hp : Plain (.slice ao n cap)) (k : Nat) (hk : k ≤ n) (o : Option Addr) (ho : o = Option.map (fun x => x.add k) ao ∨ cap = k ∧ o = ao) :
    (Rd w (.slice ao k cap) (zs.take k) ∧ Plain (.slice ao k cap)) ∧ (Rd w (.slice o (n - k) (cap - k)) (zs.drop k) ∧ Plain (.slice o (n - k) (cap - k))) := by
  obtain ⟨ao', cap', e, h1, h2, h3, h4, h5⟩ := h
  simp only [Value.slice.injEq] at e
  obtain ⟨rfl, rfl, rfl⟩ := e
  have hlt : (zs.take k).length = k := by simp; omega
  have hld : (zs.drop k).length = zs.length - k := by simp
  rcases hp with hp | ⟨b, off, n', c', hp⟩
  · simp only [Value.slice.injEq] at hp
    obtain ⟨rfl, hz, rfl⟩ := hp
    have hk0 : k = 0 := by omega
    have hzs : zs = [] := List.eq_nil_of_length_eq_zero hz
    subst hk0; subst hzs
    have ho2 : o = none := by rcases ho with rfl | ⟨_, rfl⟩ <;> rfl
    subst ho2
    exact ⟨⟨by simpa using Rd.nil w, .inl (by simp)⟩, by simpa using Rd.nil w, .inl (by simp)⟩
  · simp only [Value.slice.injEq] at hp
    obtain ⟨rfl, _, _⟩ := hp
    have e : (⟨b, off, none⟩ : Addr).add k = ⟨b, off + k, none⟩ := Addr.add_lit _ _ _
    refine ⟨⟨⟨_, cap, by rw [hlt], by omega, by omega, (fun h => by cases h), h4.take k, fun a ha j hj => ?_⟩, .inr ⟨_, _, _, _, rfl⟩⟩, ⟨?_, ?_⟩⟩
    · cases ha
      rw [hlt] at hj
      have := h5 _ rfl j (by omega)
      rw [this]
      simp [List.getD, hj]
    · have ho2 : o = some ⟨b, off + k, none⟩ ∨ cap = k ∧ o = some ⟨b, off, none⟩ := by
        rcases ho with rfl | ⟨h, rfl⟩
        · exact .inl (by simp [e])
        · exact .inr ⟨h, rfl⟩
      rcases ho2 with rfl | ⟨hc, rfl⟩
      · refine ⟨_, cap - k, by rw [hld], by omega, by omega, (fun h => by cases h), h4.drop k, fun a ha j hj => ?_⟩
        cases ha
        rw [hld] at hj
        have := h5 _ rfl (k + j) (by omega)
        rw [Addr.add_lit] at this ⊢
        rw [show off + k + j = off + (k + j) from by omega, this]
        simp [List.getD]
      · refine ⟨_, cap - k, by rw [hld], by omega, by omega, (fun h => by cases h), h4.drop k, fun a ha j hj => ?_⟩
        rw [hld] at hj
        omega
    · rcases ho with rfl | ⟨_, rfl⟩
      · simp only [Option.map_some, e]; exact .inr ⟨_, _, _, _, rfl⟩
      · exact .inr ⟨_, _, _, _, rfl⟩
theorem jrd_cut {w : World} {ao : Option Addr} {n cap t : Nat} {zs : List Int} (h : Rd w (.slice ao n cap) (zs.drop t)) (hp : Plain (.slice ao n cap)) (k : Nat) (hk : k ≤ n) :
    (Rd w (.slice ao k cap) ((zs.drop t).take k) ∧ Plain (.slice ao k cap)) ∧ (Rd w (.slice (Option.map (fun x => x.add k) ao) (n - k) (cap - k)) (zs.drop (t + k)) ∧ Plain (.slice (Option.map (fun x => x.add k) ao) (n - k) (cap - k))) ∧ (cap = k → (Rd w (.slice ao (n - k) 0) (zs.drop (t + k)) ∧ Plain (.slice ao (n - k) 0)) ∧ (Rd w (.slice ao k k) ((zs.drop t).take k) ∧ Plain (.slice ao k k))) := by
  have h1 := jrd_part h hp k hk _ (.inl rfl)
  rw [List.drop_drop] at h1
  refine ⟨h1.1, h1.2, fun hc => ⟨?_, by have := h1.1; rw [hc] at this; exact this⟩⟩
  have h2 := (jrd_part h hp k hk ao (.inr ⟨hc, rfl⟩)).2
  rw [List.drop_drop, hc, Nat.sub_self] at h2
  exact h2
set_option maxRecDepth 20000 in
set_option maxHeartbeats 2000000 in
theorem jbytes_any {w0 w : World} {I : Nat} {zs : List Int} {s : JS} (h : Jq w0 w I zs s) (k : Int) (hk : 0 ≤ k) :
    Calls Tryd.prog 46 #[.pointer (some ⟨I, 0, none⟩), .int .i64 k] w fun e w' => ∃ v, e = .returned v ∧ (Rd w0 v (jBytes zs k.toNat s).1 ∧ Plain v) ∧ Jq w0 w' I zs (jBytes zs k.toNat s).2 ∧ But I w w' := by
  obtain ⟨m, rfl⟩ : ∃ m : Nat, k = m := ⟨k.toNat, by omega⟩
  rw [Int.toNat_natCast]
  obtain ⟨ao, n, cap, hn, hr, hp, hlc, hcap, c0, c1, cf⟩ := h.cells
  have HQ := Lib.hid h
  obtain ⟨t, b⟩ := s
  simp only at hn hr c1
  cases b with
  | true =>
    rw [jbytes_bad rfl]
    have HS := Lib.hid ((h.setb true).to rfl)
    clear h hr hp hn hlc
    go_enter Tryd.func46, Tryd.ntmps46
    go_wp2_with fail
    go_ret
    exact ⟨_, rfl, ⟨Rd.nil w0, .inl rfl⟩, HS.out, But.set _ _ _ _⟩
  | false =>
    by_cases hmn : n < m
    · have hg : gBytes zs m t = none := by unfold gBytes; rw [if_pos (by simp; omega)]
      rw [jbytes_no hg]
      have HS := Lib.hid ((h.setb true).to rfl)
      have hd : decide ((n : Int) < (m : Int)) = true := decide_eq_true (by omega)
      clear h hr hp hn hlc hg
      go_enter Tryd.func46, Tryd.ntmps46
      go_wp2_with fail
      go_ret
      exact ⟨_, rfl, ⟨Rd.nil w0, .inl rfl⟩, HS.out, But.set _ _ _ _⟩
    · have hg : gBytes zs m t = some ((zs.drop t).take m, t + m) := by unfold gBytes; rw [if_neg (by simp; omega)]
      rw [jbytes_yes hg]
      have hd : decide ((n : Int) < (m : Int)) = false := decide_eq_false (by omega)
      have HD := Lib.hid (jrd_cut hr hp m (by omega))
      have HZ : Hid (t + m ≤ zs.length) := Lib.hid (by omega)
      have hmi : (m : Int) ≤ (n : Int) := by omega
      have hnc : (n : Int) ≤ (cap : Int) := by omega
      have hcapi : (cap : Int) ≤ 9223372036854775807 := by omega
      clear h hr hp hn hg
      go_enter Tryd.func46, Tryd.ntmps46
      go_wp2_with fail
      all_goals go_ret
      all_goals first
        | exact ⟨_, rfl, HD.out.1, HQ.out.setr (t + m) HZ.out _ HD.out.2.1.1 HD.out.2.1.2, But.set _ _ _ _⟩
        | exact ⟨_, rfl, (HD.out.2.2 (by assumption)).2, HQ.out.setr (t + m) HZ.out _ (HD.out.2.2 (by assumption)).1.1 (HD.out.2.2 (by assumption)).1.2, But.set _ _ _ _⟩
theorem byt_jbytes {zs : List Int} (hb : Byt zs) (n : Nat) (s : JS) : Byt (jBytes zs n s).1 := by
  unfold jBytes
  split
  · exact Byt.nil
  · unfold gBytes
    split
    · rename_i h; split at h
      · cases h
      · cases h; exact (hb.drop _).take _
    · exact Byt.nil
set_option maxRecDepth 20000 in
set_option maxHeartbeats 2000000 in
theorem jterm_any {w0 w : World} {I : Nat} {zs : List Int} {s : JS} (h : Jq w0 w I zs s) (hbt : Byt zs) :
    Calls Tryd.prog 43 #[.pointer (some ⟨I, 0, none⟩)] w fun e w' => e = .returned (.int .i64 (jTerm zs s).1) ∧ Jq w0 w' I zs (jTerm zs s).2 ∧ But I w w' := by
  have hc := jbytes_any h 4 (by omega)
  have hby := byt_jbytes hbt 4 s
  unfold jTerm
  rw [show (4 : Int).toNat = 4 from rfl] at hc
  generalize jBytes zs 4 s = q at *
  obtain ⟨l, t2, b2⟩ := q
  simp only at hc hby
  obtain ⟨nn, hN⟩ : ∃ x, numd l = x := ⟨_, rfl⟩
  simp only [hN]
  clear h
  go_enter Tryd.func43, Tryd.ntmps43
  go_wp2_with fail
  refine hc.mono ?_
  rintro e w1 ⟨v, rfl, ⟨hr, hp⟩, hJ, hB⟩
  have hnd := rnumbered_any (hr.below hJ.bel) hby
  rw [hN] at hnd
  clear hc hr hp
  go_wp2_with fail
  refine hnd.mono ?_
  rintro e w2 ⟨rfl, m, rfl⟩
  have HB := Lib.hid (hB.trans (But.drewN m))
  have hJ2 : Jq w0 (w1.drewN m) I zs ⟨t2, b2⟩ := ⟨(But.drewN (B := I) m).below hJ.bel hJ.lo, hJ.lo, hJ.tl, hJ.sz, hJ.box⟩
  obtain ⟨_, _, _, _, _, _, _, _, c0, c1, cf⟩ := hJ2.cells
  have HS := fun x => Lib.hid ((hJ2.setb x).to rfl)
  generalize w1.drewN m = w3 at *
  simp only at c1
  clear hJ hB hnd hJ2 c0
  cases b2 with
  | true =>
    go_wp2_with fail
    go_ret
    exact ⟨rfl, (HS _).out, HB.out.trans (But.set _ _ _ _)⟩
  | false =>
    by_cases hn : nn = 0
    · subst hn
      go_wp2_with fail
      go_ret
      exact ⟨rfl, (HS true).out, HB.out.trans (But.set _ _ _ _)⟩
    · have h1 : (nn == 0) = false := by simp [hn]
      have h2 : decide (nn = 0) = false := decide_eq_false hn
      have HS2 : Hid (∀ W, Jq w0 W I zs ⟨t2, false⟩ → Jq w0 W I zs ⟨t2, false || decide (nn = 0)⟩) := Lib.hid fun W h => h.to (by rw [h2]; rfl)
      clear hn h2
      go_wp2_with fail
      go_ret
      exact ⟨rfl, HS2.out _ (HS _).out, HB.out.trans (But.set _ _ _ _)⟩
/-- A byte that is 0 or 1. -/
def jFlag (zs : List Int) (s : JS) : Bool × JS :=
  if (jBytes zs 1 s).2.b = true then (false, (jBytes zs 1 s).2)
  else if 1 < (jBytes zs 1 s).1.getD 0 0 then (false, ⟨(jBytes zs 1 s).2.t, true⟩)
  else (decide ((jBytes zs 1 s).1.getD 0 0 = 1), (jBytes zs 1 s).2)
theorem jbytes_len {zs : List Int} {n : Nat} {s : JS} (h : (jBytes zs n s).2.b = false) : (jBytes zs n s).1.length = n := by
  unfold jBytes at h ⊢
  split
  · rename_i hb; rw [if_pos hb, hb] at h; cases h
  · rename_i hb
    rw [if_neg hb] at h
    unfold gBytes at h ⊢
    by_cases hl : (zs.drop s.t).length < n
    · rw [if_pos hl] at h; cases h
    · rw [if_neg hl]; simp only [List.length_take]; omega
set_option maxRecDepth 20000 in
set_option maxHeartbeats 2000000 in
theorem jflag_any {w0 w : World} {I : Nat} {zs : List Int} {s : JS} (h : Jq w0 w I zs s) (hbt : Byt zs) :
    Calls Tryd.prog 44 #[.pointer (some ⟨I, 0, none⟩)] w fun e w' => e = .returned (.bool (jFlag zs s).1) ∧ Jq w0 w' I zs (jFlag zs s).2 ∧ But I w w' := by
  have hc := jbytes_any h 1 (by omega)
  rw [show (1 : Int).toNat = 1 from rfl] at hc
  have hby := byt_jbytes hbt 1 s
  have hln := jbytes_len (zs := zs) (n := 1) (s := s)
  unfold jFlag
  generalize jBytes zs 1 s = q at *
  obtain ⟨l, t2, b2⟩ := q
  simp only at hc hby hln
  clear h
  cases b2 with
  | true =>
    rw [if_pos rfl]
    go_enter Tryd.func44, Tryd.ntmps44
    go_wp2_with fail
    refine hc.mono ?_
    rintro e w1 ⟨v, rfl, ⟨hr, _⟩, hJ, hB⟩
    obtain ⟨_, _, _, _, _, _, _, _, c0, c1, cf⟩ := hJ.cells
    have HS := Lib.hid ((hJ.setb true).to rfl)
    have HB := Lib.hid hB
    simp only at c1
    obtain ⟨ao, cp, rfl⟩ := hr.shape
    clear hc hr hJ hB c0
    go_wp2_with fail
    go_ret
    exact ⟨rfl, HS.out, HB.out.trans (But.set _ _ _ _)⟩
  | false =>
    rw [if_neg (by simp)]
    have h1 := hln rfl
    obtain ⟨z, rfl⟩ : ∃ z, l = [z] := by
      match l, h1 with
      | [z], _ => exact ⟨z, rfl⟩
    have hz := hby z (by simp)
    simp only [List.getD_cons_zero]
    clear hln h1 hby
    by_cases h2 : 1 < z
    · rw [if_pos h2]
      have hd : decide (1 < z) = true := decide_eq_true h2
      go_enter Tryd.func44, Tryd.ntmps44
      go_wp2_with fail
      refine hc.mono ?_
      rintro e w1 ⟨v, rfl, ⟨hr, _⟩, hJ, hB⟩
      obtain ⟨_, _, _, _, _, _, _, _, c0, c1, cf⟩ := hJ.cells
      have HS := Lib.hid ((hJ.setb true).to rfl)
      have HB := Lib.hid hB
      simp only at c1
      rcases (hr.below hJ.bel).cases with ⟨h0, _⟩ | ⟨vb, vo, vc, rfl, _, _, _, _, hvc⟩
      · cases h0
      have hv0 : w1.cell? ⟨vb, vo, none⟩ = some (.int .u8 z) := hvc 0 (by simp)
      clear hc hr hJ hB c0 hvc
      go_wp2_with fail
      go_ret
      exact ⟨rfl, HS.out, HB.out.trans (But.set _ _ _ _)⟩
    · rw [if_neg h2]
      have hd : decide (1 < z) = false := decide_eq_false h2
      have hz01 : z = 0 ∨ z = 1 := by omega
      go_enter Tryd.func44, Tryd.ntmps44
      go_wp2_with fail
      refine hc.mono ?_
      rintro e w1 ⟨v, rfl, ⟨hr, _⟩, hJ, hB⟩
      obtain ⟨_, _, _, _, _, _, _, _, c0, c1, cf⟩ := hJ.cells
      have HJ := Lib.hid hJ
      have HB := Lib.hid hB
      simp only at c1
      rcases (hr.below hJ.bel).cases with ⟨h0, _⟩ | ⟨vb, vo, vc, rfl, _, _, _, _, hvc⟩
      · cases h0
      have hv0 : w1.cell? ⟨vb, vo, none⟩ = some (.int .u8 z) := hvc 0 (by simp)
      clear hc hr hJ hB c0 hvc
      rcases hz01 with rfl | rfl
      all_goals
        go_wp2_with fail
        go_ret
        exact ⟨rfl, HJ.out, HB.out⟩
#print axioms jflag_any
#print axioms jbytes_any
#print axioms jterm_any
end Go.Proofs.YtefcjggmlhoebaaDoor
namespace Go.Proofs.YtefcjggmlhoebaaDoor
open Go Go.RowKit

/-- A message: kind, random, share, ticket, mac, flag, params, name, version, life. -/
structure Hm where
  k : Int
  r : Int
  s : Int
  t : Int
  m : Int
  f : Bool
  p : List Int
  n : List Int
  v : Int
  l : Int
def tmR (t : Int) : Prop := 1 ≤ t ∧ t ≤ 65536
/-- May it be? (ok: are these bytes right params?) -/
def rightM (ok : List Int → Bool) (x : Hm) : Prop :=
  (x.k = 1 ∧ tmR x.r ∧ tmR x.s ∧ ok x.p = true ∧ (x.t = 0 ∧ x.m = 0 ∨ tmR x.t ∧ tmR x.m) ∧ x.n = [] ∧ x.v = 0 ∧ x.l = 0) ∨
  (x.k = 2 ∧ tmR x.r ∧ tmR x.s ∧ (1 ≤ x.v ∧ x.v ≤ 4294967295) ∧ x.t = 0 ∧ x.m = 0 ∧ x.p = [] ∧ x.n = [] ∧ x.l = 0) ∨
  (x.k = 4 ∧ tmR x.t ∧ numR x.l ∧ x.r = 0 ∧ x.s = 0 ∧ x.m = 0 ∧ x.f = false ∧ x.p = [] ∧ x.n = [] ∧ x.v = 0) ∨
  (x.k = 8 ∧ ok x.p = true ∧ x.r = 0 ∧ x.s = 0 ∧ x.t = 0 ∧ x.m = 0 ∧ x.n = [] ∧ x.v = 0 ∧ x.l = 0) ∨
  (x.k = 11 ∧ (1 ≤ x.n.length ∧ x.n.length ≤ 50) ∧ x.r = 0 ∧ x.s = 0 ∧ x.t = 0 ∧ x.m = 0 ∧ x.f = false ∧ x.p = [] ∧ x.v = 0 ∧ x.l = 0) ∨
  ((x.k = 15 ∨ x.k = 20) ∧ tmR x.m ∧ x.r = 0 ∧ x.s = 0 ∧ x.t = 0 ∧ x.f = false ∧ x.p = [] ∧ x.n = [] ∧ x.v = 0 ∧ x.l = 0)
def flB (f : Bool) : Int := if f = true then 1 else 0
/-- What stands behind the kind and the length. -/
def bodyM (x : Hm) : List Int :=
  if x.k = 1 then gbig x.r 4 ++ (gbig x.s 4 ++ (flB x.f :: (if x.t = 0 then 0 else 1) :: ((if x.t = 0 then [] else gbig x.t 4) ++ ((enc (x.p.length : Int) ++ x.p) ++ (if x.m = 0 then [] else gbig x.m 4)))))
  else if x.k = 2 then gbig x.r 4 ++ (gbig x.s 4 ++ (gbig x.v 4 ++ [flB x.f]))
  else if x.k = 4 then gbig x.t 4 ++ enc x.l
  else if x.k = 8 then flB x.f :: (enc (x.p.length : Int) ++ x.p)
  else if x.k = 11 then x.n
  else gbig x.m 4
/-- A message's bytes. -/
def wrM (x : Hm) : List Int := x.k :: (gbig ((bodyM x).length : Int) 3 ++ bodyM x)
/-- A byte that is 0 or 1. -/
def hFlag (zs : List Int) (t : Nat) : Option (Bool × Nat) :=
  match zs.drop t with
  | z :: _ => if z = 0 then some (false, t + 1) else if z = 1 then some (true, t + 1) else none
  | [] => none
/-- Bytes behind their length. -/
def hGive (zs : List Int) (t : Nat) : Option (List Int × Nat) :=
  match gVar zs t with
  | some (n, t) => gBytes zs n.toNat t
  | none => none
/-- A term, if there is one. -/
def hTermIf (has : Bool) (zs : List Int) (t : Nat) : Option (Int × Nat) := if has = true then gTerm zs t else some (0, t)
/-- What stands behind the length, of each kind. -/
def hParse (zs : List Int) (k : Int) (t : Nat) : Option (Hm × Nat) :=
  if k = 1 then (match gTerm zs t with
    | some (r, t) => (match gTerm zs t with
      | some (s, t) => (match hFlag zs t with
        | some (f, t) => (match hFlag zs t with
          | some (has, t) => (match hTermIf has zs t with
            | some (tk, t) => (match hGive zs t with
              | some (p, t) => (match hTermIf has zs t with
                | some (m, t) => some (⟨1, r, s, tk, m, f, p, [], 0, 0⟩, t)
                | none => none)
              | none => none)
            | none => none)
          | none => none)
        | none => none)
      | none => none)
    | none => none)
  else if k = 2 then (match gTerm zs t with
    | some (r, t) => (match gTerm zs t with
      | some (s, t) => (match gBytes zs 4 t with
        | some (v, t) => (match hFlag zs t with
          | some (f, t) => some (⟨2, r, s, 0, 0, f, [], [], bigv v 0, 0⟩, t)
          | none => none)
        | none => none)
      | none => none)
    | none => none)
  else if k = 4 then (match gTerm zs t with
    | some (tk, t) => (match gVar zs t with
      | some (l, t) => some (⟨4, 0, 0, tk, 0, false, [], [], 0, l⟩, t)
      | none => none)
    | none => none)
  else if k = 8 then (match hFlag zs t with
    | some (f, t) => (match hGive zs t with
      | some (p, t) => some (⟨8, 0, 0, 0, 0, f, p, [], 0, 0⟩, t)
      | none => none)
    | none => none)
  else if k = 11 then some (⟨11, 0, 0, 0, 0, false, [], zs.drop t, 0, 0⟩, max t zs.length)
  else if k = 15 ∨ k = 20 then (match gTerm zs t with
    | some (m, t) => some (⟨k, 0, 0, 0, m, false, [], [], 0, 0⟩, t)
    | none => none)
  else none
/-- How long a message's body says it is. -/
def lenH (zs : List Int) : Int := 65536 * zs.getD 1 0 + 256 * zs.getD 2 0 + zs.getD 3 0
/-- Is it one message, as layer 13 has them? -/
def oneH (zs : List Int) : Prop := 4 ≤ zs.length ∧ lenH zs ≤ 2000 ∧ lenH zs + 4 = zs.length
open Classical in
/-- A message. -/
noncomputable def hRead (ok : List Int → Bool) (zs : List Int) : Option Hm :=
  if oneH zs then (match hParse zs (zs.getD 0 0) 4 with
    | some (x, t) => if t = zs.length ∧ rightM ok x then some x else none
    | none => none)
  else none

theorem hread_one {ok : List Int → Bool} {zs : List Int} {x : Hm} (h : hRead ok zs = some x) : oneH zs ∧ hParse zs (zs.getD 0 0) 4 = some (x, zs.length) ∧ rightM ok x := by
  unfold hRead at h
  by_cases h1 : oneH zs
  · rw [if_pos h1] at h
    cases h2 : hParse zs (zs.getD 0 0) 4 with
    | none => rw [h2] at h; cases h
    | some y =>
      obtain ⟨y, t⟩ := y
      rw [h2] at h
      simp only at h
      by_cases h3 : t = zs.length ∧ rightM ok y
      · rw [if_pos h3] at h
        cases h
        exact ⟨h1, by rw [h3.1], h3.2⟩
      · rw [if_neg h3] at h; cases h
  · rw [if_neg h1] at h; cases h
theorem hread_of {ok : List Int → Bool} {zs : List Int} {x : Hm} (h1 : oneH zs) (h2 : hParse zs (zs.getD 0 0) 4 = some (x, zs.length)) (h3 : rightM ok x) : hRead ok zs = some x := by
  unfold hRead
  rw [if_pos h1, h2]
  simp only
  rw [if_pos ⟨rfl, h3⟩]
theorem hread_no {ok : List Int → Bool} {zs : List Int} (h : ¬ oneH zs) : hRead ok zs = none := by
  unfold hRead; rw [if_neg h]
/-- A message that is cut short is none. -/
theorem hread_cut {ok : List Int → Bool} {zs : List Int} {x : Hm} (h : hRead ok zs = some x) {j : Nat} (hj : j < zs.length) : hRead ok (zs.take j) = none := by
  obtain ⟨⟨h1, h2, h3⟩, _⟩ := hread_one h
  refine hread_no fun ⟨k1, k2, k3⟩ => ?_
  have hl : (zs.take j).length = j := by simp; omega
  rw [hl] at k1 k3
  have e : lenH (zs.take j) = lenH zs := by
    unfold lenH
    simp only [List.getD_eq_getElem?_getD, List.getElem?_take]
    rw [if_pos (by omega), if_pos (by omega), if_pos (by omega)]
  omega
/-- A message with a byte more is none. -/
theorem hread_more {ok : List Int → Bool} {zs : List Int} {x : Hm} (h : hRead ok zs = some x) (y : Int) : hRead ok (zs ++ [y]) = none := by
  obtain ⟨⟨h1, h2, h3⟩, _⟩ := hread_one h
  refine hread_no fun ⟨k1, k2, k3⟩ => ?_
  have e : lenH (zs ++ [y]) = lenH zs := by
    unfold lenH
    simp only [List.getD_eq_getElem?_getD]
    rw [List.getElem?_append_left (by omega), List.getElem?_append_left (by omega), List.getElem?_append_left (by omega)]
  simp only [List.length_append, List.length_cons, List.length_nil] at k3
  omega

theorem hflag_at {zs r : List Int} {t : Nat} {f : Bool} (h : zs.drop t = flB f :: r) : hFlag zs t = some (f, t + 1) := by
  unfold hFlag
  rw [h]
  cases f <;> simp [flB]
theorem drop_cons {zs r : List Int} {t : Nat} {z : Int} (h : zs.drop t = z :: r) : zs.drop (t + 1) = r := by
  rw [← List.drop_drop, h]; rfl
theorem hgive_at {zs r p : List Int} {t : Nat} (hp : numR (p.length : Int)) (h : zs.drop t = (enc (p.length : Int) ++ p) ++ r) : hGive zs t = some (p, t + (enc (p.length : Int)).length + p.length) ∧ zs.drop (t + (enc (p.length : Int)).length + p.length) = r := by
  rw [List.append_assoc] at h
  have v1 := gvar_at hp h
  have h2 := gdrop_app h
  have v2 := gbytes_at h2
  have h3 := gdrop_app h2
  refine ⟨?_, h3⟩
  unfold hGive
  rw [v1]
  simp only [Int.toNat_natCast]
  rw [v2]
theorem htermif_at {zs r : List Int} {t : Nat} {n : Int} {has : Bool} (hh : has = decide (n ≠ 0)) (hn : n = 0 ∨ tmR n) (h : zs.drop t = (if n = 0 then [] else gbig n 4) ++ r) : hTermIf has zs t = some (n, t + (if n = 0 then ([] : List Int) else gbig n 4).length) ∧ zs.drop (t + (if n = 0 then ([] : List Int) else gbig n 4).length) = r := by
  refine ⟨?_, gdrop_app h⟩
  unfold hTermIf
  by_cases h0 : n = 0
  · subst h0
    simp at hh
    rw [hh, if_neg (by decide), if_pos rfl]
    rfl
  · have h1 : tmR n := by rcases hn with h | h; exact absurd h h0; exact h
    have : has = true := by rw [hh]; exact decide_eq_true h0
    rw [this, if_pos rfl]
    rw [if_neg h0] at h ⊢
    rw [gterm_at h1.1 h1.2 h, gbig_len]
/-- What is written behind a length is read as it was. -/
theorem hparse_at {ok : List Int → Bool} {zs : List Int} {x : Hm} {t : Nat} (hr : rightM ok x) (hp : (x.p.length : Int) < 4611686018427387904) (h : zs.drop t = bodyM x) : hParse zs x.k t = some (x, t + (bodyM x).length) := by
  obtain ⟨k, r, s, tk, m, f, p, n, v, l⟩ := x
  simp only at hp
  have hpn : numR (p.length : Int) := ⟨by omega, hp⟩
  rcases hr with ⟨h1, h2, h3, _, h5, h6, h7, h8⟩ | ⟨h1, h2, h3, h4, h5, h6, h7, h8, h9⟩ | ⟨h1, h2, h3, h4, h5, h6, h7, h8, h9, h10⟩ | ⟨h1, _, h3, h4, h5, h6, h7, h8, h9⟩ | ⟨h1, h2, h3, h4, h5, h6, h7, h8, h9, h10⟩ | ⟨h1, h2, h3, h4, h5, h6, h7, h8, h9, h10⟩
  · simp only at h1 h2 h3 h5 h6 h7 h8
    subst h1; subst h6; subst h7; subst h8
    simp only [bodyM, if_true] at h ⊢
    have v1 := gterm_at h2.1 h2.2 h
    have d1 := gdrop_app h
    rw [gbig_len] at d1
    have v2 := gterm_at h3.1 h3.2 d1
    have d2 := gdrop_app d1
    rw [gbig_len] at d2
    have v3 := hflag_at d2
    have d3 := drop_cons d2
    have hf : (if tk = 0 then (0 : Int) else 1) = flB (decide (tk ≠ 0)) := by by_cases h0 : tk = 0 <;> simp [h0, flB]
    rw [hf] at d3
    have v4 := hflag_at d3
    have d4 := drop_cons d3
    obtain ⟨v5, d5⟩ := htermif_at (has := decide (tk ≠ 0)) rfl (by rcases h5 with h | h; exact .inl h.1; exact .inr h.1) d4
    obtain ⟨v6, d6⟩ := hgive_at hpn d5
    have hm : (decide (tk ≠ 0)) = decide (m ≠ 0) := by
      rcases h5 with h | h
      · rw [h.1, h.2]
      · rw [decide_eq_true (show tk ≠ 0 by have := h.1.1; omega), decide_eq_true (show m ≠ 0 by have := h.2.1; omega)]
    have d6' : zs.drop (t + 4 + 4 + 1 + 1 + (if tk = 0 then ([] : List Int) else gbig tk 4).length + (enc (p.length : Int)).length + p.length) = (if m = 0 then [] else gbig m 4) ++ [] := by rw [d6, List.append_nil]
    obtain ⟨v7, _⟩ := htermif_at (has := decide (tk ≠ 0)) hm (by rcases h5 with h | h; exact .inl h.2; exact .inr h.2) d6'
    unfold hParse
    rw [if_pos rfl, v1]
    simp only
    rw [v2]
    simp only
    rw [v3]
    simp only
    rw [v4]
    simp only
    rw [v5]
    simp only
    rw [v6]
    simp only
    rw [v7]
    simp only [List.length_append, List.length_cons, gbig_len, Option.some.injEq, Prod.mk.injEq, true_and]
    omega
  · simp only at h1 h2 h3 h4 h5 h6 h7 h8 h9
    subst h1; subst h5; subst h6; subst h7; subst h8; subst h9
    simp only [bodyM, show (2 : Int) ≠ 1 by decide, if_false, if_true] at h ⊢
    have v1 := gterm_at h2.1 h2.2 h
    have d1 := gdrop_app h
    rw [gbig_len] at d1
    have v2 := gterm_at h3.1 h3.2 d1
    have d2 := gdrop_app d1
    rw [gbig_len] at d2
    have v3 := gbytes_at d2
    rw [gbig_len] at v3
    have d3 := gdrop_app d2
    rw [gbig_len] at d3
    have v4 := hflag_at d3
    have hb := gbigv_big v 0 4 (by decide) (by omega) (by omega)
    unfold hParse
    rw [if_neg (by decide), if_pos rfl, v1]
    simp only
    rw [v2]
    simp only
    rw [v3]
    simp only
    rw [v4]
    simp only [hb, List.length_append, List.length_cons, List.length_nil, gbig_len, Option.some.injEq, Prod.mk.injEq, Hm.mk.injEq, true_and, and_true]
    omega
  · simp only at h1 h2 h3 h4 h5 h6 h7 h8 h9 h10
    subst h1; subst h4; subst h5; subst h6; subst h7; subst h8; subst h9; subst h10
    simp only [bodyM, show (4 : Int) ≠ 1 by decide, show (4 : Int) ≠ 2 by decide, if_false, if_true] at h ⊢
    have v1 := gterm_at h2.1 h2.2 h
    have d1 := gdrop_app h
    rw [gbig_len] at d1
    have d1' : zs.drop (t + 4) = enc l ++ [] := by rw [d1, List.append_nil]
    have v2 := gvar_at h3 d1'
    unfold hParse
    rw [if_neg (by decide), if_neg (by decide), if_pos rfl, v1]
    simp only
    rw [v2]
    simp only [List.length_append, gbig_len, Option.some.injEq, Prod.mk.injEq, true_and]
    omega
  · simp only at h1 h3 h4 h5 h6 h7 h8 h9
    subst h1; subst h3; subst h4; subst h5; subst h6; subst h7; subst h8; subst h9
    simp only [bodyM, show (8 : Int) ≠ 1 by decide, show (8 : Int) ≠ 2 by decide, show (8 : Int) ≠ 4 by decide, if_false, if_true] at h ⊢
    have v1 := hflag_at h
    have d1 := drop_cons h
    have d1' : zs.drop (t + 1) = (enc (p.length : Int) ++ p) ++ [] := by rw [d1, List.append_nil]
    obtain ⟨v2, _⟩ := hgive_at hpn d1'
    unfold hParse
    rw [if_neg (by decide), if_neg (by decide), if_neg (by decide), if_pos rfl, v1]
    simp only
    rw [v2]
    simp only [List.length_append, List.length_cons, Option.some.injEq, Prod.mk.injEq, true_and]
    omega
  · simp only at h1 h2 h3 h4 h5 h6 h7 h8 h9 h10
    subst h1; subst h3; subst h4; subst h5; subst h6; subst h7; subst h8; subst h9; subst h10
    simp only [bodyM, show (11 : Int) ≠ 1 by decide, show (11 : Int) ≠ 2 by decide, show (11 : Int) ≠ 4 by decide, show (11 : Int) ≠ 8 by decide, if_false, if_true] at h ⊢
    have hl := congrArg List.length h
    simp only [List.length_drop] at hl
    unfold hParse
    rw [if_neg (by decide), if_neg (by decide), if_neg (by decide), if_neg (by decide), if_pos rfl, h]
    simp only [Option.some.injEq, Prod.mk.injEq, true_and]
    omega
  · simp only at h1 h2 h3 h4 h5 h6 h7 h8 h9 h10
    subst h3; subst h4; subst h5; subst h6; subst h7; subst h8; subst h9; subst h10
    have e : bodyM ⟨k, 0, 0, 0, m, false, [], [], 0, 0⟩ = gbig m 4 := by
      unfold bodyM
      rcases h1 with rfl | rfl <;> simp
    rw [e] at h ⊢
    have h' : zs.drop t = gbig m 4 ++ [] := by rw [h, List.append_nil]
    have v1 := gterm_at h2.1 h2.2 h'
    unfold hParse
    rw [if_neg (show ¬ k = 1 by omega), if_neg (show ¬ k = 2 by omega), if_neg (show ¬ k = 4 by omega), if_neg (show ¬ k = 8 by omega), if_neg (show ¬ k = 11 by omega), if_pos h1, v1]
    simp only [gbig_len]
/-- What is written is read as it was. -/
theorem hread_back {ok : List Int → Bool} {x : Hm} (hr : rightM ok x) (hl : (bodyM x).length ≤ 2000) (hp : (x.p.length : Int) < 4611686018427387904) : hRead ok (wrM x) = some x := by
  have hlen : (wrM x).length = (bodyM x).length + 4 := by simp [wrM, gbig_len]; omega
  have h0 : (wrM x).getD 0 0 = x.k := rfl
  have hd : (wrM x).drop 4 = bodyM x := by
    unfold wrM
    rw [List.drop_succ_cons, List.drop_append_of_le_length (by rw [gbig_len]; omega), List.drop_of_length_le (by rw [gbig_len]; omega), List.nil_append]
  refine hread_of ⟨by omega, ?_, ?_⟩ ?_ hr
  · have : lenH (wrM x) = ((bodyM x).length : Int) := by
      unfold lenH wrM
      simp [gbig]
      omega
    omega
  · have : lenH (wrM x) = ((bodyM x).length : Int) := by
      unfold lenH wrM
      simp [gbig]
      omega
    omega
  · rw [h0, hparse_at hr hp hd, hlen]
    congr 2
    omega

theorem hflag_inv {zs : List Int} {t t' : Nat} {f : Bool} (h : hFlag zs t = some (f, t')) : zs.drop t = flB f :: zs.drop t' ∧ t' = t + 1 := by
  unfold hFlag at h
  cases hz : zs.drop t with
  | nil => rw [hz] at h; cases h
  | cons z r =>
    rw [hz] at h
    simp only at h
    have hd := drop_cons hz
    by_cases h0 : z = 0
    · rw [if_pos h0] at h
      simp only [Option.some.injEq, Prod.mk.injEq] at h
      obtain ⟨rfl, rfl⟩ := h
      rw [hd, h0]; exact ⟨rfl, rfl⟩
    · rw [if_neg h0] at h
      by_cases h1 : z = 1
      · rw [if_pos h1] at h
        simp only [Option.some.injEq, Prod.mk.injEq] at h
        obtain ⟨rfl, rfl⟩ := h
        rw [hd, h1]; exact ⟨rfl, rfl⟩
      · rw [if_neg h1] at h; cases h
theorem hgive_inv {zs p : List Int} (hb : Byt zs) {t t' : Nat} (h : hGive zs t = some (p, t')) : zs.drop t = (enc (p.length : Int) ++ p) ++ zs.drop t' ∧ t < t' ∧ t' ≤ zs.length := by
  unfold hGive at h
  cases hv : gVar zs t with
  | none => rw [hv] at h; cases h
  | some y =>
    obtain ⟨n, t1⟩ := y
    rw [hv] at h
    simp only at h
    obtain ⟨e1, e2, e3, e4⟩ := gvar_inv hb hv
    obtain ⟨k1, k2, k3, k4⟩ := gbytes_inv h e4
    have hn : (p.length : Int) = n := by have := e2.1; omega
    rw [e1, k1, hn, List.append_assoc]
    exact ⟨rfl, by omega, k4⟩
theorem htermif_inv {zs : List Int} (hb : Byt zs) {has : Bool} {t t' : Nat} {n : Int} (h : hTermIf has zs t = some (n, t')) (ht : t ≤ zs.length) : zs.drop t = (if n = 0 then [] else gbig n 4) ++ zs.drop t' ∧ has = decide (n ≠ 0) ∧ t ≤ t' ∧ t' ≤ zs.length := by
  unfold hTermIf at h
  cases has with
  | true =>
    rw [if_pos rfl] at h
    obtain ⟨h1, h2, h3, h4⟩ := gterm_inv hb h ht
    have h0 : n ≠ 0 := by omega
    rw [if_neg h0]
    exact ⟨h1, (decide_eq_true h0).symm, by omega, h4⟩
  | false =>
    rw [if_neg (by decide)] at h
    simp only [Option.some.injEq, Prod.mk.injEq] at h
    obtain ⟨rfl, rfl⟩ := h
    exact ⟨by simp, by simp, Nat.le_refl _, ht⟩
/-- What is read was written so. -/
theorem hparse_inv {zs : List Int} (hb : Byt zs) {k : Int} {t t' : Nat} {x : Hm} (h : hParse zs k t = some (x, t')) (ht : t ≤ zs.length) : x.k = k ∧ zs.drop t = bodyM x ++ zs.drop t' := by
  unfold hParse at h
  by_cases k1 : k = 1
  · rw [if_pos k1] at h
    cases v1 : gTerm zs t with
    | none => rw [v1] at h; cases h
    | some y1 =>
    obtain ⟨r, t1⟩ := y1
    rw [v1] at h; simp only at h
    obtain ⟨a1, a2, a3, a4⟩ := gterm_inv hb v1 ht
    cases v2 : gTerm zs t1 with
    | none => rw [v2] at h; cases h
    | some y2 =>
    obtain ⟨s, t2⟩ := y2
    rw [v2] at h; simp only at h
    obtain ⟨b1, b2, b3, b4⟩ := gterm_inv hb v2 a4
    cases v3 : hFlag zs t2 with
    | none => rw [v3] at h; cases h
    | some y3 =>
    obtain ⟨f, t3⟩ := y3
    rw [v3] at h; simp only at h
    obtain ⟨c1, c2⟩ := hflag_inv v3
    cases v4 : hFlag zs t3 with
    | none => rw [v4] at h; cases h
    | some y4 =>
    obtain ⟨has, t4⟩ := y4
    rw [v4] at h; simp only at h
    obtain ⟨d1, d2⟩ := hflag_inv v4
    have ht4 : t4 ≤ zs.length := by
      have := congrArg List.length d1
      simp only [List.length_drop, List.length_cons] at this
      omega
    cases v5 : hTermIf has zs t4 with
    | none => rw [v5] at h; cases h
    | some y5 =>
    obtain ⟨tk, t5⟩ := y5
    rw [v5] at h; simp only at h
    obtain ⟨e1, e2, e3, e4⟩ := htermif_inv hb v5 ht4
    cases v6 : hGive zs t5 with
    | none => rw [v6] at h; cases h
    | some y6 =>
    obtain ⟨p, t6⟩ := y6
    rw [v6] at h; simp only at h
    obtain ⟨f1, f2, f3⟩ := hgive_inv hb v6
    cases v7 : hTermIf has zs t6 with
    | none => rw [v7] at h; cases h
    | some y7 =>
    obtain ⟨m, t7⟩ := y7
    rw [v7] at h; simp only at h
    obtain ⟨g1, g2, g3, g4⟩ := htermif_inv hb v7 f3
    cases h
    refine ⟨k1.symm, ?_⟩
    have hf : flB has = (if tk = 0 then (0 : Int) else 1) := by
      rw [e2]; by_cases h0 : tk = 0 <;> simp [h0, flB]
    simp only [bodyM, if_true]
    rw [a1, b1, c1, d1, hf, e1, f1, g1]
    simp [List.append_assoc]
  rw [if_neg k1] at h
  by_cases k2 : k = 2
  · rw [if_pos k2] at h
    cases v1 : gTerm zs t with
    | none => rw [v1] at h; cases h
    | some y1 =>
    obtain ⟨r, t1⟩ := y1
    rw [v1] at h; simp only at h
    obtain ⟨a1, a2, a3, a4⟩ := gterm_inv hb v1 ht
    cases v2 : gTerm zs t1 with
    | none => rw [v2] at h; cases h
    | some y2 =>
    obtain ⟨s, t2⟩ := y2
    rw [v2] at h; simp only at h
    obtain ⟨b1, b2, b3, b4⟩ := gterm_inv hb v2 a4
    cases v3 : gBytes zs 4 t2 with
    | none => rw [v3] at h; cases h
    | some y3 =>
    obtain ⟨v, t3⟩ := y3
    rw [v3] at h; simp only at h
    obtain ⟨c1, c2, c3, c4⟩ := gbytes_inv v3 b4
    have hbv : Byt v := by
      have e := c1
      have hbd := hb.drop t2
      rw [e] at hbd
      exact fun y hy => hbd y (List.mem_append_left _ hy)
    cases v4 : hFlag zs t3 with
    | none => rw [v4] at h; cases h
    | some y4 =>
    obtain ⟨f, t4⟩ := y4
    rw [v4] at h; simp only at h
    obtain ⟨d1, d2⟩ := hflag_inv v4
    cases h
    refine ⟨k2.symm, ?_⟩
    simp only [bodyM, show (2 : Int) ≠ 1 by decide, if_false, if_true]
    rw [a1, b1, c1, d1, gbig_bigv4 hbv c2]
    simp [List.append_assoc]
  rw [if_neg k2] at h
  by_cases k4 : k = 4
  · rw [if_pos k4] at h
    cases v1 : gTerm zs t with
    | none => rw [v1] at h; cases h
    | some y1 =>
    obtain ⟨r, t1⟩ := y1
    rw [v1] at h; simp only at h
    obtain ⟨a1, a2, a3, a4⟩ := gterm_inv hb v1 ht
    cases v2 : gVar zs t1 with
    | none => rw [v2] at h; cases h
    | some y2 =>
    obtain ⟨l, t2⟩ := y2
    rw [v2] at h; simp only at h
    obtain ⟨b1, _⟩ := gvar_inv hb v2
    cases h
    refine ⟨k4.symm, ?_⟩
    simp only [bodyM, show (4 : Int) ≠ 1 by decide, show (4 : Int) ≠ 2 by decide, if_false, if_true]
    rw [a1, b1]
    simp [List.append_assoc]
  rw [if_neg k4] at h
  by_cases k8 : k = 8
  · rw [if_pos k8] at h
    cases v1 : hFlag zs t with
    | none => rw [v1] at h; cases h
    | some y1 =>
    obtain ⟨f, t1⟩ := y1
    rw [v1] at h; simp only at h
    obtain ⟨a1, a2⟩ := hflag_inv v1
    cases v2 : hGive zs t1 with
    | none => rw [v2] at h; cases h
    | some y2 =>
    obtain ⟨p, t2⟩ := y2
    rw [v2] at h; simp only at h
    obtain ⟨b1, _⟩ := hgive_inv hb v2
    cases h
    refine ⟨k8.symm, ?_⟩
    simp only [bodyM, show (8 : Int) ≠ 1 by decide, show (8 : Int) ≠ 2 by decide, show (8 : Int) ≠ 4 by decide, if_false, if_true]
    rw [a1, b1]
    simp [List.append_assoc]
  rw [if_neg k8] at h
  by_cases k11 : k = 11
  · rw [if_pos k11] at h
    cases h
    refine ⟨k11.symm, ?_⟩
    simp only [bodyM, show (11 : Int) ≠ 1 by decide, show (11 : Int) ≠ 2 by decide, show (11 : Int) ≠ 4 by decide, show (11 : Int) ≠ 8 by decide, if_false, if_true]
    rw [show max t zs.length = zs.length by omega, List.drop_length, List.append_nil]
  rw [if_neg k11] at h
  by_cases k15 : k = 15 ∨ k = 20
  · rw [if_pos k15] at h
    cases v1 : gTerm zs t with
    | none => rw [v1] at h; cases h
    | some y1 =>
    obtain ⟨m, t1⟩ := y1
    rw [v1] at h; simp only at h
    obtain ⟨a1, _⟩ := gterm_inv hb v1 ht
    cases h
    refine ⟨rfl, ?_⟩
    simp only [bodyM, if_neg k1, if_neg k2, if_neg k4, if_neg k8, if_neg k11]
    exact a1
  rw [if_neg k15] at h
  cases h
/-- What is read is written as it was. -/
theorem hread_again {ok : List Int → Bool} {zs : List Int} (hb : Byt zs) {x : Hm} (h : hRead ok zs = some x) : wrM x = zs := by
  obtain ⟨⟨h1, h2, h3⟩, h4, _⟩ := hread_one h
  obtain ⟨e1, e2⟩ := hparse_inv hb h4 h1
  rw [List.drop_length, List.append_nil] at e2
  have hbl : ((bodyM x).length : Int) = lenH zs := by
    have := congrArg List.length e2
    simp only [List.length_drop] at this
    omega
  unfold wrM
  rw [hbl, ← e2, e1]
  match zs, h1 with
  | a :: b :: c :: d :: r, _ =>
    have k1 := hb b (by simp)
    have k2 := hb c (by simp)
    have k3 := hb d (by simp)
    simp [lenH, gbig]
    omega
#print axioms hread_back
#print axioms hread_again
end Go.Proofs.YtefcjggmlhoebaaDoor
namespace Go.Proofs.YtefcjggmlhoebaaDoor
open Go Go.RowKit

theorem jbytes_b {zs : List Int} {n : Nat} {s : JS} (h : s.b = true) : (jBytes zs n s).2.b = true := by rw [jbytes_bad h]; exact h
theorem jterm_b {zs : List Int} {s : JS} (h : s.b = true) : (jTerm zs s).2.b = true := by unfold jTerm; simp [jbytes_b h]
theorem jflag_b {zs : List Int} {s : JS} (h : s.b = true) : (jFlag zs s).2.b = true := by
  unfold jFlag
  rw [if_pos (jbytes_b h)]
  exact jbytes_b h
theorem hnumd_big {l : List Int} (hl : l.length = 4) : numd l = if 1 ≤ bigv l 0 ∧ bigv l 0 ≤ 65536 then bigv l 0 else 0 := by
  obtain ⟨a, b, c, d, rfl⟩ := four hl
  have e : bigv [a, b, c, d] 0 = ((a * 256 + b) * 256 + c) * 256 + d := by simp [bigv]; omega
  unfold numd
  rw [e]
  simp [say4]
theorem hterm_open {zs : List Int} {t : Nat} : (gBytes zs 4 t = none ∧ gTerm zs t = none) ∨ ∃ l, gBytes zs 4 t = some (l, t + 4) ∧ l.length = 4 ∧ ((numd l = 0 ∧ gTerm zs t = none) ∨ (numd l ≠ 0 ∧ gTerm zs t = some (numd l, t + 4) ∧ 1 ≤ numd l ∧ numd l ≤ 65536)) := by
  unfold gTerm
  unfold gBytes
  by_cases h : (zs.drop t).length < 4
  · rw [if_pos h]; exact .inl ⟨rfl, rfl⟩
  · rw [if_neg h]
    have hl : ((zs.drop t).take 4).length = 4 := by
      rw [List.length_take]; omega
    refine .inr ⟨_, rfl, hl, ?_⟩
    rw [hnumd_big hl]
    simp only
    by_cases h2 : 1 ≤ bigv ((zs.drop t).take 4) 0 ∧ bigv ((zs.drop t).take 4) 0 ≤ 65536
    · rw [if_pos h2, if_pos h2]; exact .inr ⟨by omega, rfl, h2⟩
    · rw [if_neg h2, if_neg h2]; exact .inl ⟨rfl, rfl⟩
theorem hjterm_eq {zs : List Int} (t : Nat) : ((jTerm zs ⟨t, false⟩).2.b = true ∧ gTerm zs t = none) ∨ ∃ h t', jTerm zs ⟨t, false⟩ = (h, ⟨t', false⟩) ∧ gTerm zs t = some (h, t') := by
  unfold jTerm
  rcases hterm_open (zs := zs) (t := t) with ⟨h1, h2⟩ | ⟨l, h1, _, ⟨h2, h3⟩ | ⟨h2, h3, _⟩⟩
  · left; rw [jbytes_no h1]; exact ⟨rfl, h2⟩
  · left; rw [jbytes_yes h1]; exact ⟨by simp [h2], h3⟩
  · right; rw [jbytes_yes h1]; exact ⟨_, _, by simp [h2], h3⟩
theorem hjflag_eq {zs : List Int} (hb : Byt zs) (t : Nat) : ((jFlag zs ⟨t, false⟩).2.b = true ∧ hFlag zs t = none) ∨ ∃ f t', jFlag zs ⟨t, false⟩ = (f, ⟨t', false⟩) ∧ hFlag zs t = some (f, t') := by
  unfold jFlag hFlag
  cases hz : zs.drop t with
  | nil =>
    left
    have h1 : gBytes zs 1 t = none := by unfold gBytes; rw [if_pos (by rw [hz]; simp)]
    rw [jbytes_no h1]
    exact ⟨by simp, rfl⟩
  | cons z r =>
    have h1 : gBytes zs 1 t = some ([z], t + 1) := by unfold gBytes; rw [hz]; simp
    have hzb := (hb.drop t) z (by rw [hz]; simp)
    rw [jbytes_yes h1]
    simp only [List.getD_cons_zero]
    by_cases h0 : z = 0
    · right; subst h0; exact ⟨false, t + 1, by simp, by simp⟩
    · by_cases h2 : z = 1
      · right; subst h2; exact ⟨true, t + 1, by simp, by simp⟩
      · left
        rw [if_neg (by decide), if_pos (by omega), if_neg h0, if_neg h2]
        exact ⟨rfl, rfl⟩
/-- Bytes behind their length. -/
def jGive (zs : List Int) (s : JS) : List Int × JS := if s.b = true then ([], s) else match hGive zs s.t with | some (p, t) => (p, ⟨t, false⟩) | none => ([], ⟨s.t, true⟩)
theorem jgive_b {zs : List Int} {s : JS} (h : s.b = true) : (jGive zs s).2.b = true := by unfold jGive; rw [if_pos h]; exact h
theorem hjgive_eq {zs : List Int} (t : Nat) : ((jGive zs ⟨t, false⟩).2.b = true ∧ hGive zs t = none) ∨ ∃ p t', jGive zs ⟨t, false⟩ = (p, ⟨t', false⟩) ∧ hGive zs t = some (p, t') := by
  unfold jGive
  cases h : hGive zs t with
  | none => left; simp
  | some x => right; obtain ⟨p, t'⟩ := x; exact ⟨p, t', by simp, rfl⟩
/-- A lifetime. -/
def jLife (zs : List Int) (s : JS) : Int × JS := ((rd (zs.drop s.t)).1, (jBytes zs (rd (zs.drop s.t)).2.1.toNat ⟨s.t, s.b || decide ((rd (zs.drop s.t)).2.2 ≠ 0)⟩).2)
theorem jlife_b {zs : List Int} {s : JS} (h : s.b = true) : (jLife zs s).2.b = true := by unfold jLife; exact jbytes_b (by simp [h])
theorem hjlife_eq {zs : List Int} (hb : Byt zs) (t : Nat) : ((jLife zs ⟨t, false⟩).2.b = true ∧ gVar zs t = none) ∨ ∃ l t', jLife zs ⟨t, false⟩ = (l, ⟨t', false⟩) ∧ gVar zs t = some (l, t') := by
  unfold jLife gVar
  rcases rd_size (hb.drop t) with ⟨h1, _, k, hk, _, _, hl⟩ | ⟨_, _, h1⟩
  · right
    have hg : gBytes zs k t = some ((zs.drop t).take k, t + k) := by unfold gBytes; rw [if_neg (by omega)]
    rw [if_pos h1, h1, hk, Int.toNat_natCast]
    exact ⟨_, t + k, by simp [jbytes_yes hg], rfl⟩
  · left
    have hne : (rd (zs.drop t)).2.2 ≠ 0 := by omega
    rw [if_neg hne]
    exact ⟨jbytes_b (by simp [hne]), rfl⟩
def jTermIf (has : Bool) (zs : List Int) (s : JS) : Int × JS := if has = true then jTerm zs s else (0, s)
theorem jtermif_b {zs : List Int} {has : Bool} {s : JS} (h : s.b = true) : (jTermIf has zs s).2.b = true := by
  unfold jTermIf
  split
  · exact jterm_b h
  · exact h
theorem hjtermif_eq {zs : List Int} (has : Bool) (t : Nat) : ((jTermIf has zs ⟨t, false⟩).2.b = true ∧ hTermIf has zs t = none) ∨ ∃ h t', jTermIf has zs ⟨t, false⟩ = (h, ⟨t', false⟩) ∧ hTermIf has zs t = some (h, t') := by
  unfold jTermIf hTermIf
  cases has with
  | true => simpa using hjterm_eq t
  | false => right; exact ⟨0, t, by simp, by simp⟩
/-- What the document's reader makes of a body of kind k. -/
def jMsg (zs : List Int) (k : Int) (t : Nat) : Hm × JS :=
  if k = 1 then
    let r := jTerm zs ⟨t, false⟩
    let s := jTerm zs r.2
    let f := jFlag zs s.2
    let has := jFlag zs f.2
    let tk := jTermIf has.1 zs has.2
    let p := jGive zs tk.2
    let m := jTermIf has.1 zs p.2
    (⟨1, r.1, s.1, tk.1, m.1, f.1, p.1, [], 0, 0⟩, m.2)
  else if k = 2 then
    let r := jTerm zs ⟨t, false⟩
    let s := jTerm zs r.2
    let v := jBytes zs 4 s.2
    let f := jFlag zs v.2
    (⟨2, r.1, s.1, 0, 0, f.1, [], [], bigv v.1 0, 0⟩, f.2)
  else if k = 4 then
    let tk := jTerm zs ⟨t, false⟩
    let l := jLife zs tk.2
    (⟨4, 0, 0, tk.1, 0, false, [], [], 0, l.1⟩, l.2)
  else if k = 8 then
    let f := jFlag zs ⟨t, false⟩
    let p := jGive zs f.2
    (⟨8, 0, 0, 0, 0, f.1, p.1, [], 0, 0⟩, p.2)
  else if k = 11 then
    let n := jBytes zs (zs.length - t) ⟨t, false⟩
    (⟨11, 0, 0, 0, 0, false, [], n.1, 0, 0⟩, n.2)
  else if k = 15 ∨ k = 20 then
    let m := jTerm zs ⟨t, false⟩
    (⟨k, 0, 0, 0, m.1, false, [], [], 0, 0⟩, m.2)
  else (⟨k, 0, 0, 0, 0, false, [], [], 0, 0⟩, ⟨t, false⟩)
theorem right_kinds {ok : List Int → Bool} {x : Hm} (h : rightM ok x) : x.k = 1 ∨ x.k = 2 ∨ x.k = 4 ∨ x.k = 8 ∨ x.k = 11 ∨ x.k = 15 ∨ x.k = 20 := by
  rcases h with h | h | h | h | h | h
  · exact .inl h.1
  · exact .inr (.inl h.1)
  · exact .inr (.inr (.inl h.1))
  · exact .inr (.inr (.inr (.inl h.1)))
  · exact .inr (.inr (.inr (.inr (.inl h.1))))
  · exact .inr (.inr (.inr (.inr (.inr h.1))))
/-- The reader's message is the bytes' message, or both are none. -/
theorem jmsg_eq (ok : List Int → Bool) {zs : List Int} (hb : Byt zs) {k : Int} {t : Nat} (ht : t ≤ zs.length) :
    (((jMsg zs k t).2.b = true ∨ ¬ rightM ok (jMsg zs k t).1) ∧ hParse zs k t = none) ∨ ((jMsg zs k t).2.b = false ∧ hParse zs k t = some ((jMsg zs k t).1, (jMsg zs k t).2.t)) := by
  unfold jMsg hParse
  by_cases k1 : k = 1
  · simp only [if_pos k1]
    rcases hjterm_eq (zs := zs) t with ⟨a1, a2⟩ | ⟨r, t1, a1, a2⟩
    · left; exact ⟨.inl (jtermif_b (jgive_b (jtermif_b (jflag_b (jflag_b (jterm_b a1)))))), by rw [a2]⟩
    rw [a1, a2]
    simp only
    rcases hjterm_eq (zs := zs) t1 with ⟨b1, b2⟩ | ⟨s, t2, b1, b2⟩
    · left; exact ⟨.inl (jtermif_b (jgive_b (jtermif_b (jflag_b (jflag_b b1))))), by rw [b2]⟩
    rw [b1, b2]
    simp only
    rcases hjflag_eq hb t2 with ⟨c1, c2⟩ | ⟨f, t3, c1, c2⟩
    · left; exact ⟨.inl (jtermif_b (jgive_b (jtermif_b (jflag_b c1)))), by rw [c2]⟩
    rw [c1, c2]
    simp only
    rcases hjflag_eq hb t3 with ⟨d1, d2⟩ | ⟨has, t4, d1, d2⟩
    · left; exact ⟨.inl (jtermif_b (jgive_b (jtermif_b d1))), by rw [d2]⟩
    rw [d1, d2]
    simp only
    rcases hjtermif_eq (zs := zs) has t4 with ⟨e1, e2⟩ | ⟨tk, t5, e1, e2⟩
    · left; exact ⟨.inl (jtermif_b (jgive_b e1)), by rw [e2]⟩
    rw [e1, e2]
    simp only
    rcases hjgive_eq (zs := zs) t5 with ⟨f1, f2⟩ | ⟨p, t6, f1, f2⟩
    · left; exact ⟨.inl (jtermif_b f1), by rw [f2]⟩
    rw [f1, f2]
    simp only
    rcases hjtermif_eq (zs := zs) has t6 with ⟨g1, g2⟩ | ⟨m, t7, g1, g2⟩
    · left; exact ⟨.inl g1, by rw [g2]⟩
    rw [g1, g2]
    right; exact ⟨rfl, rfl⟩
  simp only [if_neg k1]
  by_cases k2 : k = 2
  · simp only [if_pos k2]
    rcases hjterm_eq (zs := zs) t with ⟨a1, a2⟩ | ⟨r, t1, a1, a2⟩
    · left; exact ⟨.inl (jflag_b (jbytes_b (jterm_b a1))), by rw [a2]⟩
    rw [a1, a2]
    simp only
    rcases hjterm_eq (zs := zs) t1 with ⟨b1, b2⟩ | ⟨s, t2, b1, b2⟩
    · left; exact ⟨.inl (jflag_b (jbytes_b b1)), by rw [b2]⟩
    rw [b1, b2]
    simp only
    cases c2 : gBytes zs 4 t2 with
    | none =>
      left
      rw [jbytes_no c2]
      exact ⟨.inl (jflag_b rfl), rfl⟩
    | some x =>
      obtain ⟨v, t3⟩ := x
      rw [jbytes_yes c2]
      simp only
      rcases hjflag_eq hb t3 with ⟨d1, d2⟩ | ⟨f, t4, d1, d2⟩
      · left; exact ⟨.inl d1, by rw [d2]⟩
      rw [d1, d2]
      right; exact ⟨rfl, rfl⟩
  simp only [if_neg k2]
  by_cases k4 : k = 4
  · simp only [if_pos k4]
    rcases hjterm_eq (zs := zs) t with ⟨a1, a2⟩ | ⟨tk, t1, a1, a2⟩
    · left; exact ⟨.inl (jlife_b a1), by rw [a2]⟩
    rw [a1, a2]
    simp only
    rcases hjlife_eq hb t1 with ⟨b1, b2⟩ | ⟨l, t2, b1, b2⟩
    · left; exact ⟨.inl b1, by rw [b2]⟩
    rw [b1, b2]
    right; exact ⟨rfl, rfl⟩
  simp only [if_neg k4]
  by_cases k8 : k = 8
  · simp only [if_pos k8]
    rcases hjflag_eq hb t with ⟨a1, a2⟩ | ⟨f, t1, a1, a2⟩
    · left; exact ⟨.inl (jgive_b a1), by rw [a2]⟩
    rw [a1, a2]
    simp only
    rcases hjgive_eq (zs := zs) t1 with ⟨b1, b2⟩ | ⟨p, t2, b1, b2⟩
    · left; exact ⟨.inl b1, by rw [b2]⟩
    rw [b1, b2]
    right; exact ⟨rfl, rfl⟩
  simp only [if_neg k8]
  by_cases k11 : k = 11
  · simp only [if_pos k11]
    have hg : gBytes zs (zs.length - t) t = some (zs.drop t, zs.length) := by
      unfold gBytes
      rw [if_neg (by simp), List.take_of_length_le (by simp)]
      congr 2; omega
    rw [jbytes_yes hg]
    right
    refine ⟨rfl, ?_⟩
    rw [show max t zs.length = zs.length by omega]
  simp only [if_neg k11]
  by_cases k15 : k = 15 ∨ k = 20
  · simp only [if_pos k15]
    rcases hjterm_eq (zs := zs) t with ⟨a1, a2⟩ | ⟨m, t1, a1, a2⟩
    · left; exact ⟨.inl a1, by rw [a2]⟩
    rw [a1, a2]
    right; exact ⟨rfl, rfl⟩
  simp only [if_neg k15]
  left
  refine ⟨.inr fun h => ?_, trivial⟩
  have := right_kinds h
  simp only at this
  rcases this with h | h | h | h | h | h | h
  · exact k1 h
  · exact k2 h
  · exact k4 h
  · exact k8 h
  · exact k11 h
  · exact k15 (.inl h)
  · exact k15 (.inr h)
#print axioms jmsg_eq
end Go.Proofs.YtefcjggmlhoebaaDoor
