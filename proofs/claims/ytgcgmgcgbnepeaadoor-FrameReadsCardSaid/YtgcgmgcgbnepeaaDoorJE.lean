/- The document's Read of frames tells what bytes are as frames. -/
import Derived.Test.YtgcgmgcgbnepeaaDoorGNmd
import Derived.Test.YtgcgmgcgbnepeaaDoorGPure
import Derived.Test.YtgcgmgcgbnepeaaDoorRefRead
import Derived.Deep.QuietTactic
import Derived.BigQuiet
import Derived.Laws.Cover3
import Derived.Test.YtgcgmgcgbnepeaaDoorGRd4
import Derived.Test.YtgcgmgcgbnepeaaDoorGRd10
import Derived.Test.YtgcgmgcgbnepeaaDoorGOf
import Derived.Test.YtgcgmgcgbnepeaaDoorGRf
namespace Go.Proofs.YtgcgmgcgbnepeaaDoor
open Go Go.RowKit

/-- Where the document's reader stands: how many bytes are taken, and whether something was bad. -/
structure JS where
  t : Nat
  b : Bool
def jNum (zs : List Int) (s : JS) : Int × JS := if s.b = true then (0, s) else match gVar zs s.t with | some (n, t) => (n, ⟨t, false⟩) | none => (0, ⟨s.t, true⟩)
def jBytes (zs : List Int) (n : Nat) (s : JS) : List Int × JS := if s.b = true then ([], s) else match gBytes zs n s.t with | some (l, t) => (l, ⟨t, false⟩) | none => ([], ⟨s.t, true⟩)
def jTerm (zs : List Int) (s : JS) : Int × JS := (numd (jBytes zs 4 s).1, ⟨(jBytes zs 4 s).2.t, (jBytes zs 4 s).2.b || decide (numd (jBytes zs 4 s).1 = 0)⟩)
theorem jnum_bad {zs : List Int} {s : JS} (h : s.b = true) : jNum zs s = (0, s) := if_pos h
theorem jnum_no {zs : List Int} {t : Nat} (h : gVar zs t = none) : jNum zs ⟨t, false⟩ = (0, ⟨t, true⟩) := by simp [jNum, h]
theorem jnum_yes {zs : List Int} {t t' : Nat} {n : Int} (h : gVar zs t = some (n, t')) : jNum zs ⟨t, false⟩ = (n, ⟨t', false⟩) := by simp [jNum, h]
theorem jbytes_bad {zs : List Int} {n : Nat} {s : JS} (h : s.b = true) : jBytes zs n s = ([], s) := if_pos h
theorem jbytes_no {zs : List Int} {n t : Nat} (h : gBytes zs n t = none) : jBytes zs n ⟨t, false⟩ = ([], ⟨t, true⟩) := by simp [jBytes, h]
theorem jbytes_yes {zs l : List Int} {n t t' : Nat} (h : gBytes zs n t = some (l, t')) : jBytes zs n ⟨t, false⟩ = (l, ⟨t', false⟩) := by simp [jBytes, h]

/-- The document's reader in the box I. -/
structure Jq (w0 w : World) (I : Nat) (zs : List Int) (s : JS) : Prop where
  bel : Below w0.heap.size w0 w
  lo : w0.heap.size ≤ I
  tl : s.t ≤ zs.length
  sz : zs.length ≤ 1000000
  box : ∃ rv, w.heap[I]? = some (.cells #[rv, .bool s.b] 68 (0, 0)) ∧ Rd w0 rv (zs.drop s.t) ∧ Plain rv
theorem Jq.lt {w0 w : World} {I : Nat} {zs : List Int} {s : JS} (h : Jq w0 w I zs s) : I < w.heap.size := by
  obtain ⟨rv, hb, _⟩ := h.box
  exact (Array.getElem?_eq_some_iff.1 hb).1
theorem Jq.cells {w0 w : World} {I : Nat} {zs : List Int} {s : JS} (h : Jq w0 w I zs s) : ∃ ao n cap, n + s.t = zs.length ∧ Rd w0 (.slice ao n cap) (zs.drop s.t) ∧ Plain (.slice ao n cap) ∧ n ≤ cap ∧ cap ≤ 9223372036854775807 ∧ w.cell? ⟨I, 0, none⟩ = some (.slice ao n cap) ∧ w.cell? ⟨I, 1, none⟩ = some (.bool s.b) ∧ ∀ j, w.frozen? ⟨I, j, none⟩ = false := by
  obtain ⟨rv, hb, hr, hp⟩ := h.box
  have hr' := hr
  obtain ⟨ao, cap, rfl, h1, h2, _⟩ := hr'
  unfold maxLen at h2
  have ht := h.tl
  exact ⟨ao, _, cap, by simp; omega, hr, hp, h1, by omega, (cell_of_row _ I 0 _ _ (0, 0) hb).trans rfl, (cell_of_row _ I 1 _ _ (0, 0) hb).trans rfl, fun j => by simp [World.frozen?, hb]⟩
theorem Jq.but {w0 w w' : World} {I K : Nat} {zs : List Int} {s : JS} (h : Jq w0 w I zs s) (hb : But K w w') (hK : w0.heap.size ≤ K) (hne : I ≠ K) : Jq w0 w' I zs s := by
  obtain ⟨rv, h1, h2⟩ := h.box
  exact ⟨hb.below h.bel hK, h.lo, h.tl, h.sz, rv, by rw [hb.block I h.lt hne]; exact h1, h2⟩
theorem Jq.keep {w0 w w' : World} {I : Nat} {zs : List Int} {s : JS} (h : Jq w0 w I zs s) (hb : Below w.heap.size w w') : Jq w0 w' I zs s := by
  obtain ⟨rv, h1, h2⟩ := h.box
  exact ⟨h.bel.trans (hb.mono h.bel.size), h.lo, h.tl, h.sz, rv, by rw [hb.block I h.lt]; exact h1, h2⟩
theorem Jq.setb {w0 w : World} {I : Nat} {zs : List Int} {s : JS} (h : Jq w0 w I zs s) (x : Bool) : Jq w0 (w.setCell ⟨I, 1, none⟩ (.bool x)) I zs ⟨s.t, x⟩ := by
  obtain ⟨rv, hb, hr⟩ := h.box
  have e0 := heap_setCell_same _ _ 1 _ _ (.bool x) hb
  simp only [List.setIfInBounds_toArray, List.set_cons_zero, List.set_cons_succ] at e0
  exact ⟨h.bel.setCell (p := ⟨I, 1, none⟩) h.lo _, h.lo, h.tl, h.sz, rv, e0, hr⟩
theorem Jq.setr {w0 w : World} {I : Nat} {zs : List Int} {s : JS} (h : Jq w0 w I zs s) (t' : Nat) (ht : t' ≤ zs.length) (rv : Value) (hr : Rd w0 rv (zs.drop t')) (hp : Plain rv) : Jq w0 (w.setCell ⟨I, 0, none⟩ rv) I zs ⟨t', s.b⟩ := by
  obtain ⟨rv0, hb, _⟩ := h.box
  have e0 := heap_setCell_same _ _ 0 _ _ rv hb
  simp only [List.setIfInBounds_toArray, List.set_cons_zero] at e0
  exact ⟨h.bel.setCell (p := ⟨I, 0, none⟩) h.lo _, h.lo, ht, h.sz, rv, e0, hr, hp⟩
theorem Jq.to {w0 w : World} {I : Nat} {zs : List Int} {s s' : JS} (h : Jq w0 w I zs s) (e : s = s') : Jq w0 w I zs s' := e ▸ h
theorem jrd_part {w : World} {ao : Option Addr} {n cap : Nat} {zs : List Int} (h : Rd w (.slice ao n cap) zs) (hp : Plain (.slice ao n cap)) (k : Nat) (hk : k ≤ n) (o : Option Addr) (ho : o = Option.map (fun x => x.add k) ao ∨ cap = k ∧ o = ao) :
    (Rd w (.slice ao k cap) (zs.take k) ∧ Plain (.slice ao k cap)) ∧ (Rd w (.slice o (n - k) (cap - k)) (zs.drop k) ∧ Plain (.slice o (n - k) (cap - k))) := by
  obtain ⟨ao', cap', e, h1, h2, h3, h4, h5⟩ := h
  simp only [Value.slice.injEq] at e
  obtain ⟨rfl, rfl, rfl⟩ := e
  have hlt : (zs.take k).length = k := by simp; omega
  have hld : (zs.drop k).length = zs.length - k := by simp
  rcases hp with hp | ⟨b, off, n', c', hp⟩
  · simp only [Value.slice.injEq] at hp
    obtain ⟨rfl, hz, rfl⟩ := hp
    have hk0 : k = 0 := by omega
    have hzs : zs = [] := List.eq_nil_of_length_eq_zero hz
    subst hk0; subst hzs
    have ho2 : o = none := by rcases ho with rfl | ⟨_, rfl⟩ <;> rfl
    subst ho2
    exact ⟨⟨by simpa using Rd.nil w, .inl (by simp)⟩, by simpa using Rd.nil w, .inl (by simp)⟩
  · simp only [Value.slice.injEq] at hp
    obtain ⟨rfl, _, _⟩ := hp
    have e : (⟨b, off, none⟩ : Addr).add k = ⟨b, off + k, none⟩ := Addr.add_lit _ _ _
    refine ⟨⟨⟨_, cap, by rw [hlt], by omega, by omega, (fun h => by cases h), h4.take k, fun a ha j hj => ?_⟩, .inr ⟨_, _, _, _, rfl⟩⟩, ⟨?_, ?_⟩⟩
    · cases ha
      rw [hlt] at hj
      have := h5 _ rfl j (by omega)
      rw [this]
      simp [List.getD, hj]
    · have ho2 : o = some ⟨b, off + k, none⟩ ∨ cap = k ∧ o = some ⟨b, off, none⟩ := by
        rcases ho with rfl | ⟨h, rfl⟩
        · exact .inl (by simp [e])
        · exact .inr ⟨h, rfl⟩
      rcases ho2 with rfl | ⟨hc, rfl⟩
      · refine ⟨_, cap - k, by rw [hld], by omega, by omega, (fun h => by cases h), h4.drop k, fun a ha j hj => ?_⟩
        cases ha
        rw [hld] at hj
        have := h5 _ rfl (k + j) (by omega)
        rw [Addr.add_lit] at this ⊢
        rw [show off + k + j = off + (k + j) from by omega, this]
        simp [List.getD]
      · refine ⟨_, cap - k, by rw [hld], by omega, by omega, (fun h => by cases h), h4.drop k, fun a ha j hj => ?_⟩
        rw [hld] at hj
        omega
    · rcases ho with rfl | ⟨_, rfl⟩
      · simp only [Option.map_some, e]; exact .inr ⟨_, _, _, _, rfl⟩
      · exact .inr ⟨_, _, _, _, rfl⟩
theorem jrd_cut {w : World} {ao : Option Addr} {n cap t : Nat} {zs : List Int} (h : Rd w (.slice ao n cap) (zs.drop t)) (hp : Plain (.slice ao n cap)) (k : Nat) (hk : k ≤ n) :
    (Rd w (.slice ao k cap) ((zs.drop t).take k) ∧ Plain (.slice ao k cap)) ∧ (Rd w (.slice (Option.map (fun x => x.add k) ao) (n - k) (cap - k)) (zs.drop (t + k)) ∧ Plain (.slice (Option.map (fun x => x.add k) ao) (n - k) (cap - k))) ∧ (cap = k → (Rd w (.slice ao (n - k) 0) (zs.drop (t + k)) ∧ Plain (.slice ao (n - k) 0)) ∧ (Rd w (.slice ao k k) ((zs.drop t).take k) ∧ Plain (.slice ao k k))) := by
  have h1 := jrd_part h hp k hk _ (.inl rfl)
  rw [List.drop_drop] at h1
  refine ⟨h1.1, h1.2, fun hc => ⟨?_, by have := h1.1; rw [hc] at this; exact this⟩⟩
  have h2 := (jrd_part h hp k hk ao (.inr ⟨hc, rfl⟩)).2
  rw [List.drop_drop, hc, Nat.sub_self] at h2
  exact h2
set_option maxRecDepth 20000 in
set_option maxHeartbeats 2000000 in
theorem jnum_any {w0 w : World} {I : Nat} {zs : List Int} {s : JS} (h : Jq w0 w I zs s) (hbt : Byt zs) :
    Calls Tryd.prog 34 #[.pointer (some ⟨I, 0, none⟩)] w fun e w' => e = .returned (.int .i64 (jNum zs s).1) ∧ Jq w0 w' I zs (jNum zs s).2 ∧ But I w w' := by
  obtain ⟨ao, n, cap, hn, hr, hp, hlc, hcap, c0, c1, cf⟩ := h.cells
  have hread := refread_any (hr.below h.bel)
  have HQ := Lib.hid h
  obtain ⟨t, b⟩ := s
  simp only at hn hr c1 hread
  cases b with
  | true =>
    rw [jnum_bad rfl]
    have HS := Lib.hid ((h.setb true).to rfl)
    generalize rd (zs.drop t) = q at *
    obtain ⟨q1, q2, q3⟩ := q
    clear h hr hp hn hlc
    by_cases hq : q3 = 0
    · have hq' : (q3 != 0) = false := by simp [hq]
      clear hq
      go_enter Tryd.func34, Tryd.ntmps34
      go_wp2_with (go_at_call 48; refine hread.mono ?_; rintro e w1 ⟨rfl, rfl⟩)
      go_ret
      exact ⟨rfl, HS.out, But.set _ _ _ _⟩
    · have hq' : (q3 != 0) = true := by simp [hq]
      clear hq
      go_enter Tryd.func34, Tryd.ntmps34
      go_wp2_with (go_at_call 48; refine hread.mono ?_; rintro e w1 ⟨rfl, rfl⟩)
      go_ret
      exact ⟨rfl, HS.out, But.set _ _ _ _⟩
  | false =>
    rcases rd_size (hbt.drop t) with ⟨k3, _, m, hm, hm1, _, hml⟩ | ⟨_, _, k3⟩
    · have hg : gVar zs t = some ((rd (zs.drop t)).1, t + m) := by unfold gVar; rw [if_pos k3, hm]; rfl
      rw [jnum_yes hg]
      have hmn : m ≤ n := by simp only [List.length_drop] at hml; omega
      have HD := Lib.hid (jrd_cut hr hp m hmn)
      have HZ : Hid (t + m ≤ zs.length) := Lib.hid (by omega)
      simp only [hm, k3] at hread
      generalize (rd (zs.drop t)).1 = q1 at *
      have hmi : (m : Int) ≤ (n : Int) := by omega
      have hnc : (n : Int) ≤ (cap : Int) := by omega
      have hcapi : (cap : Int) ≤ 9223372036854775807 := by omega
      clear h hr hp hn hg hml hm k3
      go_enter Tryd.func34, Tryd.ntmps34
      go_wp2_with (go_at_call 48; refine hread.mono ?_; rintro e w1 ⟨rfl, rfl⟩)
      all_goals go_ret
      all_goals first
        | exact ⟨rfl, HQ.out.setr (t + m) HZ.out _ HD.out.2.1.1 HD.out.2.1.2, But.set _ _ _ _⟩
        | exact ⟨rfl, HQ.out.setr (t + m) HZ.out _ (HD.out.2.2 (by assumption)).1.1 (HD.out.2.2 (by assumption)).1.2, But.set _ _ _ _⟩
    · have hg : gVar zs t = none := by unfold gVar; rw [if_neg (by omega)]
      rw [jnum_no hg]
      have HS := Lib.hid ((h.setb true).to rfl)
      have hq' : ((rd (zs.drop t)).2.2 != 0) = true := by simp; omega
      generalize rd (zs.drop t) = q at *
      obtain ⟨q1, q2, q3⟩ := q
      simp only at hq'
      clear h hr hp hn hlc hg k3
      go_enter Tryd.func34, Tryd.ntmps34
      go_wp2_with (go_at_call 48; refine hread.mono ?_; rintro e w1 ⟨rfl, rfl⟩)
      go_ret
      exact ⟨rfl, HS.out, But.set _ _ _ _⟩
set_option maxRecDepth 20000 in
set_option maxHeartbeats 2000000 in
theorem jbytes_any {w0 w : World} {I : Nat} {zs : List Int} {s : JS} (h : Jq w0 w I zs s) (k : Int) (hk : 0 ≤ k) :
    Calls Tryd.prog 32 #[.pointer (some ⟨I, 0, none⟩), .int .i64 k] w fun e w' => ∃ v, e = .returned v ∧ (Rd w0 v (jBytes zs k.toNat s).1 ∧ Plain v) ∧ Jq w0 w' I zs (jBytes zs k.toNat s).2 ∧ But I w w' := by
  obtain ⟨m, rfl⟩ : ∃ m : Nat, k = m := ⟨k.toNat, by omega⟩
  rw [Int.toNat_natCast]
  obtain ⟨ao, n, cap, hn, hr, hp, hlc, hcap, c0, c1, cf⟩ := h.cells
  have HQ := Lib.hid h
  obtain ⟨t, b⟩ := s
  simp only at hn hr c1
  cases b with
  | true =>
    rw [jbytes_bad rfl]
    have HS := Lib.hid ((h.setb true).to rfl)
    clear h hr hp hn hlc
    go_enter Tryd.func32, Tryd.ntmps32
    go_wp2_with fail
    go_ret
    exact ⟨_, rfl, ⟨Rd.nil w0, .inl rfl⟩, HS.out, But.set _ _ _ _⟩
  | false =>
    by_cases hmn : n < m
    · have hg : gBytes zs m t = none := by unfold gBytes; rw [if_pos (by simp; omega)]
      rw [jbytes_no hg]
      have HS := Lib.hid ((h.setb true).to rfl)
      have hd : decide ((n : Int) < (m : Int)) = true := decide_eq_true (by omega)
      clear h hr hp hn hlc hg
      go_enter Tryd.func32, Tryd.ntmps32
      go_wp2_with fail
      go_ret
      exact ⟨_, rfl, ⟨Rd.nil w0, .inl rfl⟩, HS.out, But.set _ _ _ _⟩
    · have hg : gBytes zs m t = some ((zs.drop t).take m, t + m) := by unfold gBytes; rw [if_neg (by simp; omega)]
      rw [jbytes_yes hg]
      have hd : decide ((n : Int) < (m : Int)) = false := decide_eq_false (by omega)
      have HD := Lib.hid (jrd_cut hr hp m (by omega))
      have HZ : Hid (t + m ≤ zs.length) := Lib.hid (by omega)
      have hmi : (m : Int) ≤ (n : Int) := by omega
      have hnc : (n : Int) ≤ (cap : Int) := by omega
      have hcapi : (cap : Int) ≤ 9223372036854775807 := by omega
      clear h hr hp hn hg
      go_enter Tryd.func32, Tryd.ntmps32
      go_wp2_with fail
      all_goals go_ret
      all_goals first
        | exact ⟨_, rfl, HD.out.1, HQ.out.setr (t + m) HZ.out _ HD.out.2.1.1 HD.out.2.1.2, But.set _ _ _ _⟩
        | exact ⟨_, rfl, (HD.out.2.2 (by assumption)).2, HQ.out.setr (t + m) HZ.out _ (HD.out.2.2 (by assumption)).1.1 (HD.out.2.2 (by assumption)).1.2, But.set _ _ _ _⟩
theorem byt_jbytes {zs : List Int} (hb : Byt zs) (n : Nat) (s : JS) : Byt (jBytes zs n s).1 := by
  unfold jBytes
  split
  · exact Byt.nil
  · unfold gBytes
    split
    · rename_i h; split at h
      · cases h
      · cases h; exact (hb.drop _).take _
    · exact Byt.nil
set_option maxRecDepth 20000 in
set_option maxHeartbeats 2000000 in
theorem jterm_any {w0 w : World} {I : Nat} {zs : List Int} {s : JS} (h : Jq w0 w I zs s) (hbt : Byt zs) :
    Calls Tryd.prog 35 #[.pointer (some ⟨I, 0, none⟩)] w fun e w' => e = .returned (.int .i64 (jTerm zs s).1) ∧ Jq w0 w' I zs (jTerm zs s).2 ∧ But I w w' := by
  have hc := jbytes_any h 4 (by omega)
  have hby := byt_jbytes hbt 4 s
  unfold jTerm
  rw [show (4 : Int).toNat = 4 from rfl] at hc
  generalize jBytes zs 4 s = q at *
  obtain ⟨l, t2, b2⟩ := q
  simp only at hc hby
  obtain ⟨nn, hN⟩ : ∃ x, numd l = x := ⟨_, rfl⟩
  simp only [hN]
  clear h
  go_enter Tryd.func35, Tryd.ntmps35
  go_wp2_with fail
  refine hc.mono ?_
  rintro e w1 ⟨v, rfl, ⟨hr, hp⟩, hJ, hB⟩
  have hnd := rnumbered_any (hr.below hJ.bel) hby
  rw [hN] at hnd
  clear hc hr hp
  go_wp2_with fail
  refine hnd.mono ?_
  rintro e w2 ⟨rfl, m, rfl⟩
  have HB := Lib.hid (hB.trans (But.drewN m))
  have hJ2 : Jq w0 (w1.drewN m) I zs ⟨t2, b2⟩ := ⟨(But.drewN (B := I) m).below hJ.bel hJ.lo, hJ.lo, hJ.tl, hJ.sz, hJ.box⟩
  obtain ⟨_, _, _, _, _, _, _, _, c0, c1, cf⟩ := hJ2.cells
  have HS := fun x => Lib.hid ((hJ2.setb x).to rfl)
  generalize w1.drewN m = w3 at *
  simp only at c1
  clear hJ hB hnd hJ2 c0
  cases b2 with
  | true =>
    go_wp2_with fail
    go_ret
    exact ⟨rfl, (HS _).out, HB.out.trans (But.set _ _ _ _)⟩
  | false =>
    by_cases hn : nn = 0
    · subst hn
      go_wp2_with fail
      go_ret
      exact ⟨rfl, (HS true).out, HB.out.trans (But.set _ _ _ _)⟩
    · have h1 : (nn == 0) = false := by simp [hn]
      have h2 : decide (nn = 0) = false := decide_eq_false hn
      have HS2 : Hid (∀ W, Jq w0 W I zs ⟨t2, false⟩ → Jq w0 W I zs ⟨t2, false || decide (nn = 0)⟩) := Lib.hid fun W h => h.to (by rw [h2]; rfl)
      clear hn h2
      go_wp2_with fail
      go_ret
      exact ⟨rfl, HS2.out _ (HS _).out, HB.out.trans (But.set _ _ _ _)⟩
#print axioms jnum_any
#print axioms jbytes_any
#print axioms jterm_any
end Go.Proofs.YtgcgmgcgbnepeaaDoor
namespace Go.Proofs.YtgcgmgcgbnepeaaDoor
open Go Go.RowKit

def jAckL (zs : List Int) : Nat → Bool → Int → JS → List Sp × JS
  | 0, _, _, s => ([], s)
  | m + 1, first, to, s =>
    if s.b = true then ([], s)
    else
      let g := if first = true then (0, s) else jNum zs s
      let to1 := if first = true then to else to - g.1 - 2
      let n := jNum zs g.2
      let r := jAckL zs m false (to1 - n.1) ⟨n.2.t, n.2.b || decide (to1 < 0) || decide (to1 < n.1)⟩
      ((to1 - n.1, to1) :: r.1, r.2)
def jAck (zs : List Int) (s : JS) : List Sp × JS :=
  let a := jNum zs s
  let m := jNum zs a.2
  if m.2.b = true ∨ 32 ≤ m.1 then ([], ⟨m.2.t, true⟩) else jAckL zs (m.1.toNat + 1) true a.1 m.2
theorem jackl_bad {zs : List Int} {m : Nat} {f : Bool} {to : Int} {s : JS} (h : s.b = true) : jAckL zs m f to s = ([], s) := by
  cases m with
  | zero => rfl
  | succ m => exact if_pos h
theorem jackl_first {zs : List Int} {m : Nat} {to : Int} {s s2 : JS} {n : Int} (h : s.b = false) (hn : jNum zs s = (n, s2)) :
    jAckL zs (m + 1) true to s = ((to - n, to) :: (jAckL zs m false (to - n) ⟨s2.t, s2.b || decide (to < 0) || decide (to < n)⟩).1, (jAckL zs m false (to - n) ⟨s2.t, s2.b || decide (to < 0) || decide (to < n)⟩).2) := by
  simp [jAckL, h, hn]
theorem jackl_next {zs : List Int} {m : Nat} {to : Int} {s s1 s2 : JS} {g n : Int} (h : s.b = false) (hg : jNum zs s = (g, s1)) (hn : jNum zs s1 = (n, s2)) :
    jAckL zs (m + 1) false to s = ((to - g - 2 - n, to - g - 2) :: (jAckL zs m false (to - g - 2 - n) ⟨s2.t, s2.b || decide (to - g - 2 < 0) || decide (to - g - 2 < n)⟩).1, (jAckL zs m false (to - g - 2 - n) ⟨s2.t, s2.b || decide (to - g - 2 < 0) || decide (to - g - 2 < n)⟩).2) := by
  simp [jAckL, h, hg, hn]
theorem jnum_bd {zs : List Int} (hb : Byt zs) (s : JS) : 0 ≤ (jNum zs s).1 ∧ (jNum zs s).1 < 4611686018427387904 := by
  unfold jNum
  split
  · simp
  · split
    · rename_i h; exact (gvar_inv hb h).2.1
    · simp

/-- What holds at the loop's head: the row of spans is the call's own. -/
structure Ak (w0 w : World) (I : Nat) (zs : List Int) (u : Value) (L : List Sp) (s : JS) (wr : World) : Prop where
  own : wr.ownsRow w.heap.size 55 2 u L.length (sc L)
  jq : Jq w0 wr I zs s
  but : But I w wr
  lt : I < w.heap.size
theorem But.bel {B lo : Nat} {w w1 w2 : World} (h : But B w w1) (hb : Below lo w1 w2) (hl : w.heap.size ≤ lo) : But B w w2 :=
  ⟨hb.os.trans h.os, hb.tape.trans h.tape, hb.output.trans h.output, Nat.le_trans h.size hb.size, fun k hk hn => (hb.block k (by omega)).trans (h.block k hk hn)⟩
theorem Ak.num {w0 w wr w1 : World} {I : Nat} {zs : List Int} {u : Value} {L : List Sp} {s s' : JS} (h : Ak w0 w I zs u L s wr) (hj : Jq w0 w1 I zs s') (hb : But I wr w1) : Ak w0 w I zs u L s' w1 :=
  ⟨own_keepG h.own fun k hk hl => hb.block k hk (by have := h.lt; omega), hj, h.but.trans hb, h.lt⟩
theorem Ak.setb {w0 w wr : World} {I : Nat} {zs : List Int} {u : Value} {L : List Sp} {s : JS} (h : Ak w0 w I zs u L s wr) (x : Bool) : Ak w0 w I zs u L ⟨s.t, x⟩ (wr.setCell ⟨I, 1, none⟩ (.bool x)) := h.num (h.jq.setb x) (But.set _ _ _ _)
theorem Ak.alloc {w0 w wr : World} {I : Nat} {zs : List Int} {u : Value} {L : List Sp} {s : JS} (h : Ak w0 w I zs u L s wr) (o : Obj) : Ak w0 w I zs u L s (wr.alloc o) :=
  have hb := below_alloc wr o
  ⟨own_keepG h.own fun k hk _ => hb.block k hk, h.jq.keep hb, h.but.trans (But.of_below hb), h.lt⟩
theorem Ak.app {w0 w wr w1 : World} {I : Nat} {zs : List Int} {u u2 : Value} {L : List Sp} {p : Sp} {s : JS} (h : Ak w0 w I zs u L s wr) (ho : w1.ownsRow w.heap.size 55 2 u2 (L.length + 1) (sc (L ++ [p]))) (hb : Below w.heap.size wr w1) : Ak w0 w I zs u2 (L ++ [p]) s w1 := by
  have hlt := h.lt
  have hlo := h.jq.lo
  obtain ⟨rv, h1, h2⟩ := h.jq.box
  refine ⟨by simpa using ho, ⟨h.jq.bel.trans (hb.mono (by omega)), hlo, h.jq.tl, h.jq.sz, rv, by rw [hb.block I hlt]; exact h1, h2⟩, h.but.bel hb (Nat.le_refl _), hlt⟩
theorem lit_span2 (w : World) (x y : Int) : Rs (w.alloc (.cells #[.int .i64 x, .int .i64 y] 55)) (.slice (some ⟨w.heap.size, 0, none⟩) 1 1) [(x, y)] := by
  refine ⟨_, 1, rfl, by simp, by simp [maxLen], (fun h => by cases h), fun a ha j hj => ?_⟩
  cases ha
  have hh := heap_alloc_new w (.cells #[.int .i64 x, .int .i64 y] 55)
  have hc := fun i => cell_of_row _ w.heap.size i _ _ (0, 0) hh
  have : j = 0 := by simp at hj; exact hj
  subst this
  exact ⟨(hc 0).trans rfl, (hc 1).trans rfl⟩
theorem ack_shift1 {zs : List Int} {M : Nat} {T n : Int} {s s2 : JS} {L : List Sp} {R : List Sp × JS} (hs : s.b = false) (hn : jNum zs s = (n, s2)) (h : R = (L ++ (jAckL zs (M + 1 - 0) (decide (0 = 0)) T s).1, (jAckL zs (M + 1 - 0) (decide (0 = 0)) T s).2)) :
    R = ((L ++ [(T - n, T)]) ++ (jAckL zs (M + 1 - (0 + 1)) (decide (0 + 1 = 0)) (T - n) ⟨s2.t, s2.b || decide (T < 0) || decide (T < n)⟩).1, (jAckL zs (M + 1 - (0 + 1)) (decide (0 + 1 = 0)) (T - n) ⟨s2.t, s2.b || decide (T < 0) || decide (T < n)⟩).2) := by
  rw [h, show M + 1 - 0 = M + 1 from rfl, show decide (0 = 0) = true from rfl, jackl_first hs hn, show M + 1 - (0 + 1) = M by omega, show decide (0 + 1 = 0) = false from rfl]
  simp
theorem ack_shift2 {zs : List Int} {M k : Nat} {T g n : Int} {s s1 s2 : JS} {L : List Sp} {R : List Sp × JS} (hk : 0 < k) (hm : k ≤ M) (hs : s.b = false) (hg : jNum zs s = (g, s1)) (hn : jNum zs s1 = (n, s2)) (h : R = (L ++ (jAckL zs (M + 1 - k) (decide (k = 0)) T s).1, (jAckL zs (M + 1 - k) (decide (k = 0)) T s).2)) :
    R = ((L ++ [(T - g - 2 - n, T - g - 2)]) ++ (jAckL zs (M + 1 - (k + 1)) (decide (k + 1 = 0)) (T - g - 2 - n) ⟨s2.t, s2.b || decide (T - g - 2 < 0) || decide (T - g - 2 < n)⟩).1, (jAckL zs (M + 1 - (k + 1)) (decide (k + 1 = 0)) (T - g - 2 - n) ⟨s2.t, s2.b || decide (T - g - 2 < 0) || decide (T - g - 2 < n)⟩).2) := by
  obtain ⟨j, rfl⟩ : ∃ j, M = k + j := ⟨M - k, by omega⟩
  rw [h, show k + j + 1 - k = j + 1 by omega, show decide (k = 0) = false from decide_eq_false (by omega), jackl_next hs hg hn, show k + j + 1 - (k + 1) = j by omega, show decide (k + 1 = 0) = false from decide_eq_false (by omega)]
  simp
def JAckPost (w0 w : World) (I : Nat) (zs : List Int) (q : List Sp × JS) (e : Ending) (w' : World) : Prop :=
  ∃ v, e = .returned v ∧ RsA w.heap.size w' v q.1 ∧ Jq w0 w' I zs q.2 ∧ But I w w'
theorem Ak.post {w0 w wr : World} {I : Nat} {zs : List Int} {u : Value} {L : List Sp} {s : JS} {q : List Sp × JS} (h : Ak w0 w I zs u L s wr) (e : q = (L, s)) : JAckPost w0 w I zs q (.returned u) wr := by
  subst e
  exact ⟨u, rfl, rsa_own h.own, h.jq, h.but⟩
set_option maxRecDepth 20000 in
set_option maxHeartbeats 4000000 in
theorem jack_any {w0 w : World} {I : Nat} {zs : List Int} {s : JS} (h : Jq w0 w I zs s) (hbt : Byt zs) :
    Calls Tryd.prog 33 #[.pointer (some ⟨I, 0, none⟩)] w (JAckPost w0 w I zs (jAck zs s)) := by
  have hc := jnum_any h hbt
  have HBT := Lib.hid hbt
  have hIlt := h.lt
  have hb1 := jnum_bd hbt s
  obtain ⟨a, sa, hA⟩ : ∃ a sa, jNum zs s = (a, sa) := ⟨_, _, rfl⟩
  rw [hA] at hc hb1
  have hb2 := jnum_bd hbt sa
  obtain ⟨m, sm, hM⟩ : ∃ a sa', jNum zs sa = (a, sa') := ⟨_, _, rfl⟩
  rw [hM] at hb2
  obtain ⟨R, hR⟩ : ∃ R, jAck zs s = R := ⟨_, rfl⟩
  rw [hR]
  simp only [jAck, hA, hM] at hR
  have HR := Lib.hid hR
  clear h hbt hR
  go_enter Tryd.func33, Tryd.ntmps33
  go_wp2_with fail
  refine hc.mono ?_
  rintro e w1 ⟨rfl, hJ1, hB1⟩
  have hc2 := jnum_any hJ1 HBT.out
  rw [hM] at hc2
  clear hc hJ1
  go_wp2_with fail
  refine hc2.mono ?_
  rintro e w2 ⟨rfl, hJ2, hB2⟩
  have HB := Lib.hid (hB1.trans hB2)
  have HJ := Lib.hid hJ2
  obtain ⟨t0, b0⟩ := sm
  obtain ⟨_, _, _, _, _, _, _, _, c0, c1, cf⟩ := hJ2.cells
  simp only at c1
  clear hc2 hJ2 hB1 hB2 c0
  cases b0 with
  | true =>
    go_wp2_with fail
    go_ret
    exact ⟨_, rfl, by rw [← HR.out]; exact RsA.nil _ _, by rw [← HR.out]; exact HJ.out.setb true, HB.out.trans (But.set _ _ _ _)⟩
  | false =>
    by_cases h32 : 32 ≤ m
    · have HX := Lib.hid h32
      go_wp2_with fail
      go_ret
      have e : R = ([], ⟨t0, true⟩) := by rw [← HR.out, if_pos (.inr HX.out)]
      subst e
      exact ⟨_, rfl, RsA.nil _ _, HJ.out.setb true, HB.out.trans (But.set _ _ _ _)⟩
    · obtain ⟨M, rfl⟩ : ∃ M : Nat, m = M := ⟨m.toNat, by omega⟩
      have hm32 : ¬ ((32 : Int) ≤ (M : Int)) := h32
      have HR2 : Hid (jAckL zs (M + 1) true a ⟨t0, false⟩ = R) := Lib.hid (by rw [← HR.out, if_neg (by simp; omega), Int.toNat_natCast])
      have HA0 : Hid (Ak w0 w I zs (.slice none 0 0) [] ⟨t0, false⟩ w2) := Lib.hid ⟨World.ownsRow_nil _ _ _ _, HJ.out, HB.out, hIlt⟩
      have hM31 : M ≤ 31 := by omega
      clear HR HJ HB h32 hb2
      go_wp2_with fail
      clear c1 cf
      go_loopw [3, 5, 6] (fun to u i wr => ∃ (k : Nat) (T : Int) (L : List Sp) (s : JS), i = .int .i64 k ∧ to = .int .i64 T ∧ k ≤ M + 1 ∧ (s.b = false → 0 ≤ T ∧ T < 4611686018427387904) ∧ Hid (L.length = k) ∧ Hid (Ak w0 w I zs u L s wr) ∧ Hid (R = (L ++ (jAckL zs (M + 1 - k) (decide (k = 0)) T s).1, (jAckL zs (M + 1 - k) (decide (k = 0)) T s).2))) (fun _ _ i _ => M + 1 - (intOf i).toNat)
      case atStart => exact ⟨0, a, [], _, rfl, rfl, by omega, fun _ => hb1, Lib.hid rfl, HA0, Lib.hid (by rw [← HR2.out]; rfl)⟩
      case round =>
        rename_i wr
        obtain ⟨k, T, L, s, rfl, rfl, hk, hT, HL, HA, HRR⟩ := hrel
        obtain ⟨_, _, _, _, _, _, _, _, c0, c1, cf⟩ := HA.out.jq.cells
        obtain ⟨t, b⟩ := s
        simp only at c1
        clear c0
        cases b with
        | true =>
          have HF : Hid (JAckPost w0 w I zs R (.returned _) wr) := Lib.hid (HA.out.post (by rw [HRR.out, jackl_bad rfl]; simp))
          by_cases hkm : k ≤ M
          · have hkm' : (k : Int) ≤ (M : Int) := by omega
            go_wp2_with fail
            go_ret
            exact HF.out
          · have hkm' : ¬ (k : Int) ≤ (M : Int) := by omega
            go_wp2_with fail
            go_ret
            exact HF.out
        | false =>
          by_cases hkm : k ≤ M
          · have hkm' : (k : Int) ≤ (M : Int) := by omega
            obtain ⟨hT0, hT1⟩ := hT rfl
            clear hT
            by_cases hk0 : k = 0
            · subst hk0
              have hcn := jnum_any HA.out.jq HBT.out
              have hnb := jnum_bd HBT.out ⟨t, false⟩
              obtain ⟨n, s2, hN⟩ : ∃ n s2, jNum zs ⟨t, false⟩ = (n, s2) := ⟨_, _, rfl⟩
              rw [hN] at hcn hnb
              simp only at hnb
              have HSH := Lib.hid (ack_shift1 (M := M) (T := T) rfl hN HRR.out)
              have HAg := HA
              obtain ⟨hn0, hn1⟩ := hnb
              clear hN HRR
              go_wp2_with fail
              refine hcn.mono ?_
              rintro e w3 ⟨rfl, hJ3, hB3⟩
              have HA1 := Lib.hid (HAg.out.num hJ3 hB3)
              obtain ⟨_, _, _, _, _, _, _, _, d0, d1, df⟩ := hJ3.cells
              obtain ⟨t2, b2⟩ := s2
              simp only at d1
              have hwn : IntKind.i64.wrap (T - n) = T - n := IntWalk.i64_in _ ⟨by omega, by omega⟩
              clear d0 hcn hJ3 hB3
              cases b2 with
              | true =>
                have HA2 := Lib.hid (HA1.out.setb true)
                have HS3 : Hid (R = ((L ++ [(T - n, T)]) ++ (jAckL zs (M + 1 - (0 + 1)) (decide (0 + 1 = 0)) (T - n) ⟨t2, true⟩).1, (jAckL zs (M + 1 - (0 + 1)) (decide (0 + 1 = 0)) (T - n) ⟨t2, true⟩).2)) := Lib.hid (by have := HSH.out; simp only [Bool.true_or] at this; exact this)
                have HLIT := lit_span2 (w3.setCell ⟨I, 1, none⟩ (.bool true)) (T - n) T
                rw [World.size_setCell] at HLIT
                clear HA1
                go_wp2_with (at_builtin; refine wpList_append_spans 55 (.tmp 60) (.tmp 66) 31 rfl rfl info52 Tryd.underlying31 w.heap.size _ L.length L rfl (HA2.out.alloc _).own _ [(T - n, T)] rfl HLIT (by have := HL.out; simp; omega) (HA2.out.alloc _).but.size ?_; intro v5 w5 ho5 hb5 _; have HA3 := Lib.hid ((HA2.out.alloc _).app ho5 hb5); clear ho5 hb5)
                go_roundw
                case rel => exact ⟨0 + 1, T - n, L ++ [(T - n, T)], ⟨t2, true⟩, by go_num, rfl, by omega, (fun h => by cases h), Lib.hid (by have := HL.out; rw [List.length_append]; simp only [List.length_cons, List.length_nil]; omega), HA3, HS3⟩
                case measure => simp [intOf] <;> omega
              | false =>
                by_cases h0 : T < 0
                · have hd0 : decide (T < 0) = true := decide_eq_true h0
                  exact absurd h0 (by omega)
                · have hd0 : decide (T < 0) = false := decide_eq_false h0
                  by_cases h1 : T < n
                  · have hd1 : decide (T < n) = true := decide_eq_true h1
                    have HA2 := Lib.hid (HA1.out.setb true)
                    have HS3 : Hid (R = ((L ++ [(T - n, T)]) ++ (jAckL zs (M + 1 - (0 + 1)) (decide (0 + 1 = 0)) (T - n) ⟨t2, true⟩).1, (jAckL zs (M + 1 - (0 + 1)) (decide (0 + 1 = 0)) (T - n) ⟨t2, true⟩).2)) := Lib.hid (by have := HSH.out; simp only [hd1, Bool.or_true] at this; exact this)
                    have HLIT := lit_span2 (w3.setCell ⟨I, 1, none⟩ (.bool true)) (T - n) T
                    rw [World.size_setCell] at HLIT
                    clear HA1
                    go_wp2_with (at_builtin; refine wpList_append_spans 55 (.tmp 60) (.tmp 66) 31 rfl rfl info52 Tryd.underlying31 w.heap.size _ L.length L rfl (HA2.out.alloc _).own _ [(T - n, T)] rfl HLIT (by have := HL.out; simp; omega) (HA2.out.alloc _).but.size ?_; intro v5 w5 ho5 hb5 _; have HA3 := Lib.hid ((HA2.out.alloc _).app ho5 hb5); clear ho5 hb5)
                    go_roundw
                    case rel => exact ⟨0 + 1, T - n, L ++ [(T - n, T)], ⟨t2, true⟩, by go_num, rfl, by omega, (fun h => by cases h), Lib.hid (by have := HL.out; rw [List.length_append]; simp only [List.length_cons, List.length_nil]; omega), HA3, HS3⟩
                    case measure => simp [intOf] <;> omega
                  · have hd1 : decide (T < n) = false := decide_eq_false h1
                    have HA2 := Lib.hid (HA1.out.setb false)
                    have HS3 : Hid (R = ((L ++ [(T - n, T)]) ++ (jAckL zs (M + 1 - (0 + 1)) (decide (0 + 1 = 0)) (T - n) ⟨t2, false⟩).1, (jAckL zs (M + 1 - (0 + 1)) (decide (0 + 1 = 0)) (T - n) ⟨t2, false⟩).2)) := Lib.hid (by have := HSH.out; simp only [hd0, hd1, Bool.or_false] at this; exact this)
                    have HLIT := lit_span2 (w3.setCell ⟨I, 1, none⟩ (.bool false)) (T - n) T
                    rw [World.size_setCell] at HLIT
                    clear HA1
                    go_wp2_with (at_builtin; refine wpList_append_spans 55 (.tmp 60) (.tmp 66) 31 rfl rfl info52 Tryd.underlying31 w.heap.size _ L.length L rfl (HA2.out.alloc _).own _ [(T - n, T)] rfl HLIT (by have := HL.out; simp; omega) (HA2.out.alloc _).but.size ?_; intro v5 w5 ho5 hb5 _; have HA3 := Lib.hid ((HA2.out.alloc _).app ho5 hb5); clear ho5 hb5)
                    go_roundw
                    case rel => exact ⟨0 + 1, T - n, L ++ [(T - n, T)], ⟨t2, false⟩, by go_num, rfl, by omega, (fun _ => ⟨by omega, by omega⟩), Lib.hid (by have := HL.out; rw [List.length_append]; simp only [List.length_cons, List.length_nil]; omega), HA3, HS3⟩
                    case measure => simp [intOf] <;> omega
            · have hkp : 0 < k := by omega
              have hcg := jnum_any HA.out.jq HBT.out
              have hgb := jnum_bd HBT.out ⟨t, false⟩
              obtain ⟨g, s1, hG⟩ : ∃ g s1, jNum zs ⟨t, false⟩ = (g, s1) := ⟨_, _, rfl⟩
              rw [hG] at hcg hgb
              have hnb := jnum_bd HBT.out s1
              obtain ⟨n, s2, hN⟩ : ∃ n s2, jNum zs s1 = (n, s2) := ⟨_, _, rfl⟩
              rw [hN] at hnb
              simp only at hgb hnb
              have HSH := Lib.hid (ack_shift2 (M := M) (T := T) hkp hkm rfl hG hN HRR.out)
              obtain ⟨hg0, hg1⟩ := hgb
              obtain ⟨hn0, hn1⟩ := hnb
              have hwg : IntKind.i64.wrap (T - g) = T - g := IntWalk.i64_in _ ⟨by omega, by omega⟩
              have hwg2 : IntKind.i64.wrap (T - g - 2) = T - g - 2 := IntWalk.i64_in _ ⟨by omega, by omega⟩
              clear hG HRR
              go_wp2_with fail
              refine hcg.mono ?_
              rintro e w2 ⟨rfl, hJ2, hB2⟩
              have hcn := jnum_any hJ2 HBT.out
              rw [hN] at hcn
              have HAg := Lib.hid (HA.out.num hJ2 hB2)
              clear hcg hJ2 hB2 hN
              obtain ⟨S, hS⟩ : ∃ S, T - g - 2 = S := ⟨_, rfl⟩
              rw [hS] at hwg2 HSH
              have hS0 : -4611686018427387905 ≤ S ∧ S < 4611686018427387904 := by omega
              clear hg0 hg1
              go_wp2_with fail
              refine hcn.mono ?_
              rintro e w3 ⟨rfl, hJ3, hB3⟩
              have HA1 := Lib.hid (HAg.out.num hJ3 hB3)
              obtain ⟨_, _, _, _, _, _, _, _, d0, d1, df⟩ := hJ3.cells
              obtain ⟨t2, b2⟩ := s2
              simp only at d1
              have hwn : IntKind.i64.wrap (S - n) = S - n := IntWalk.i64_in _ ⟨by omega, by omega⟩
              clear d0 hcn hJ3 hB3
              cases b2 with
              | true =>
                have HA2 := Lib.hid (HA1.out.setb true)
                have HS3 : Hid (R = ((L ++ [(S - n, S)]) ++ (jAckL zs (M + 1 - (k + 1)) (decide (k + 1 = 0)) (S - n) ⟨t2, true⟩).1, (jAckL zs (M + 1 - (k + 1)) (decide (k + 1 = 0)) (S - n) ⟨t2, true⟩).2)) := Lib.hid (by have := HSH.out; simp only [Bool.true_or] at this; exact this)
                have HLIT := lit_span2 (w3.setCell ⟨I, 1, none⟩ (.bool true)) (S - n) S
                rw [World.size_setCell] at HLIT
                clear HA1
                go_wp2_with (at_builtin; refine wpList_append_spans 55 (.tmp 60) (.tmp 66) 31 rfl rfl info52 Tryd.underlying31 w.heap.size _ L.length L rfl (HA2.out.alloc _).own _ [(S - n, S)] rfl HLIT (by have := HL.out; simp; omega) (HA2.out.alloc _).but.size ?_; intro v5 w5 ho5 hb5 _; have HA3 := Lib.hid ((HA2.out.alloc _).app ho5 hb5); clear ho5 hb5)
                go_roundw
                case rel => exact ⟨k + 1, S - n, L ++ [(S - n, S)], ⟨t2, true⟩, by go_num, rfl, by omega, (fun h => by cases h), Lib.hid (by have := HL.out; rw [List.length_append]; simp only [List.length_cons, List.length_nil]; omega), HA3, HS3⟩
                case measure => simp [intOf] <;> omega
              | false =>
                by_cases h0 : S < 0
                · have hd0 : decide (S < 0) = true := decide_eq_true h0
                  have HA2 := Lib.hid (HA1.out.setb true)
                  have HS3 : Hid (R = ((L ++ [(S - n, S)]) ++ (jAckL zs (M + 1 - (k + 1)) (decide (k + 1 = 0)) (S - n) ⟨t2, true⟩).1, (jAckL zs (M + 1 - (k + 1)) (decide (k + 1 = 0)) (S - n) ⟨t2, true⟩).2)) := Lib.hid (by have := HSH.out; simp only [hd0, Bool.true_or, Bool.or_true] at this; exact this)
                  have HLIT := lit_span2 (w3.setCell ⟨I, 1, none⟩ (.bool true)) (S - n) S
                  rw [World.size_setCell] at HLIT
                  clear HA1
                  go_wp2_with (at_builtin; refine wpList_append_spans 55 (.tmp 60) (.tmp 66) 31 rfl rfl info52 Tryd.underlying31 w.heap.size _ L.length L rfl (HA2.out.alloc _).own _ [(S - n, S)] rfl HLIT (by have := HL.out; simp; omega) (HA2.out.alloc _).but.size ?_; intro v5 w5 ho5 hb5 _; have HA3 := Lib.hid ((HA2.out.alloc _).app ho5 hb5); clear ho5 hb5)
                  go_roundw
                  case rel => exact ⟨k + 1, S - n, L ++ [(S - n, S)], ⟨t2, true⟩, by go_num, rfl, by omega, (fun h => by cases h), Lib.hid (by have := HL.out; rw [List.length_append]; simp only [List.length_cons, List.length_nil]; omega), HA3, HS3⟩
                  case measure => simp [intOf] <;> omega
                · have hd0 : decide (S < 0) = false := decide_eq_false h0
                  by_cases h1 : S < n
                  · have hd1 : decide (S < n) = true := decide_eq_true h1
                    have HA2 := Lib.hid (HA1.out.setb true)
                    have HS3 : Hid (R = ((L ++ [(S - n, S)]) ++ (jAckL zs (M + 1 - (k + 1)) (decide (k + 1 = 0)) (S - n) ⟨t2, true⟩).1, (jAckL zs (M + 1 - (k + 1)) (decide (k + 1 = 0)) (S - n) ⟨t2, true⟩).2)) := Lib.hid (by have := HSH.out; simp only [hd1, Bool.or_true] at this; exact this)
                    have HLIT := lit_span2 (w3.setCell ⟨I, 1, none⟩ (.bool true)) (S - n) S
                    rw [World.size_setCell] at HLIT
                    clear HA1
                    go_wp2_with (at_builtin; refine wpList_append_spans 55 (.tmp 60) (.tmp 66) 31 rfl rfl info52 Tryd.underlying31 w.heap.size _ L.length L rfl (HA2.out.alloc _).own _ [(S - n, S)] rfl HLIT (by have := HL.out; simp; omega) (HA2.out.alloc _).but.size ?_; intro v5 w5 ho5 hb5 _; have HA3 := Lib.hid ((HA2.out.alloc _).app ho5 hb5); clear ho5 hb5)
                    go_roundw
                    case rel => exact ⟨k + 1, S - n, L ++ [(S - n, S)], ⟨t2, true⟩, by go_num, rfl, by omega, (fun h => by cases h), Lib.hid (by have := HL.out; rw [List.length_append]; simp only [List.length_cons, List.length_nil]; omega), HA3, HS3⟩
                    case measure => simp [intOf] <;> omega
                  · have hd1 : decide (S < n) = false := decide_eq_false h1
                    have HA2 := Lib.hid (HA1.out.setb false)
                    have HS3 : Hid (R = ((L ++ [(S - n, S)]) ++ (jAckL zs (M + 1 - (k + 1)) (decide (k + 1 = 0)) (S - n) ⟨t2, false⟩).1, (jAckL zs (M + 1 - (k + 1)) (decide (k + 1 = 0)) (S - n) ⟨t2, false⟩).2)) := Lib.hid (by have := HSH.out; simp only [hd0, hd1, Bool.or_false] at this; exact this)
                    have HLIT := lit_span2 (w3.setCell ⟨I, 1, none⟩ (.bool false)) (S - n) S
                    rw [World.size_setCell] at HLIT
                    clear HA1
                    go_wp2_with (at_builtin; refine wpList_append_spans 55 (.tmp 60) (.tmp 66) 31 rfl rfl info52 Tryd.underlying31 w.heap.size _ L.length L rfl (HA2.out.alloc _).own _ [(S - n, S)] rfl HLIT (by have := HL.out; simp; omega) (HA2.out.alloc _).but.size ?_; intro v5 w5 ho5 hb5 _; have HA3 := Lib.hid ((HA2.out.alloc _).app ho5 hb5); clear ho5 hb5)
                    go_roundw
                    case rel => exact ⟨k + 1, S - n, L ++ [(S - n, S)], ⟨t2, false⟩, by go_num, rfl, by omega, (fun _ => ⟨by omega, by omega⟩), Lib.hid (by have := HL.out; rw [List.length_append]; simp only [List.length_cons, List.length_nil]; omega), HA3, HS3⟩
                    case measure => simp [intOf] <;> omega
          · have hkm' : ¬ (k : Int) ≤ (M : Int) := by omega
            obtain rfl : k = M + 1 := by omega
            have HF : Hid (JAckPost w0 w I zs R (.returned _) wr) := Lib.hid (HA.out.post (by rw [HRR.out, Nat.sub_self]; simp [jAckL]))
            go_wp2_with fail
            go_ret
            exact HF.out
#print axioms jack_any
end Go.Proofs.YtgcgmgcgbnepeaaDoor
namespace Go.Proofs.YtgcgmgcgbnepeaaDoor
open Go Go.RowKit

theorem jackl_eq {zs : List Int} (hb : Byt zs) : ∀ (m : Nat) (fr : Int) (t : Nat), ((jAckL zs m false fr ⟨t, false⟩).2.b = true ∧ gSpans zs m fr t = none) ∨ ∃ l t', jAckL zs m false fr ⟨t, false⟩ = (l, ⟨t', false⟩) ∧ gSpans zs m fr t = some (l, t') := by
  intro m
  induction m with
  | zero => intro fr t; exact .inr ⟨[], t, rfl, rfl⟩
  | succ m ih =>
    intro fr t
    cases h1 : gVar zs t with
    | none =>
      left
      rw [jackl_next rfl (jnum_no h1) (jnum_bad rfl)]
      exact ⟨by rw [jackl_bad (by simp)]; simp, by simp [gSpans, h1]⟩
    | some x =>
      obtain ⟨g, t1⟩ := x
      cases h2 : gVar zs t1 with
      | none =>
        left
        rw [jackl_next rfl (jnum_yes h1) (jnum_no h2)]
        exact ⟨by rw [jackl_bad (by simp)]; simp, by simp [gSpans, h1, h2]⟩
      | some y =>
        obtain ⟨n, t2⟩ := y
        rw [jackl_next rfl (jnum_yes h1) (jnum_yes h2)]
        have hn := (gvar_inv hb h2).2.1
        unfold numR at hn
        by_cases hlt : fr - g - 2 < n
        · left
          have hd : decide (fr - g - 2 < n) = true := decide_eq_true hlt
          refine ⟨by rw [jackl_bad (by simp [hd])]; simp [hd], ?_⟩
          simp [gSpans, h1, h2, hlt]
        · have hd : decide (fr - g - 2 < n) = false := decide_eq_false hlt
          have hd0 : decide (fr - g - 2 < 0) = false := decide_eq_false (by omega)
          simp only [hd, hd0, Bool.or_false]
          rcases ih (fr - g - 2 - n) t2 with ⟨i1, i2⟩ | ⟨l, t', i1, i2⟩
          · left
            exact ⟨i1, by simp [gSpans, h1, h2, hlt, i2]⟩
          · right
            exact ⟨_, t', by rw [i1], by simp [gSpans, h1, h2, hlt, i2]⟩
theorem jack_eq {zs : List Int} (hb : Byt zs) (t : Nat) : ((jAck zs ⟨t, false⟩).2.b = true ∧ gAck zs t = none) ∨ ∃ l t', jAck zs ⟨t, false⟩ = (l, ⟨t', false⟩) ∧ gAck zs t = some (l, t') := by
  unfold jAck gAck
  cases h1 : gVar zs t with
  | none =>
    left
    rw [jnum_no h1]
    simp only [jnum_bad]
    simp
  | some x =>
    obtain ⟨to, t1⟩ := x
    rw [jnum_yes h1]
    have hto := (gvar_inv hb h1).2.1
    unfold numR at hto
    simp only
    cases h2 : gVar zs t1 with
    | none =>
      left
      rw [jnum_no h2]
      simp
    | some y =>
      obtain ⟨m, t2⟩ := y
      rw [jnum_yes h2]
      simp only
      by_cases h32 : 32 ≤ m
      · left
        rw [if_pos (.inr h32), if_pos h32]
        exact ⟨rfl, rfl⟩
      · rw [if_neg (by simp; omega), if_neg h32]
        cases h3 : gVar zs t2 with
        | none =>
          left
          rw [jackl_first rfl (jnum_no h3)]
          exact ⟨by rw [jackl_bad (by simp)]; simp, rfl⟩
        | some z =>
          obtain ⟨n, t3⟩ := z
          rw [jackl_first rfl (jnum_yes h3)]
          have hd0 : decide (to < 0) = false := decide_eq_false (by omega)
          simp only [hd0, Bool.or_false, Bool.false_or]
          by_cases hlt : to < n
          · left
            have hd : decide (to < n) = true := decide_eq_true hlt
            exact ⟨by rw [jackl_bad (by simp [hd])]; simp [hd], by simp [hlt]⟩
          · have hd : decide (to < n) = false := decide_eq_false hlt
            simp only [hd, if_neg hlt]
            rcases jackl_eq hb m.toNat (to - n) t3 with ⟨i1, i2⟩ | ⟨l, t', i1, i2⟩
            · left
              exact ⟨i1, by rw [i2]⟩
            · right
              exact ⟨_, t', by rw [i1], by rw [i2]⟩
theorem jnum_le (zs : List Int) (hb : Byt zs) (s : JS) : s.t ≤ (jNum zs s).2.t := by
  unfold jNum
  split
  · exact Nat.le_refl _
  · split
    · rename_i h; exact Nat.le_of_lt (gvar_inv hb h).2.2.1
    · exact Nat.le_refl _
theorem jbytes_le (zs : List Int) (n : Nat) (s : JS) : s.t ≤ (jBytes zs n s).2.t := by
  unfold jBytes
  split
  · exact Nat.le_refl _
  · unfold gBytes
    split
    · rename_i h; split at h
      · cases h
      · cases h; simp
    · exact Nat.le_refl _
theorem jterm_le (zs : List Int) (s : JS) : s.t ≤ (jTerm zs s).2.t := jbytes_le zs 4 s
theorem jackl_le {zs : List Int} (hb : Byt zs) : ∀ (m : Nat) (f : Bool) (fr : Int) (s : JS), s.t ≤ (jAckL zs m f fr s).2.t := by
  intro m
  induction m with
  | zero => intro f fr s; exact Nat.le_refl _
  | succ m ih =>
    intro f fr s
    unfold jAckL
    split
    · exact Nat.le_refl _
    · refine Nat.le_trans ?_ (ih _ _ _)
      refine Nat.le_trans ?_ (jnum_le zs hb _)
      split
      · exact Nat.le_refl _
      · exact jnum_le zs hb _
theorem jack_le {zs : List Int} (hb : Byt zs) (s : JS) : s.t ≤ (jAck zs s).2.t := by
  unfold jAck
  have h := Nat.le_trans (jnum_le zs hb s) (jnum_le zs hb _)
  simp only
  split
  · exact h
  · exact Nat.le_trans h (jackl_le hb _ _ _ _)
/-- The frame of a kind, as far as it is read, and where the reader stands behind it. -/
def jBody (zs : List Int) (z : Int) (t : Nat) : Fv × JS :=
  if z = 0 then (⟨0, 1 + zeros (zs.drop t), [], 0, [], 0⟩, ⟨t + zeros (zs.drop t), false⟩)
  else if z = 2 then (⟨2, 0, (jAck zs ⟨t, false⟩).1, 0, [], 0⟩, (jAck zs ⟨t, false⟩).2)
  else if z = 6 then (⟨6, 0, [], (jNum zs ⟨t, false⟩).1, (jBytes zs (jNum zs (jNum zs ⟨t, false⟩).2).1.toNat (jNum zs (jNum zs ⟨t, false⟩).2).2).1, 0⟩, (jBytes zs (jNum zs (jNum zs ⟨t, false⟩).2).1.toNat (jNum zs (jNum zs ⟨t, false⟩).2).2).2)
  else if z = 7 then (⟨7, 0, [], 0, [], (jTerm zs ⟨t, false⟩).1⟩, (jTerm zs ⟨t, false⟩).2)
  else if z = 8 then (⟨8, (jNum zs ⟨t, false⟩).1, [], 0, [], (jTerm zs (jNum zs ⟨t, false⟩).2).1⟩, (jTerm zs (jNum zs ⟨t, false⟩).2).2)
  else if z = 28 then (⟨28, (jNum zs ⟨t, false⟩).1, [], 0, [], 0⟩, (jNum zs ⟨t, false⟩).2)
  else (⟨z, 0, [], 0, [], 0⟩, ⟨t, false⟩)
theorem zeros_le (l : List Int) : zeros l ≤ l.length := by
  induction l with
  | nil => simp [zeros]
  | cons z r ih => simp only [zeros]; split <;> simp <;> omega
theorem jbody_le {zs : List Int} (hb : Byt zs) (z : Int) (t : Nat) : t ≤ (jBody zs z t).2.t := by
  unfold jBody
  split
  · simp
  split
  · exact jack_le hb ⟨t, false⟩
  split
  · exact Nat.le_trans (Nat.le_trans (jnum_le zs hb ⟨t, false⟩) (jnum_le zs hb _)) (jbytes_le zs _ _)
  split
  · exact jterm_le zs ⟨t, false⟩
  split
  · exact Nat.le_trans (jnum_le zs hb ⟨t, false⟩) (jterm_le zs _)
  split
  · exact jnum_le zs hb ⟨t, false⟩
  · exact Nat.le_refl _
theorem jterm_eq {zs : List Int} (t : Nat) : ((jTerm zs ⟨t, false⟩).2.b = true ∧ gTerm zs t = none) ∨ ∃ h t', jTerm zs ⟨t, false⟩ = (h, ⟨t', false⟩) ∧ gTerm zs t = some (h, t') ∧ 1 ≤ h ∧ h ≤ 65536 := by
  unfold jTerm
  rcases gterm_open (zs := zs) (t := t) with ⟨h1, h2⟩ | ⟨l, h1, _, ⟨h2, h3⟩ | ⟨h2, h3, h4⟩⟩
  · left; rw [jbytes_no h1]; exact ⟨rfl, h2⟩
  · left; rw [jbytes_yes h1]; exact ⟨by simp [h2], h3⟩
  · right; rw [jbytes_yes h1]; exact ⟨_, _, by simp [h2], h3, h4⟩
theorem rb_of {f : Fv} (h : ¬ rightF f) : rightB f = false := by
  cases hb : rightB f with
  | true => exact absurd ((right_iff f).1 hb) h
  | false => rfl
/-- The reader's frame is the bytes' frame, or both are none. -/
theorem jbody_eq {zs : List Int} (hb : Byt zs) (hl : zs.length ≤ 1200) {z : Int} {t : Nat} (h1 : 1 ≤ t) :
    (((jBody zs z t).2.b = true ∨ rightB (jBody zs z t).1 = false) ∧ gBody zs z t = none) ∨ ((jBody zs z t).2.b = false ∧ rightB (jBody zs z t).1 = true ∧ gBody zs z t = some ((jBody zs z t).1, (jBody zs z t).2.t)) := by
  unfold jBody gBody
  by_cases h0 : z = 0
  · right
    have hz := zeros_le (zs.drop t)
    simp only [List.length_drop] at hz
    simp only [if_pos h0]
    exact ⟨trivial, (right_iff _).2 (.inl ⟨rfl, by simp; omega, by simp; omega, rfl, rfl, rfl, rfl⟩), trivial⟩
  simp only [if_neg h0]
  by_cases hz1 : z = 1
  · subst hz1
    right
    exact ⟨rfl, (right_iff _).2 (.inr (.inl ⟨.inl rfl, rfl, rfl, rfl, rfl, rfl⟩)), rfl⟩
  by_cases hz30 : z = 30
  · subst hz30
    right
    exact ⟨rfl, (right_iff _).2 (.inr (.inl ⟨.inr rfl, rfl, rfl, rfl, rfl, rfl⟩)), rfl⟩
  simp only [if_neg hz1, if_neg hz30]
  by_cases hz2 : z = 2
  · simp only [if_pos hz2]
    rcases jack_eq hb t with ⟨a1, a2⟩ | ⟨l, t', a1, a2⟩
    · left; exact ⟨.inl a1, by rw [a2]⟩
    · right
      rw [a1, a2]
      exact ⟨rfl, (right_iff _).2 (.inr (.inr (.inl ⟨rfl, rfl, (gack_inv hb a2).2.1, rfl, rfl, rfl⟩))), rfl⟩
  simp only [if_neg hz2]
  by_cases hz6 : z = 6
  · simp only [if_pos hz6]
    cases v1 : gVar zs t with
    | none =>
      left
      rw [jnum_no v1]
      simp [jnum_bad, jbytes_bad]
    | some x =>
      obtain ⟨a, t1⟩ := x
      rw [jnum_yes v1]
      have ha := (gvar_inv hb v1).2.1
      unfold numR at ha
      simp only
      cases v2 : gVar zs t1 with
      | none =>
        left
        rw [jnum_no v2]
        simp [jbytes_bad]
      | some y =>
        obtain ⟨n, t2⟩ := y
        rw [jnum_yes v2]
        simp only
        cases v3 : gBytes zs n.toNat t2 with
        | none =>
          left
          rw [jbytes_no v3]
          simp
        | some u =>
          obtain ⟨l, t3⟩ := u
          rw [jbytes_yes v3]
          simp only
          by_cases hok : a ≤ 1048576 ∧ 1 ≤ l.length ∧ l.length ≤ 1000
          · right
            rw [if_pos hok]
            exact ⟨trivial, (right_iff _).2 (.inr (.inr (.inr (.inl ⟨rfl, rfl, rfl, ⟨ha.1, hok.1⟩, hok.2, rfl⟩)))), rfl⟩
          · left
            rw [if_neg hok]
            refine ⟨.inr (rb_of fun h => hok ?_), rfl⟩
            rcases h with h | h | h | h | h | h | h
            · exact absurd h.1 (by simp)
            · rcases h.1 with h | h <;> exact absurd h (by simp)
            · exact absurd h.1 (by simp)
            · exact ⟨h.2.2.2.1.2, h.2.2.2.2.1⟩
            · exact absurd h.1 (by simp)
            · exact absurd h.1 (by simp)
            · exact absurd h.1 (by simp)
  simp only [if_neg hz6]
  by_cases hz7 : z = 7
  · simp only [if_pos hz7]
    rcases jterm_eq (zs := zs) t with ⟨a1, a2⟩ | ⟨h, t', a1, a2, a3⟩
    · left; exact ⟨.inl a1, by rw [a2]⟩
    · right
      rw [a1, a2]
      exact ⟨rfl, (right_iff _).2 (.inr (.inr (.inr (.inr (.inl ⟨rfl, rfl, rfl, rfl, rfl, a3⟩))))), rfl⟩
  simp only [if_neg hz7]
  by_cases hz8 : z = 8
  · simp only [if_pos hz8]
    cases v1 : gVar zs t with
    | none =>
      left
      rw [jnum_no v1]
      simp [jTerm, jbytes_bad]
    | some x =>
      obtain ⟨c, t1⟩ := x
      rw [jnum_yes v1]
      have ha := (gvar_inv hb v1).2.1
      simp only
      rcases jterm_eq (zs := zs) t1 with ⟨a1, a2⟩ | ⟨h, t', a1, a2, a3⟩
      · left; exact ⟨.inl a1, by rw [a2]⟩
      · right
        rw [a1, a2]
        exact ⟨rfl, (right_iff _).2 (.inr (.inr (.inr (.inr (.inr (.inl ⟨rfl, ha, rfl, rfl, rfl, a3⟩)))))), rfl⟩
  simp only [if_neg hz8]
  by_cases hz28 : z = 28
  · simp only [if_pos hz28]
    cases v1 : gVar zs t with
    | none =>
      left
      rw [jnum_no v1]
      simp
    | some x =>
      obtain ⟨c, t1⟩ := x
      rw [jnum_yes v1]
      have ha := (gvar_inv hb v1).2.1
      right
      exact ⟨rfl, (right_iff _).2 (.inr (.inr (.inr (.inr (.inr (.inr ⟨rfl, ha, rfl, rfl, rfl, rfl⟩)))))), rfl⟩
  left
  simp only [if_neg hz28]
  refine ⟨.inr (rb_of fun h => ?_), trivial⟩
  rcases h with h | h | h | h | h | h | h
  · exact h0 h.1
  · rcases h.1 with h | h
    · exact hz1 h
    · exact hz30 h
  · exact hz2 h.1
  · exact hz6 h.1
  · exact hz7 h.1
  · exact hz8 h.1
  · exact hz28 h.1
#print axioms jbody_eq
end Go.Proofs.YtgcgmgcgbnepeaaDoor
namespace Go.Proofs.YtgcgmgcgbnepeaaDoor
open Go Go.RowKit

theorem own_keepB {w w' : World} {base : Nat} {e : TypeId} {size : Nat} {v : Value} {n : Nat} {xs : List Value} (h : w.ownsRow base e size v n xs) (hb : ∀ g, v.ownBlock = some g → g < w.heap.size → w'.heap[g]? = w.heap[g]?) : w'.ownsRow base e size v n xs := by
  obtain ⟨h1, h2⟩ := h
  refine ⟨h1, ?_⟩
  rcases h2 with h2 | ⟨g, cap, cur, rfl, hg, hh, r⟩
  · exact .inl h2
  · exact .inr ⟨g, cap, cur, rfl, hg, by rw [hb g rfl (Array.getElem?_eq_some_iff.1 hh).1]; exact hh, r⟩
/-- The document's row of frames: its own row; the rows of spans are the call's own, too, apart from it; the bytes are those that came in. -/
structure Jo (lo : Nat) (w0 w : World) (v : Value) (L : List Fe) : Prop where
  own : w.ownsRow lo 33 6 v L.length (fcs L)
  el : ∀ e ∈ L, RsA lo w e.sv e.f.sp ∧ Rd w0 e.dv e.f.d
  ap : ∀ g, v.ownBlock = some g → ∀ e ∈ L, FarS g e.sv e.f.sp
theorem Jo.nil (lo : Nat) (w0 w : World) : Jo lo w0 w (.slice none 0 0) [] := ⟨World.ownsRow_nil _ _ _ _, (fun e h => by cases h), (fun g h => by cases h)⟩
theorem Jo.keep {lo : Nat} {w0 w w' : World} {v : Value} {L : List Fe} (h : Jo lo w0 w v L) (hb : ∀ k, k < w.heap.size → lo ≤ k → w'.heap[k]? = w.heap[k]?) : Jo lo w0 w' v L :=
  ⟨own_keepG h.own hb, fun e he => ⟨(h.el e he).1.keep hb, (h.el e he).2⟩, h.ap⟩
theorem Jo.keepG {lo G : Nat} {w0 w w' : World} {v : Value} {L : List Fe} (h : Jo lo w0 w v L) (hu : ∀ g, v.ownBlock = some g → g ≠ G) (hf : ∀ e ∈ L, FarS G e.sv e.f.sp) (hb : ∀ k, k < w.heap.size → k ≠ G → w'.heap[k]? = w.heap[k]?) : Jo lo w0 w' v L :=
  ⟨own_keepB h.own fun g hg hl => hb g hl (hu g hg), fun e he => ⟨(h.el e he).1.keepG (hf e he) hb, (h.el e he).2⟩, h.ap⟩
theorem Jo.shape {lo : Nat} {w0 w : World} {v : Value} {L : List Fe} (h : Jo lo w0 w v L) : ∃ a c, v = .slice a L.length c := own_shape h.own
theorem Jo.fl {lo : Nat} {w0 w : World} {v : Value} {L : List Fe} (h : Jo lo w0 w v L) (hb : Below w0.heap.size w0 w) : Fl w v L := by
  refine ⟨?_, fun e he => ⟨(h.el e he).1.rd, (h.el e he).2.below hb⟩⟩
  have hcell := fun g (hg : v.ownBlock = some g) => World.ownsRow.cells h.own hg
  rcases h.own.2 with ⟨rfl, h0⟩ | ⟨g, cap, cur, rfl, _, hh, h1, h2, h3, h4⟩
  · refine ⟨none, 0, by rw [h0], by omega, by simp [maxLen], fun _ => rfl, fun a h => by cases h⟩
  · refine ⟨some ⟨g, 0, none⟩, cap, rfl, h1, h2, (fun h => by cases h), fun a ha j e hj i u hu => ?_⟩
    cases ha
    exact hcell g rfl _ _ (fcs_get hj hu)
theorem info_frame2 : (Tryd.prog.info? 33).map (fun i => (i.zero.map (·.cells.size), i.size, i.bytes)) = some (some 6, 6, 80) := by kernel_rfl
/-- append of one frame. -/
theorem Jo.app {lo lo2 : Nat} {w0 w : World} {v : Value} {L : List Fe} (h : Jo lo w0 w v L) (hl : L.length ≤ 2000) (hlo : lo ≤ w.heap.size) (e : Fe) (hs : RsA lo2 w e.sv e.f.sp) (hd : Rd w0 e.dv e.f.d) (h2 : lo ≤ lo2) (hg : ∀ g, v.ownBlock = some g → g < lo2)
    (b : Nat) (hc : ∀ i u, (feC e)[i]? = some u → w.cell? ⟨b, i, none⟩ = some u) (ty : TypeId) :
    ∃ v' w', (Builtin.append_ #[22, 22] ty #[v, .slice (some ⟨b, 0, none⟩) 1 1]).run Tryd.prog w = .ok v' w' ∧ Jo lo w0 w' v' (L ++ [e]) ∧ w.grownBy w' v.ownBlock := by
  obtain ⟨i, hi, hz⟩ : ∃ i, Tryd.prog.info? 33 = some i ∧ (i.zero.map (·.cells.size), i.size, i.bytes) = (some 6, 6, 80) := by
    have hinfo := info_frame2
    cases he : Tryd.prog.info? 33 with
    | none => rw [he] at hinfo; cases hinfo
    | some i => rw [he] at hinfo; exact ⟨i, rfl, by simpa using hinfo⟩
  simp only [Prod.mk.injEq, Option.map_eq_some_iff] at hz
  obtain ⟨⟨z, hz0, hz3⟩, hz1, hz2⟩ := hz
  have hone : ∀ u ∈ feC e, u.oneCell' = true := by
    obtain ⟨a1, c1, e1⟩ := rs_shape hs.rd
    obtain ⟨a2, c2, e2⟩ := hd.shape
    intro u hu
    simp only [feC, List.mem_cons, List.not_mem_nil, or_false] at hu
    rcases hu with rfl | rfl | rfl | rfl | rfl | rfl
    · rfl
    · rfl
    · rw [e1]; rfl
    · rfl
    · rw [e2]; rfl
    · rfl
  obtain ⟨v', w', k1, k2, k3, _, k5⟩ := run_append_own_at (P := Tryd.prog) w lo 22 ty 33 i z 6 80 Tryd.underlying22 hi hz0 hz1 hz2 hz3 (by decide) v L.length (fcs L) h.own ⟨b, 0, none⟩ 1 1 (feC e) rfl (fun j u hu => by rw [Addr.add_lit, Nat.zero_add]; exact hc j u hu) hone (by unfold maxLen; omega) (by omega) hlo
  have hge : ∀ g, v.ownBlock = some g → FarS g e.sv e.f.sp := fun g hgv => fun a n c ea hz => by
    have := hs.far a n c ea hz
    have := hg g hgv
    omega
  have hall : ∀ x ∈ L ++ [e], RsA lo w x.sv x.f.sp ∧ Rd w0 x.dv x.f.d := fun x hx => by
    rcases List.mem_append.1 hx with hx | hx
    · exact h.el x hx
    · obtain rfl := List.mem_singleton.1 hx
      exact ⟨hs.mono h2, hd⟩
  have hap : ∀ g, v.ownBlock = some g → ∀ x ∈ L ++ [e], FarS g x.sv x.f.sp := fun g hgv x hx => by
    rcases List.mem_append.1 hx with hx | hx
    · exact h.ap g hgv x hx
    · obtain rfl := List.mem_singleton.1 hx
      exact hge g hgv
  refine ⟨v', w', k1, ⟨?_, fun x hx => ?_, fun g hgv x hx => ?_⟩, k3⟩
  · rw [fcs_app]
    simpa [fcs] using k2
  · obtain ⟨q1, q2⟩ := hall x hx
    cases ho : v.ownBlock with
    | none =>
      have hb : ∀ k, k < w.heap.size → lo ≤ k → w'.heap[k]? = w.heap[k]? := fun k hk _ => k3.block k hk (by rw [ho]; simp)
      exact ⟨q1.keep hb, q2⟩
    | some g =>
      have hb : ∀ k, k < w.heap.size → k ≠ g → w'.heap[k]? = w.heap[k]? := fun k hk hne => k3.block k hk (fun h => hne (by rw [ho] at h; cases h; rfl))
      exact ⟨q1.keepG (hap g ho x hx) hb, q2⟩
  · rcases k5 with k5 | k5
    · exact hap g (k5 ▸ hgv) x hx
    · rw [k5] at hgv
      cases hgv
      exact (hall x hx).1.new
/-- What holds at the loop's head. -/
structure Jl (zs : List Int) (w0 w : World) (I : Nat) (u : Value) (L : List Fe) (s : JS) (wr : World) : Prop where
  jo : Jo w.heap.size w0 wr u L
  jq : Jq w0 wr I zs s
  but : But I w wr
  lt : I < w.heap.size
theorem Jl.num {zs : List Int} {w0 w wr w1 : World} {I : Nat} {u : Value} {L : List Fe} {s s' : JS} (h : Jl zs w0 w I u L s wr) (hj : Jq w0 w1 I zs s') (hb : But I wr w1) : Jl zs w0 w I u L s' w1 :=
  ⟨h.jo.keep fun k hk hl => hb.block k hk (by have := h.lt; omega), hj, h.but.trans hb, h.lt⟩
/-- A frame is being read: it lies in the box G. -/
structure Jf (zs : List Int) (w0 w : World) (I G : Nat) (u : Value) (L : List Fe) (s : JS) (f : Fv) (sv dv : Value) (W : World) : Prop where
  jl : Jl zs w0 w I u L s W
  box : W.heap[G]? = some (.cells (fCells f sv dv) 33 (0, 0))
  sp : RsA (G + 1) W sv f.sp
  dd : Rd w0 dv f.d
  ug : ∀ g, u.ownBlock = some g → g < G
  fe : ∀ e ∈ L, FarS G e.sv e.f.sp
  go : w.heap.size ≤ G
theorem Jf.lt {zs : List Int} {w0 w W : World} {I G : Nat} {u : Value} {L : List Fe} {s : JS} {f : Fv} {sv dv : Value} (h : Jf zs w0 w I G u L s f sv dv W) : G < W.heap.size := (Array.getElem?_eq_some_iff.1 h.box).1
theorem Jf.cells {zs : List Int} {w0 w W : World} {I G : Nat} {u : Value} {L : List Fe} {s : JS} {f : Fv} {sv dv : Value} (h : Jf zs w0 w I G u L s f sv dv W) :
    W.cell? ⟨G, 0, none⟩ = some (.int .i64 f.k) ∧ W.cell? ⟨G, 1, none⟩ = some (.int .i64 f.c) ∧ W.cell? ⟨G, 2, none⟩ = some sv ∧ W.cell? ⟨G, 3, none⟩ = some (.int .i64 f.a) ∧ W.cell? ⟨G, 4, none⟩ = some dv ∧ W.cell? ⟨G, 5, none⟩ = some (.int .i64 f.t) ∧ ∀ j, W.frozen? ⟨G, j, none⟩ = false :=
  have c := fun j => cell_of_row W G j _ _ (0, 0) h.box
  ⟨(c 0).trans rfl, (c 1).trans rfl, (c 2).trans rfl, (c 3).trans rfl, (c 4).trans rfl, (c 5).trans rfl, fun j => by simp [World.frozen?, h.box]⟩
theorem Jf.num {zs : List Int} {w0 w W w1 : World} {I G : Nat} {u : Value} {L : List Fe} {s s' : JS} {f : Fv} {sv dv : Value} (h : Jf zs w0 w I G u L s f sv dv W) (hj : Jq w0 w1 I zs s') (hb : But I W w1) : Jf zs w0 w I G u L s' f sv dv w1 := by
  have h1 := h.jl.lt
  have h2 := h.go
  exact ⟨h.jl.num hj hb, by rw [hb.block G h.lt (by omega)]; exact h.box, h.sp.keep fun k hk hl => hb.block k hk (by omega), h.dd, h.ug, h.fe, h.go⟩
theorem Jf.below {zs : List Int} {w0 w W w1 : World} {I G : Nat} {u : Value} {L : List Fe} {s : JS} {f : Fv} {sv dv : Value} (h : Jf zs w0 w I G u L s f sv dv W) (hb : Below W.heap.size W w1) : Jf zs w0 w I G u L s f sv dv w1 := h.num (h.jl.jq.keep hb) (But.of_below hb)
theorem Jf.setb {zs : List Int} {w0 w W : World} {I G : Nat} {u : Value} {L : List Fe} {s : JS} {f : Fv} {sv dv : Value} (h : Jf zs w0 w I G u L s f sv dv W) (x : Bool) : Jf zs w0 w I G u L ⟨s.t, x⟩ f sv dv (W.setCell ⟨I, 1, none⟩ (.bool x)) := h.num (h.jl.jq.setb x) (But.set _ _ _ _)
theorem Jf.set {zs : List Int} {w0 w W : World} {I G : Nat} {u : Value} {L : List Fe} {s : JS} {f : Fv} {sv dv : Value} (h : Jf zs w0 w I G u L s f sv dv W) (i : Nat) (x : Value) {f' : Fv} {sv' dv' : Value} (hc : (fCells f sv dv).setIfInBounds i x = fCells f' sv' dv') (hs : RsA (G + 1) W sv' f'.sp) (hd : Rd w0 dv' f'.d) : Jf zs w0 w I G u L s f' sv' dv' (W.setCell ⟨G, i, none⟩ x) := by
  have hb := But.set W G i x
  have h1 := h.jl.lt
  have h2 := h.go
  have hlo := h.jl.jq.lo
  have e0 := heap_setCell_same W G i _ 33 x h.box
  rw [hc] at e0
  refine ⟨⟨h.jl.jo.keepG (fun g hg => by have := h.ug g hg; omega) h.fe hb.block, h.jl.jq.but hb (by omega) (by omega), ?_, h1⟩, e0, hs.keep fun k hk hl => hb.block k hk (by omega), hd, h.ug, h.fe, h.go⟩
  have q := h.jl.but
  exact ⟨hb.os.trans q.os, hb.tape.trans q.tape, hb.output.trans q.output, Nat.le_trans q.size hb.size, fun k hk hn => (hb.block k (by have := q.size; omega) (by omega)).trans (q.block k hk hn)⟩
theorem Jf.setc {zs : List Int} {w0 w W : World} {I G : Nat} {u : Value} {L : List Fe} {s : JS} {f : Fv} {sv dv : Value} (h : Jf zs w0 w I G u L s f sv dv W) (x : Int) : Jf zs w0 w I G u L s { f with c := x } sv dv (W.setCell ⟨G, 1, none⟩ (.int .i64 x)) := h.set 1 _ rfl h.sp h.dd
theorem Jf.seta {zs : List Int} {w0 w W : World} {I G : Nat} {u : Value} {L : List Fe} {s : JS} {f : Fv} {sv dv : Value} (h : Jf zs w0 w I G u L s f sv dv W) (x : Int) : Jf zs w0 w I G u L s { f with a := x } sv dv (W.setCell ⟨G, 3, none⟩ (.int .i64 x)) := h.set 3 _ rfl h.sp h.dd
theorem Jf.sett {zs : List Int} {w0 w W : World} {I G : Nat} {u : Value} {L : List Fe} {s : JS} {f : Fv} {sv dv : Value} (h : Jf zs w0 w I G u L s f sv dv W) (x : Int) : Jf zs w0 w I G u L s { f with t := x } sv dv (W.setCell ⟨G, 5, none⟩ (.int .i64 x)) := h.set 5 _ rfl h.sp h.dd
theorem Jf.setd {zs : List Int} {w0 w W : World} {I G : Nat} {u : Value} {L : List Fe} {s : JS} {f : Fv} {sv dv : Value} (h : Jf zs w0 w I G u L s f sv dv W) {x : Value} {d : List Int} (hd : Rd w0 x d) : Jf zs w0 w I G u L s { f with d := d } sv x (W.setCell ⟨G, 4, none⟩ x) := h.set 4 _ rfl h.sp hd
theorem Jf.sets {zs : List Int} {w0 w W : World} {I G : Nat} {u : Value} {L : List Fe} {s : JS} {f : Fv} {sv dv : Value} (h : Jf zs w0 w I G u L s f sv dv W) {x : Value} {S : List Sp} (hs : RsA (G + 1) W x S) : Jf zs w0 w I G u L s { f with sp := S } x dv (W.setCell ⟨G, 2, none⟩ x) := h.set 2 _ rfl hs h.dd
/-- The fresh frame of a kind. -/
theorem Jf.new {zs : List Int} {w0 w W : World} {I : Nat} {u : Value} {L : List Fe} {s : JS} (h : Jl zs w0 w I u L s W) (f : Fv) (hsp : f.sp = []) (hd : f.d = []) : Jf zs w0 w I W.heap.size u L s f (.slice none 0 0) (.slice none 0 0) (W.alloc (.cells (fCells f (.slice none 0 0) (.slice none 0 0)) 33)) := by
  have hb := below_alloc W (.cells (fCells f (.slice none 0 0) (.slice none 0 0)) 33)
  refine ⟨h.num (h.jq.keep hb) (But.of_below hb), heap_alloc_new W _, by rw [hsp]; exact RsA.nil _ _, by rw [hd]; exact Rd.nil _, fun g hg => (h.jo.own.lt g hg).2, fun e he => (h.jo.el e he).1.new, h.but.size⟩
theorem feC_new2 (w : World) (e : Fe) : ∀ i x, (feC e)[i]? = some x → (w.alloc (.cells #[.int .i64 e.f.k, .int .i64 e.f.c, e.sv, .int .i64 e.f.a, e.dv, .int .i64 e.f.t] 33)).cell? ⟨w.heap.size, i, none⟩ = some x := fun i x hx => by
  rw [cell_of_row _ w.heap.size i _ _ (0, 0) (heap_alloc_new w _), ← hx]
  simp [feC]
/-- The frame is added to the row. -/
theorem Jf.app {zs : List Int} {w0 w W : World} {I G : Nat} {u : Value} {L : List Fe} {s : JS} {f : Fv} {sv dv : Value} (h : Jf zs w0 w I G u L s f sv dv W) (hl : L.length ≤ 2000) (ty : TypeId) :
    ∃ v' w6, (Builtin.append_ #[22, 22] ty #[u, .slice (some ⟨W.heap.size, 0, none⟩) 1 1]).run Tryd.prog (W.alloc (.cells #[.int .i64 f.k, .int .i64 f.c, sv, .int .i64 f.a, dv, .int .i64 f.t] 33)) = .ok v' w6 ∧ Jl zs w0 w I v' (L ++ [⟨f, sv, dv⟩]) s w6 := by
  have hb := below_alloc W (.cells #[.int .i64 f.k, .int .i64 f.c, sv, .int .i64 f.a, dv, .int .i64 f.t] 33)
  have hf := h.below hb
  have h1 := h.jl.lt
  have h2 := h.go
  have hlo := h.jl.jq.lo
  have hs := hf.lt
  obtain ⟨v', w6, k1, k2, k3⟩ := hf.jl.jo.app hl (by omega) ⟨f, sv, dv⟩ hf.sp hf.dd (by omega) (fun g hg => by have := hf.ug g hg; omega) W.heap.size (feC_new2 W ⟨f, sv, dv⟩) ty
  have hge : ∀ g, u.ownBlock = some g → w.heap.size ≤ g := fun g hg => (hf.jl.jo.own.lt g hg).1
  have hbl : Below w.heap.size (W.alloc (.cells #[.int .i64 f.k, .int .i64 f.c, sv, .int .i64 f.a, dv, .int .i64 f.t] 33)) w6 := (Below.refl _ _).grown k3 (by omega) hge
  obtain ⟨rv, q1, q2⟩ := hf.jl.jq.box
  exact ⟨v', w6, k1, ⟨k2, ⟨hf.jl.jq.bel.trans (hbl.mono (by omega)), hlo, hf.jl.jq.tl, hf.jl.jq.sz, rv, by rw [hbl.block I h1]; exact q1, q2⟩, hf.jl.but.bel hbl (Nat.le_refl _), h1⟩⟩
#print axioms Jf.app
end Go.Proofs.YtgcgmgcgbnepeaaDoor
namespace Go.Proofs.YtgcgmgcgbnepeaaDoor
open Go Go.RowKit

/-- Where the reading stands. -/
def Jrun (zs : List Int) (L : List Fv) (s : JS) : Prop :=
  (s.b = true ∧ gRead zs = none) ∨ (s.b = false ∧ s.t < zs.length ∧ Grun zs L s.t) ∨ (s.b = false ∧ s.t = zs.length ∧ gRead zs = some L)
theorem jrun_init (zs : List Int) : Jrun zs [] ⟨0, decide (zs.length = 0)⟩ := by
  cases zs with
  | nil => exact .inl ⟨rfl, rfl⟩
  | cons z r => exact .inr (.inl ⟨by simp, by simp, grun_init _⟩)
/-- One round more. -/
theorem jrun_step {zs : List Int} (hb : Byt zs) (hl : zs.length ≤ 1200) {L : List Fv} {t : Nat} {z : Int} {r : List Int} (h : Jrun zs L ⟨t, false⟩) (hz : zs.drop t = z :: r) (ht : (jBody zs z (t + 1)).2.t ≤ zs.length) (x : Bool) (hx : x = ((jBody zs z (t + 1)).2.b || !rightB (jBody zs z (t + 1)).1)) : Jrun zs (L ++ [(jBody zs z (t + 1)).1]) ⟨(jBody zs z (t + 1)).2.t, x⟩ := by
  have hlt : t < zs.length := by
    have := congrArg List.length hz
    simp at this; omega
  have hg : Grun zs L t := by
    rcases h with h | h | h
    · cases h.1
    · exact h.2.2
    · exact absurd h.2.1 (by simp only; omega)
  have hle := jbody_le hb z (t + 1)
  have hlt2 : t < (jBody zs z (t + 1)).2.t := by omega
  have hfr := gframe_body hz
  rcases jbody_eq hb hl (z := z) (t := t + 1) (by omega) with ⟨h1, h2⟩ | ⟨h1, h2, h3⟩
  · refine .inl ⟨?_, grun_none hg (hfr.trans h2)⟩
    rw [hx]
    rcases h1 with h1 | h1
    · simp [h1]
    · simp [h1]
  · have hx' : x = false := by rw [hx, h1, h2]; rfl
    rcases Nat.lt_or_ge (jBody zs z (t + 1)).2.t zs.length with h4 | h4
    · exact .inr (.inl ⟨hx', h4, grun_step hg (hfr.trans h3) hlt2 h4⟩)
    · have h5 : (jBody zs z (t + 1)).2.t = zs.length := by omega
      exact .inr (.inr ⟨hx', h5, grun_last hg (hfr.trans h3) hlt2 h5⟩)
/-- How many elements the slice in the first cell of a block has. -/
theorem Jq.leftW {w0 w : World} {I : Nat} {zs : List Int} {s : JS} (h : Jq w0 w I zs s) : leftW w I = zs.length - s.t := by
  obtain ⟨ao, n, cap, hn, _, _, _, _, c0, _⟩ := h.cells
  unfold Go.Proofs.YtgcgmgcgbnepeaaDoor.leftW
  rw [c0]
  simp only; omega
set_option maxRecDepth 20000 in
set_option maxHeartbeats 4000000 in
theorem jread_any {w : World} {v : Value} {zs : List Int} (hr : Rd w v zs) (hp : Plain v) (hl : zs.length ≤ 1000000) :
    Calls Tryd.prog 19 #[v] w (GRPost zs w) := by
  have HBYT := Lib.hid hr.byt
  have HR := Lib.hid hr
  have HP := Lib.hid hp
  obtain ⟨ao, cap, rfl⟩ := hr.shape
  by_cases h5 : 1200 < zs.length
  · have h5' : (1200 : Int) < (zs.length : Int) := by omega
    have HN := Lib.hid h5
    clear hr hp h5
    go_enter Tryd.func19, Tryd.ntmps19
    go_wp2_with fail
    go_ret2
    exact grpost_no (.inl ⟨rfl, HN.out⟩) (Below.refl _ _)
  · have h5' : ¬ (1200 : Int) < (zs.length : Int) := by omega
    have HN := Lib.hid (show zs.length ≤ 1200 by omega)
    obtain ⟨bb, hbb⟩ : ∃ bb, ((zs.length : Int) == 0) = bb := ⟨_, rfl⟩
    have hbd : bb = decide (zs.length = 0) := by rw [← hbb]; simp [BEq.beq]
    have hI : Jq w (w.alloc (.cells #[.slice ao zs.length cap, .bool bb] 68)) w.heap.size zs ⟨0, bb⟩ :=
      ⟨below_alloc w _, Nat.le_refl _, Nat.zero_le _, by omega, _, heap_alloc_new w _, by rw [List.drop_zero]; exact hr, hp⟩
    have HI := Lib.hid hI
    have HRUN : Hid (Jrun zs [] ⟨0, bb⟩) := Lib.hid (by rw [hbd]; exact jrun_init zs)
    clear hr hp h5 hI hbd
    go_enter Tryd.func19, Tryd.ntmps19
    go_wp2_with fail
    have hsz : (w.alloc (.cells #[.slice ao zs.length cap, .bool bb] 68)).heap.size = w.heap.size + 1 := World.size_alloc _ _
    have HIL : Hid (Jl zs w (w.alloc (.cells #[.slice ao zs.length cap, .bool bb] 68)) w.heap.size (.slice none 0 0) [] ⟨0, bb⟩ (w.alloc (.cells #[.slice ao zs.length cap, .bool bb] 68))) := Lib.hid ⟨Jo.nil _ _ _, HI.out, But.refl _ _, by omega⟩
    clear hbb
    generalize w.alloc (.cells #[.slice ao zs.length cap, .bool bb] 68) = wA at *
    generalize w.heap.size = I at HI HIL hsz ⊢
    go_loopw [5] (fun u wr => ∃ (L : List Fe) (s : JS), Hid (Jl zs w wA I u L s wr) ∧ Hid (Jrun zs (L.map Fe.f) s) ∧ Hid (L.length ≤ s.t)) (fun _ wr => leftW wr I)
    case atStart => exact ⟨[], _, HIL, HRUN, Lib.hid (Nat.zero_le _)⟩
    case round =>
      rename_i wr
      obtain ⟨L, s, HJ, HRN, HLT⟩ := hrel
      obtain ⟨ra, rn, rc, hrn, hrr, hrp, _, _, c0, c1, cf⟩ := HJ.out.jq.cells
      obtain ⟨ua, uc, rfl⟩ := HJ.out.jo.shape
      have HRR := Lib.hid (And.intro hrr hrp)
      have HRNN := Lib.hid hrn
      obtain ⟨t, b⟩ := s
      simp only at c1 hrn
      clear hrr hrp
      cases b with
      | true =>
        have HNO : Hid (gRead zs = none) := Lib.hid (by rcases HRN.out with h | h | h <;> first | exact h.2 | cases h.1)
        by_cases hn0 : rn = 0
        · subst hn0
          go_wp2_with fail
          go_ret2
          exact grpost_no (.inr ⟨rfl, HN.out, HNO.out⟩) HJ.out.jq.bel
        · have hn0' : (0 : Int) < (rn : Int) := by omega
          go_wp2_with fail
          go_ret2
          exact grpost_no (.inr ⟨rfl, HN.out, HNO.out⟩) HJ.out.jq.bel
      | false =>
        by_cases hn0 : rn = 0
        · subst hn0
          have HYES : Hid (gRead zs = some (L.map Fe.f)) := Lib.hid (by
            rcases HRN.out with h | h | h
            · cases h.1
            · exact absurd h.2.1 (by simp only; omega)
            · exact h.2.2)
          go_wp2_with fail
          go_ret2
          exact ⟨_, L, 0, rfl, HJ.out.jo.fl HJ.out.jq.bel, HJ.out.jq.bel, .inr (.inr ⟨rfl, HN.out, HYES.out⟩)⟩
        · have hn0' : (0 : Int) < (rn : Int) := by omega
          obtain ⟨z, r, hz⟩ : ∃ z r, zs.drop t = z :: r := by
            cases h : zs.drop t with
            | nil => exfalso; have := congrArg List.length h; simp at this; omega
            | cons z r => exact ⟨z, r, rfl⟩
          have hc := jbytes_any HJ.out.jq 1 (by omega)
          have hgb : gBytes zs 1 t = some ([z], t + 1) := by unfold gBytes; rw [hz]; simp
          rw [show (1 : Int).toNat = 1 from rfl, jbytes_yes hgb] at hc
          go_wp2_with fail
          refine hc.mono ?_
          rintro e w1 ⟨v1, rfl, ⟨hv1, hp1⟩, hJ1, hB1⟩
          rcases (hv1.below hJ1.bel).cases with ⟨h0, _⟩ | ⟨vb, voff, vcap, rfl, hx1, hx2, hx3, hx4, hvc⟩
          · cases h0
          have hv0 : w1.cell? ⟨vb, voff, none⟩ = some (.int .u8 z) := hvc 0 (by simp)
          clear hvc hv1 hp1 hgb hc hx1 hx2 hx3 hx4
          have HJ1 := Lib.hid (HJ.out.num hJ1 hB1)
          have hzb := HBYT.out.drop t z (by rw [hz]; simp)
          have hwz : wrap64 z = z := by unfold wrap64; omega
          have HZ := Lib.hid hz
          have HTL : Hid (t < zs.length) := Lib.hid (by omega)
          clear hz hJ1 hB1 hzb
          by_cases hz0 : z = 0
          · subst hz0
            go_wp2_with fail
            have HF1 : Hid (Jf zs w wA I w1.heap.size (.slice ua L.length uc) L ⟨t + 1, false⟩ ⟨0, ((1 : Nat) : Int), [], 0, [], 0⟩ (.slice none 0 0) (.slice none 0 0) (w1.alloc (.cells #[.int .i64 0, .int .i64 1, .slice none 0 0, .int .i64 0, .slice none 0 0, .int .i64 0] 33))) := Lib.hid (Jf.new HJ1.out ⟨0, 1, [], 0, [], 0⟩ rfl rfl)
            generalize w1.heap.size = G at HF1 ⊢
            go_loopw [] (fun wr => ∃ (t1 c : Nat), Hid (Jf zs w wA I G (.slice ua L.length uc) L ⟨t1, false⟩ ⟨0, (c : Int), [], 0, [], 0⟩ (.slice none 0 0) (.slice none 0 0) wr) ∧ Hid (c + zeros (zs.drop t1) = 1 + zeros (zs.drop (t + 1)) ∧ t1 + zeros (zs.drop t1) = t + 1 + zeros (zs.drop (t + 1)) ∧ c ≤ t1)) (fun wr => leftW wr I)
            case atStart => exact ⟨t + 1, 1, HF1, Lib.hid ⟨rfl, rfl, by omega⟩⟩
            case round =>
              obtain ⟨t1, c, HFL, HCT⟩ := hrel
              obtain ⟨sa, sn, sc2, hsn, hsr, hsp, _, _, e0, e1, ef⟩ := HFL.out.jl.jq.cells
              obtain ⟨g0, g1, g2, g3, g4, g5, gf⟩ := HFL.out.cells
              simp only at e1 hsn g1
              rcases (hsr.below HFL.out.jl.jq.bel).cases with ⟨h0, _, _, hq, _⟩ | ⟨vb2, vo2, vc2, hq, hpos, _, _, _, hvc2⟩
              · have hs0 : sn = 0 := by cases hq; rfl
                subst hs0
                have HBO : Hid (jBody zs 0 (t + 1) = ((⟨⟨0, (c : Int), [], 0, [], 0⟩, .slice none 0 0, .slice none 0 0⟩ : Fe).f, ⟨t1, false⟩)) := Lib.hid (by have h1 := HCT.out; simp only at h0; rw [h0] at h1; simp only [zeros] at h1; unfold jBody; rw [if_pos rfl]; simp only [Prod.mk.injEq, Fv.mk.injEq, JS.mk.injEq, true_and, and_true]; omega)
                clear hsr hsp h0
                have HTS : Hid (t + 1 ≤ t1) := Lib.hid (by have := jbody_le HBYT.out 0 (t + 1); rw [HBO.out] at this; exact this)
                have HTZ : Hid (t1 ≤ zs.length) := Lib.hid HFL.out.jl.jq.tl
                obtain ⟨_, _, _, _, _, _, _, _, _, x1, xf⟩ := HFL.out.jl.jq.cells
                simp only at x1
                have hrt := grefright_any (w := wr) (k := 0) (c := (c : Int)) (a := 0) (t := 0) HFL.out.sp.rd (HFL.out.dd.below HFL.out.jl.jq.bel)
                unfold fAgg at hrt
                obtain ⟨rb, hrb⟩ : ∃ rb, rightB ((⟨⟨0, (c : Int), [], 0, [], 0⟩, .slice none 0 0, .slice none 0 0⟩ : Fe).f) = rb := ⟨_, rfl⟩
                rw [hrb] at hrt
                obtain ⟨z0, z1, z2, z3, z4, z5, zf⟩ := HFL.out.cells
                simp only at z0 z1 z2 z3 z4 z5 hrt
                have HRX : Hid (∀ x, x = !rb → Jrun zs ((L ++ [(⟨⟨0, (c : Int), [], 0, [], 0⟩, .slice none 0 0, .slice none 0 0⟩ : Fe)]).map Fe.f) ⟨t1, x⟩) := Lib.hid (fun x hx => by have := jrun_step HBYT.out HN.out HRN.out HZ.out (by rw [HBO.out]; exact HTZ.out) x (by rw [HBO.out, hx, ← hrb]; rfl); rw [HBO.out] at this; rw [List.map_append]; exact this)
                clear hrb
                go_wp2_with fail
                refine hrt.mono ?_
                rintro e w4 ⟨rfl, hb4⟩
                have HF4 := Lib.hid (HFL.out.below hb4)
                obtain ⟨_, _, _, _, _, _, _, _, _, q1, qf⟩ := HF4.out.jl.jq.cells
                simp only at q1
                clear hrt hb4 x1 xf z0 z1 z2 z3 z4 z5 zf
                cases rb with
                | true =>
                  have HRN6 := Lib.hid (HRX.out false rfl)
                  clear HRX
                  have HB2 := Lib.hid (HF4.out.setb false)
                  obtain ⟨y0, y1, y2, y3, y4, y5, yf⟩ := HB2.out.cells
                  obtain ⟨v6, w6, hr6, hj6⟩ := HB2.out.app (by have := HLT.out; have := HN.out; have := HTL.out; omega) 22
                  rw [World.size_setCell] at hr6
                  have HJ6 := Lib.hid hj6
                  clear hj6
                  simp only at y0 y1 y2 y3 y4 y5 hr6
                  go_wp2_with (at_builtin; refine wpList_run_ok (.tmp 106) (.tmp 108) _ rfl rfl rfl rfl hr6 ?_)
                  go_roundw
                  case rel => exact ⟨_, ⟨t1, false⟩, HJ6, HRN6, Lib.hid (by rw [List.length_append]; simp only [List.length_cons, List.length_nil]; have := HLT.out; have := HTS.out; omega)⟩
                  case measure => rw [HJ6.out.jq.leftW, HJ.out.jq.leftW]; simp only; have := HTS.out; have := HTL.out; omega
                | false =>
                  have HRN6 := Lib.hid (HRX.out true rfl)
                  clear HRX
                  have HB2 := Lib.hid (HF4.out.setb true)
                  obtain ⟨y0, y1, y2, y3, y4, y5, yf⟩ := HB2.out.cells
                  obtain ⟨v6, w6, hr6, hj6⟩ := HB2.out.app (by have := HLT.out; have := HN.out; have := HTL.out; omega) 22
                  rw [World.size_setCell] at hr6
                  have HJ6 := Lib.hid hj6
                  clear hj6
                  simp only at y0 y1 y2 y3 y4 y5 hr6
                  go_wp2_with (at_builtin; refine wpList_run_ok (.tmp 106) (.tmp 108) _ rfl rfl rfl rfl hr6 ?_)
                  go_roundw
                  case rel => exact ⟨_, ⟨t1, true⟩, HJ6, HRN6, Lib.hid (by rw [List.length_append]; simp only [List.length_cons, List.length_nil]; have := HLT.out; have := HTS.out; omega)⟩
                  case measure => rw [HJ6.out.jq.leftW, HJ.out.jq.leftW]; simp only; have := HTS.out; have := HTL.out; omega
              · simp only at hvc2 hpos
                obtain ⟨z2, r2, hz2⟩ : ∃ z2 r2, zs.drop t1 = z2 :: r2 := by
                  cases h : zs.drop t1 with
                  | nil => rw [h] at hpos; simp at hpos
                  | cons z2 r2 => exact ⟨z2, r2, rfl⟩
                have hsn0 : (0 : Int) < (sn : Int) := by have := congrArg List.length hz2; simp at this; omega
                have hq2 := hq
                simp only [Value.slice.injEq] at hq2
                obtain ⟨rfl, hsnl, rfl⟩ := hq2
                have hv2 : wr.cell? ⟨vb2, vo2, none⟩ = some (.int .u8 z2) := by have := hvc2 0 hpos; rw [hz2] at this; exact this
                clear hvc2 hpos hsr hsp hq hsnl
                by_cases hz20 : z2 = 0
                · subst hz20
                  have hc := jbytes_any HFL.out.jl.jq 1 (by omega)
                  have hgb : gBytes zs 1 t1 = some ([0], t1 + 1) := by unfold gBytes; rw [hz2]; simp
                  rw [show (1 : Int).toNat = 1 from rfl, jbytes_yes hgb] at hc
                  have HD2 : Hid (zeros (zs.drop t1) = zeros (zs.drop (t1 + 1)) + 1) := Lib.hid (by rw [← List.drop_drop, hz2]; simp [zeros])
                  have hcw : IntKind.i64.wrap ((c : Int) + 1) = (c : Int) + 1 := IntWalk.i64_in _ ⟨by omega, by have := HCT.out; have := HN.out; have := HFL.out.jl.jq.tl; simp only at this; omega⟩
                  clear hgb hz2
                  go_wp2_with fail
                  refine hc.mono ?_
                  rintro e w3 ⟨v3, rfl, _, hJ3, hB3⟩
                  have HF3 := Lib.hid (HFL.out.num hJ3 hB3)
                  have HF4 := Lib.hid (HF3.out.setc ((c : Int) + 1))
                  obtain ⟨k0, k1, k2, k3, k4, k5, kf⟩ := HF3.out.cells
                  simp only at k1
                  clear hc hJ3 hB3 k0 k2 k3 k4 k5 g0 g1 g2 g3 g4 g5 e0 e1 hv2
                  go_wp2_with fail
                  go_roundw
                  case rel => exact ⟨t1 + 1, c + 1, HF4, Lib.hid (by have := HCT.out; have := HD2.out; omega)⟩
                  case measure => rw [HF4.out.jl.jq.leftW, HFL.out.jl.jq.leftW]; simp only; omega
                · have hz21 : (z2 == 0) = false := by simp [hz20]
                  have HBO : Hid (jBody zs 0 (t + 1) = ((⟨⟨0, (c : Int), [], 0, [], 0⟩, .slice none 0 0, .slice none 0 0⟩ : Fe).f, ⟨t1, false⟩)) := Lib.hid (by have h1 := HCT.out; rw [hz2] at h1; simp only [zeros, if_neg hz20] at h1; unfold jBody; rw [if_pos rfl]; simp only [Prod.mk.injEq, Fv.mk.injEq, JS.mk.injEq, true_and, and_true]; omega)
                  clear hz2 hz20
                  have HTS : Hid (t + 1 ≤ t1) := Lib.hid (by have := jbody_le HBYT.out 0 (t + 1); rw [HBO.out] at this; exact this)
                  have HTZ : Hid (t1 ≤ zs.length) := Lib.hid HFL.out.jl.jq.tl
                  obtain ⟨_, _, _, _, _, _, _, _, _, x1, xf⟩ := HFL.out.jl.jq.cells
                  simp only at x1
                  have hrt := grefright_any (w := wr) (k := 0) (c := (c : Int)) (a := 0) (t := 0) HFL.out.sp.rd (HFL.out.dd.below HFL.out.jl.jq.bel)
                  unfold fAgg at hrt
                  obtain ⟨rb, hrb⟩ : ∃ rb, rightB ((⟨⟨0, (c : Int), [], 0, [], 0⟩, .slice none 0 0, .slice none 0 0⟩ : Fe).f) = rb := ⟨_, rfl⟩
                  rw [hrb] at hrt
                  obtain ⟨z0, z1, z2, z3, z4, z5, zf⟩ := HFL.out.cells
                  simp only at z0 z1 z2 z3 z4 z5 hrt
                  have HRX : Hid (∀ x, x = !rb → Jrun zs ((L ++ [(⟨⟨0, (c : Int), [], 0, [], 0⟩, .slice none 0 0, .slice none 0 0⟩ : Fe)]).map Fe.f) ⟨t1, x⟩) := Lib.hid (fun x hx => by have := jrun_step HBYT.out HN.out HRN.out HZ.out (by rw [HBO.out]; exact HTZ.out) x (by rw [HBO.out, hx, ← hrb]; rfl); rw [HBO.out] at this; rw [List.map_append]; exact this)
                  clear hrb
                  go_wp2_with fail
                  refine hrt.mono ?_
                  rintro e w4 ⟨rfl, hb4⟩
                  have HF4 := Lib.hid (HFL.out.below hb4)
                  obtain ⟨_, _, _, _, _, _, _, _, _, q1, qf⟩ := HF4.out.jl.jq.cells
                  simp only at q1
                  clear hrt hb4 x1 xf z0 z1 z2 z3 z4 z5 zf
                  cases rb with
                  | true =>
                    have HRN6 := Lib.hid (HRX.out false rfl)
                    clear HRX
                    have HB2 := Lib.hid (HF4.out.setb false)
                    obtain ⟨y0, y1, y2, y3, y4, y5, yf⟩ := HB2.out.cells
                    obtain ⟨v6, w6, hr6, hj6⟩ := HB2.out.app (by have := HLT.out; have := HN.out; have := HTL.out; omega) 22
                    rw [World.size_setCell] at hr6
                    have HJ6 := Lib.hid hj6
                    clear hj6
                    simp only at y0 y1 y2 y3 y4 y5 hr6
                    go_wp2_with (at_builtin; refine wpList_run_ok (.tmp 106) (.tmp 108) _ rfl rfl rfl rfl hr6 ?_)
                    go_roundw
                    case rel => exact ⟨_, ⟨t1, false⟩, HJ6, HRN6, Lib.hid (by rw [List.length_append]; simp only [List.length_cons, List.length_nil]; have := HLT.out; have := HTS.out; omega)⟩
                    case measure => rw [HJ6.out.jq.leftW, HJ.out.jq.leftW]; simp only; have := HTS.out; have := HTL.out; omega
                  | false =>
                    have HRN6 := Lib.hid (HRX.out true rfl)
                    clear HRX
                    have HB2 := Lib.hid (HF4.out.setb true)
                    obtain ⟨y0, y1, y2, y3, y4, y5, yf⟩ := HB2.out.cells
                    obtain ⟨v6, w6, hr6, hj6⟩ := HB2.out.app (by have := HLT.out; have := HN.out; have := HTL.out; omega) 22
                    rw [World.size_setCell] at hr6
                    have HJ6 := Lib.hid hj6
                    clear hj6
                    simp only at y0 y1 y2 y3 y4 y5 hr6
                    go_wp2_with (at_builtin; refine wpList_run_ok (.tmp 106) (.tmp 108) _ rfl rfl rfl rfl hr6 ?_)
                    go_roundw
                    case rel => exact ⟨_, ⟨t1, true⟩, HJ6, HRN6, Lib.hid (by rw [List.length_append]; simp only [List.length_cons, List.length_nil]; have := HLT.out; have := HTS.out; omega)⟩
                    case measure => rw [HJ6.out.jq.leftW, HJ.out.jq.leftW]; simp only; have := HTS.out; have := HTL.out; omega
          by_cases hz2 : z = 2
          · subst hz2
            have HF0 : Hid (Jf zs w wA I w1.heap.size (.slice ua L.length uc) L ⟨t + 1, false⟩ ⟨2, 0, [], 0, [], 0⟩ (.slice none 0 0) (.slice none 0 0) (w1.alloc (.cells #[.int .i64 2, .int .i64 0, .slice none 0 0, .int .i64 0, .slice none 0 0, .int .i64 0] 33))) := Lib.hid (Jf.new HJ1.out ⟨2, 0, [], 0, [], 0⟩ rfl rfl)
            go_wp2_with fail
            generalize (w1.alloc (.cells #[.int .i64 2, .int .i64 0, .slice none 0 0, .int .i64 0, .slice none 0 0, .int .i64 0] 33)) = W at *
            generalize w1.heap.size = G at *
            have hc2 := jack_any HF0.out.jl.jq HBYT.out
            refine hc2.mono ?_
            rintro e w2 ⟨v2, rfl, hs2, hJ2, hB2⟩
            obtain ⟨S, ts, bs, hS⟩ : ∃ S ts bs, jAck zs ⟨t + 1, false⟩ = (S, ⟨ts, bs⟩) := ⟨_, _, _, rfl⟩
            rw [hS] at hs2 hJ2
            simp only at hs2 hJ2
            have HF1 := Lib.hid ((HF0.out.num hJ2 hB2).sets (hs2.mono HF0.out.lt))
            obtain ⟨k0, k1, k2, k3, k4, k5, kf⟩ := ((HF0.out.num hJ2 hB2)).cells
            simp only at k0 k1 k2 k3 k4 k5
            obtain ⟨sa, sn, rfl⟩ := rs_shape hs2.rd
            have HBO : Hid (jBody zs 2 (t + 1) = ((⟨⟨2, 0, S, 0, [], 0⟩, .slice sa S.length sn, .slice none 0 0⟩ : Fe).f, ⟨ts, bs⟩)) := Lib.hid (by unfold jBody; rw [hS]; rfl)
            clear hc2 hs2 hJ2 hB2 hS
            go_simp
            iterate 15 (first | go_values | go_skip | go_guarded | go_step | go_upon | go_back)
            generalize hW9 : w2.setCell ⟨G, 2, none⟩ (.slice sa S.length sn) = W9
            rw [hW9] at HF1
            clear hW9 k0 k1 k2 k3 k4 k5 kf
            have HTS : Hid (t + 1 ≤ ts) := Lib.hid (by have := jbody_le HBYT.out 2 (t + 1); rw [HBO.out] at this; exact this)
            have HTZ : Hid (ts ≤ zs.length) := Lib.hid HF1.out.jl.jq.tl
            obtain ⟨_, _, _, _, _, _, _, _, _, x1, xf⟩ := HF1.out.jl.jq.cells
            simp only at x1
            cases bs with
            | true =>
              have HRN6 : Hid (Jrun zs ((L ++ [(⟨⟨2, 0, S, 0, [], 0⟩, .slice sa S.length sn, .slice none 0 0⟩ : Fe)]).map Fe.f) ⟨ts, true⟩) := Lib.hid (by have := jrun_step HBYT.out HN.out HRN.out HZ.out (by rw [HBO.out]; exact HTZ.out) true (by rw [HBO.out]; rfl); rw [HBO.out] at this; rw [List.map_append]; exact this)
              have HB2 := Lib.hid (HF1.out.setb true)
              obtain ⟨y0, y1, y2, y3, y4, y5, yf⟩ := HB2.out.cells
              obtain ⟨v6, w6, hr6, hj6⟩ := HB2.out.app (by have := HLT.out; have := HN.out; have := HTL.out; omega) 22
              rw [World.size_setCell] at hr6
              have HJ6 := Lib.hid hj6
              clear hj6
              simp only at y0 y1 y2 y3 y4 y5 hr6
              go_wp2_with (at_builtin; refine wpList_run_ok (.tmp 106) (.tmp 108) _ rfl rfl rfl rfl hr6 ?_)
              go_roundw
              case rel => exact ⟨_, ⟨ts, true⟩, HJ6, HRN6, Lib.hid (by rw [List.length_append]; simp only [List.length_cons, List.length_nil]; have := HLT.out; have := HTS.out; omega)⟩
              case measure => rw [HJ6.out.jq.leftW, HJ.out.jq.leftW]; simp only; have := HTS.out; have := HTL.out; omega
            | false =>
              have hrt := grefright_any (w := W9) (k := 2) (c := 0) (a := 0) (t := 0) HF1.out.sp.rd (HF1.out.dd.below HF1.out.jl.jq.bel)
              unfold fAgg at hrt
              obtain ⟨rb, hrb⟩ : ∃ rb, rightB ((⟨⟨2, 0, S, 0, [], 0⟩, .slice sa S.length sn, .slice none 0 0⟩ : Fe).f) = rb := ⟨_, rfl⟩
              rw [hrb] at hrt
              obtain ⟨z0, z1, z2, z3, z4, z5, zf⟩ := HF1.out.cells
              simp only at z0 z1 z2 z3 z4 z5 hrt
              have HRX : Hid (∀ x, x = !rb → Jrun zs ((L ++ [(⟨⟨2, 0, S, 0, [], 0⟩, .slice sa S.length sn, .slice none 0 0⟩ : Fe)]).map Fe.f) ⟨ts, x⟩) := Lib.hid (fun x hx => by have := jrun_step HBYT.out HN.out HRN.out HZ.out (by rw [HBO.out]; exact HTZ.out) x (by rw [HBO.out, hx, ← hrb]; rfl); rw [HBO.out] at this; rw [List.map_append]; exact this)
              clear hrb
              go_wp2_with fail
              refine hrt.mono ?_
              rintro e w4 ⟨rfl, hb4⟩
              have HF4 := Lib.hid (HF1.out.below hb4)
              obtain ⟨_, _, _, _, _, _, _, _, _, q1, qf⟩ := HF4.out.jl.jq.cells
              simp only at q1
              clear hrt hb4 x1 xf z0 z1 z2 z3 z4 z5 zf
              cases rb with
              | true =>
                have HRN6 := Lib.hid (HRX.out false rfl)
                clear HRX
                have HB2 := Lib.hid (HF4.out.setb false)
                obtain ⟨y0, y1, y2, y3, y4, y5, yf⟩ := HB2.out.cells
                obtain ⟨v6, w6, hr6, hj6⟩ := HB2.out.app (by have := HLT.out; have := HN.out; have := HTL.out; omega) 22
                rw [World.size_setCell] at hr6
                have HJ6 := Lib.hid hj6
                clear hj6
                simp only at y0 y1 y2 y3 y4 y5 hr6
                go_wp2_with (at_builtin; refine wpList_run_ok (.tmp 106) (.tmp 108) _ rfl rfl rfl rfl hr6 ?_)
                go_roundw
                case rel => exact ⟨_, ⟨ts, false⟩, HJ6, HRN6, Lib.hid (by rw [List.length_append]; simp only [List.length_cons, List.length_nil]; have := HLT.out; have := HTS.out; omega)⟩
                case measure => rw [HJ6.out.jq.leftW, HJ.out.jq.leftW]; simp only; have := HTS.out; have := HTL.out; omega
              | false =>
                have HRN6 := Lib.hid (HRX.out true rfl)
                clear HRX
                have HB2 := Lib.hid (HF4.out.setb true)
                obtain ⟨y0, y1, y2, y3, y4, y5, yf⟩ := HB2.out.cells
                obtain ⟨v6, w6, hr6, hj6⟩ := HB2.out.app (by have := HLT.out; have := HN.out; have := HTL.out; omega) 22
                rw [World.size_setCell] at hr6
                have HJ6 := Lib.hid hj6
                clear hj6
                simp only at y0 y1 y2 y3 y4 y5 hr6
                go_wp2_with (at_builtin; refine wpList_run_ok (.tmp 106) (.tmp 108) _ rfl rfl rfl rfl hr6 ?_)
                go_roundw
                case rel => exact ⟨_, ⟨ts, true⟩, HJ6, HRN6, Lib.hid (by rw [List.length_append]; simp only [List.length_cons, List.length_nil]; have := HLT.out; have := HTS.out; omega)⟩
                case measure => rw [HJ6.out.jq.leftW, HJ.out.jq.leftW]; simp only; have := HTS.out; have := HTL.out; omega
          by_cases hz6 : z = 6
          · subst hz6
            have HF0 : Hid (Jf zs w wA I w1.heap.size (.slice ua L.length uc) L ⟨t + 1, false⟩ ⟨6, 0, [], 0, [], 0⟩ (.slice none 0 0) (.slice none 0 0) (w1.alloc (.cells #[.int .i64 6, .int .i64 0, .slice none 0 0, .int .i64 0, .slice none 0 0, .int .i64 0] 33))) := Lib.hid (Jf.new HJ1.out ⟨6, 0, [], 0, [], 0⟩ rfl rfl)
            go_wp2_with fail
            generalize (w1.alloc (.cells #[.int .i64 6, .int .i64 0, .slice none 0 0, .int .i64 0, .slice none 0 0, .int .i64 0] 33)) = W at *
            generalize w1.heap.size = G at *
            have hc2 := jnum_any HF0.out.jl.jq HBYT.out
            obtain ⟨a, s2, hS⟩ : ∃ S s2, jNum zs ⟨t + 1, false⟩ = (S, s2) := ⟨_, _, rfl⟩
            rw [hS] at hc2
            simp only at hc2
            refine hc2.mono ?_
            rintro e w2 ⟨rfl, hJ2, hB2⟩
            have HF1 := Lib.hid ((HF0.out.num hJ2 hB2).seta a)
            obtain ⟨k0, k1, k2, k3, k4, k5, kf⟩ := ((HF0.out.num hJ2 hB2)).cells
            simp only at k0 k1 k2 k3 k4 k5
            have hc3 := jnum_any HF1.out.jl.jq HBYT.out
            have hbd := jnum_bd HBYT.out s2
            obtain ⟨n, s3, hS3⟩ : ∃ S s3, jNum zs s2 = (S, s3) := ⟨_, _, rfl⟩
            rw [hS3] at hc3 hbd
            simp only at hc3 hbd
            clear hc2 hJ2 hB2
            go_wp2_with fail
            refine hc3.mono ?_
            rintro e w3 ⟨rfl, hJ3, hB3⟩
            have HF2 := Lib.hid (HF1.out.num hJ3 hB3)
            have hc4 := jbytes_any hJ3 n hbd.1
            obtain ⟨d, ts, bs, hS4⟩ : ∃ S ts bs, jBytes zs n.toNat s3 = (S, ⟨ts, bs⟩) := ⟨_, _, _, rfl⟩
            rw [hS4] at hc4
            simp only at hc4
            clear hc3 hJ3 hB3
            go_wp2_with fail
            refine hc4.mono ?_
            rintro e w5 ⟨v5, rfl, ⟨hd5, _⟩, hJ5, hB5⟩
            have HF3 := Lib.hid ((HF2.out.num hJ5 hB5).setd hd5)
            obtain ⟨k0, k1, k2, k3, k4, k5, kf⟩ := ((HF2.out.num hJ5 hB5)).cells
            simp only at k0 k1 k2 k3 k4 k5
            obtain ⟨da, dn, rfl⟩ := hd5.shape
            have HBO : Hid (jBody zs 6 (t + 1) = ((⟨⟨6, 0, [], a, d, 0⟩, .slice none 0 0, .slice da d.length dn⟩ : Fe).f, ⟨ts, bs⟩)) := Lib.hid (by unfold jBody; rw [hS]; simp only [hS3, hS4]; rfl)
            clear hc4 hJ5 hB5 hS hS3 hS4 hd5
            go_simp
            iterate 15 (first | go_values | go_skip | go_guarded | go_step | go_upon | go_back)
            generalize hW9 : w5.setCell ⟨G, 4, none⟩ (.slice da d.length dn) = W9
            rw [hW9] at HF3
            clear hW9 k0 k1 k2 k3 k4 k5 kf
            have HTS : Hid (t + 1 ≤ ts) := Lib.hid (by have := jbody_le HBYT.out 6 (t + 1); rw [HBO.out] at this; exact this)
            have HTZ : Hid (ts ≤ zs.length) := Lib.hid HF3.out.jl.jq.tl
            obtain ⟨_, _, _, _, _, _, _, _, _, x1, xf⟩ := HF3.out.jl.jq.cells
            simp only at x1
            cases bs with
            | true =>
              have HRN6 : Hid (Jrun zs ((L ++ [(⟨⟨6, 0, [], a, d, 0⟩, .slice none 0 0, .slice da d.length dn⟩ : Fe)]).map Fe.f) ⟨ts, true⟩) := Lib.hid (by have := jrun_step HBYT.out HN.out HRN.out HZ.out (by rw [HBO.out]; exact HTZ.out) true (by rw [HBO.out]; rfl); rw [HBO.out] at this; rw [List.map_append]; exact this)
              have HB2 := Lib.hid (HF3.out.setb true)
              obtain ⟨y0, y1, y2, y3, y4, y5, yf⟩ := HB2.out.cells
              obtain ⟨v6, w6, hr6, hj6⟩ := HB2.out.app (by have := HLT.out; have := HN.out; have := HTL.out; omega) 22
              rw [World.size_setCell] at hr6
              have HJ6 := Lib.hid hj6
              clear hj6
              simp only at y0 y1 y2 y3 y4 y5 hr6
              go_wp2_with (at_builtin; refine wpList_run_ok (.tmp 106) (.tmp 108) _ rfl rfl rfl rfl hr6 ?_)
              go_roundw
              case rel => exact ⟨_, ⟨ts, true⟩, HJ6, HRN6, Lib.hid (by rw [List.length_append]; simp only [List.length_cons, List.length_nil]; have := HLT.out; have := HTS.out; omega)⟩
              case measure => rw [HJ6.out.jq.leftW, HJ.out.jq.leftW]; simp only; have := HTS.out; have := HTL.out; omega
            | false =>
              have hrt := grefright_any (w := W9) (k := 6) (c := 0) (a := a) (t := 0) HF3.out.sp.rd (HF3.out.dd.below HF3.out.jl.jq.bel)
              unfold fAgg at hrt
              obtain ⟨rb, hrb⟩ : ∃ rb, rightB ((⟨⟨6, 0, [], a, d, 0⟩, .slice none 0 0, .slice da d.length dn⟩ : Fe).f) = rb := ⟨_, rfl⟩
              rw [hrb] at hrt
              obtain ⟨z0, z1, z2, z3, z4, z5, zf⟩ := HF3.out.cells
              simp only at z0 z1 z2 z3 z4 z5 hrt
              have HRX : Hid (∀ x, x = !rb → Jrun zs ((L ++ [(⟨⟨6, 0, [], a, d, 0⟩, .slice none 0 0, .slice da d.length dn⟩ : Fe)]).map Fe.f) ⟨ts, x⟩) := Lib.hid (fun x hx => by have := jrun_step HBYT.out HN.out HRN.out HZ.out (by rw [HBO.out]; exact HTZ.out) x (by rw [HBO.out, hx, ← hrb]; rfl); rw [HBO.out] at this; rw [List.map_append]; exact this)
              clear hrb
              go_wp2_with fail
              refine hrt.mono ?_
              rintro e w4 ⟨rfl, hb4⟩
              have HF4 := Lib.hid (HF3.out.below hb4)
              obtain ⟨_, _, _, _, _, _, _, _, _, q1, qf⟩ := HF4.out.jl.jq.cells
              simp only at q1
              clear hrt hb4 x1 xf z0 z1 z2 z3 z4 z5 zf
              cases rb with
              | true =>
                have HRN6 := Lib.hid (HRX.out false rfl)
                clear HRX
                have HB2 := Lib.hid (HF4.out.setb false)
                obtain ⟨y0, y1, y2, y3, y4, y5, yf⟩ := HB2.out.cells
                obtain ⟨v6, w6, hr6, hj6⟩ := HB2.out.app (by have := HLT.out; have := HN.out; have := HTL.out; omega) 22
                rw [World.size_setCell] at hr6
                have HJ6 := Lib.hid hj6
                clear hj6
                simp only at y0 y1 y2 y3 y4 y5 hr6
                go_wp2_with (at_builtin; refine wpList_run_ok (.tmp 106) (.tmp 108) _ rfl rfl rfl rfl hr6 ?_)
                go_roundw
                case rel => exact ⟨_, ⟨ts, false⟩, HJ6, HRN6, Lib.hid (by rw [List.length_append]; simp only [List.length_cons, List.length_nil]; have := HLT.out; have := HTS.out; omega)⟩
                case measure => rw [HJ6.out.jq.leftW, HJ.out.jq.leftW]; simp only; have := HTS.out; have := HTL.out; omega
              | false =>
                have HRN6 := Lib.hid (HRX.out true rfl)
                clear HRX
                have HB2 := Lib.hid (HF4.out.setb true)
                obtain ⟨y0, y1, y2, y3, y4, y5, yf⟩ := HB2.out.cells
                obtain ⟨v6, w6, hr6, hj6⟩ := HB2.out.app (by have := HLT.out; have := HN.out; have := HTL.out; omega) 22
                rw [World.size_setCell] at hr6
                have HJ6 := Lib.hid hj6
                clear hj6
                simp only at y0 y1 y2 y3 y4 y5 hr6
                go_wp2_with (at_builtin; refine wpList_run_ok (.tmp 106) (.tmp 108) _ rfl rfl rfl rfl hr6 ?_)
                go_roundw
                case rel => exact ⟨_, ⟨ts, true⟩, HJ6, HRN6, Lib.hid (by rw [List.length_append]; simp only [List.length_cons, List.length_nil]; have := HLT.out; have := HTS.out; omega)⟩
                case measure => rw [HJ6.out.jq.leftW, HJ.out.jq.leftW]; simp only; have := HTS.out; have := HTL.out; omega
          by_cases hz7 : z = 7
          · subst hz7
            have HF0 : Hid (Jf zs w wA I w1.heap.size (.slice ua L.length uc) L ⟨t + 1, false⟩ ⟨7, 0, [], 0, [], 0⟩ (.slice none 0 0) (.slice none 0 0) (w1.alloc (.cells #[.int .i64 7, .int .i64 0, .slice none 0 0, .int .i64 0, .slice none 0 0, .int .i64 0] 33))) := Lib.hid (Jf.new HJ1.out ⟨7, 0, [], 0, [], 0⟩ rfl rfl)
            go_wp2_with fail
            generalize (w1.alloc (.cells #[.int .i64 7, .int .i64 0, .slice none 0 0, .int .i64 0, .slice none 0 0, .int .i64 0] 33)) = W at *
            generalize w1.heap.size = G at *
            have hc2 := jterm_any HF0.out.jl.jq HBYT.out
            obtain ⟨h, ts, bs, hS⟩ : ∃ S ts bs, jTerm zs ⟨t + 1, false⟩ = (S, ⟨ts, bs⟩) := ⟨_, _, _, rfl⟩
            rw [hS] at hc2
            simp only at hc2
            refine hc2.mono ?_
            rintro e w2 ⟨rfl, hJ2, hB2⟩
            have HF1 := Lib.hid ((HF0.out.num hJ2 hB2).sett h)
            obtain ⟨k0, k1, k2, k3, k4, k5, kf⟩ := ((HF0.out.num hJ2 hB2)).cells
            simp only at k0 k1 k2 k3 k4 k5
            have HBO : Hid (jBody zs 7 (t + 1) = ((⟨⟨7, 0, [], 0, [], h⟩, .slice none 0 0, .slice none 0 0⟩ : Fe).f, ⟨ts, bs⟩)) := Lib.hid (by unfold jBody; rw [hS]; rfl)
            clear hc2 hJ2 hB2 hS
            go_simp
            iterate 15 (first | go_values | go_skip | go_guarded | go_step | go_upon | go_back)
            generalize hW9 : w2.setCell ⟨G, 5, none⟩ (.int .i64 h) = W9
            rw [hW9] at HF1
            clear hW9 k0 k1 k2 k3 k4 k5 kf
            have HTS : Hid (t + 1 ≤ ts) := Lib.hid (by have := jbody_le HBYT.out 7 (t + 1); rw [HBO.out] at this; exact this)
            have HTZ : Hid (ts ≤ zs.length) := Lib.hid HF1.out.jl.jq.tl
            obtain ⟨_, _, _, _, _, _, _, _, _, x1, xf⟩ := HF1.out.jl.jq.cells
            simp only at x1
            cases bs with
            | true =>
              have HRN6 : Hid (Jrun zs ((L ++ [(⟨⟨7, 0, [], 0, [], h⟩, .slice none 0 0, .slice none 0 0⟩ : Fe)]).map Fe.f) ⟨ts, true⟩) := Lib.hid (by have := jrun_step HBYT.out HN.out HRN.out HZ.out (by rw [HBO.out]; exact HTZ.out) true (by rw [HBO.out]; rfl); rw [HBO.out] at this; rw [List.map_append]; exact this)
              have HB2 := Lib.hid (HF1.out.setb true)
              obtain ⟨y0, y1, y2, y3, y4, y5, yf⟩ := HB2.out.cells
              obtain ⟨v6, w6, hr6, hj6⟩ := HB2.out.app (by have := HLT.out; have := HN.out; have := HTL.out; omega) 22
              rw [World.size_setCell] at hr6
              have HJ6 := Lib.hid hj6
              clear hj6
              simp only at y0 y1 y2 y3 y4 y5 hr6
              go_wp2_with (at_builtin; refine wpList_run_ok (.tmp 106) (.tmp 108) _ rfl rfl rfl rfl hr6 ?_)
              go_roundw
              case rel => exact ⟨_, ⟨ts, true⟩, HJ6, HRN6, Lib.hid (by rw [List.length_append]; simp only [List.length_cons, List.length_nil]; have := HLT.out; have := HTS.out; omega)⟩
              case measure => rw [HJ6.out.jq.leftW, HJ.out.jq.leftW]; simp only; have := HTS.out; have := HTL.out; omega
            | false =>
              have hrt := grefright_any (w := W9) (k := 7) (c := 0) (a := 0) (t := h) HF1.out.sp.rd (HF1.out.dd.below HF1.out.jl.jq.bel)
              unfold fAgg at hrt
              obtain ⟨rb, hrb⟩ : ∃ rb, rightB ((⟨⟨7, 0, [], 0, [], h⟩, .slice none 0 0, .slice none 0 0⟩ : Fe).f) = rb := ⟨_, rfl⟩
              rw [hrb] at hrt
              obtain ⟨z0, z1, z2, z3, z4, z5, zf⟩ := HF1.out.cells
              simp only at z0 z1 z2 z3 z4 z5 hrt
              have HRX : Hid (∀ x, x = !rb → Jrun zs ((L ++ [(⟨⟨7, 0, [], 0, [], h⟩, .slice none 0 0, .slice none 0 0⟩ : Fe)]).map Fe.f) ⟨ts, x⟩) := Lib.hid (fun x hx => by have := jrun_step HBYT.out HN.out HRN.out HZ.out (by rw [HBO.out]; exact HTZ.out) x (by rw [HBO.out, hx, ← hrb]; rfl); rw [HBO.out] at this; rw [List.map_append]; exact this)
              clear hrb
              go_wp2_with fail
              refine hrt.mono ?_
              rintro e w4 ⟨rfl, hb4⟩
              have HF4 := Lib.hid (HF1.out.below hb4)
              obtain ⟨_, _, _, _, _, _, _, _, _, q1, qf⟩ := HF4.out.jl.jq.cells
              simp only at q1
              clear hrt hb4 x1 xf z0 z1 z2 z3 z4 z5 zf
              cases rb with
              | true =>
                have HRN6 := Lib.hid (HRX.out false rfl)
                clear HRX
                have HB2 := Lib.hid (HF4.out.setb false)
                obtain ⟨y0, y1, y2, y3, y4, y5, yf⟩ := HB2.out.cells
                obtain ⟨v6, w6, hr6, hj6⟩ := HB2.out.app (by have := HLT.out; have := HN.out; have := HTL.out; omega) 22
                rw [World.size_setCell] at hr6
                have HJ6 := Lib.hid hj6
                clear hj6
                simp only at y0 y1 y2 y3 y4 y5 hr6
                go_wp2_with (at_builtin; refine wpList_run_ok (.tmp 106) (.tmp 108) _ rfl rfl rfl rfl hr6 ?_)
                go_roundw
                case rel => exact ⟨_, ⟨ts, false⟩, HJ6, HRN6, Lib.hid (by rw [List.length_append]; simp only [List.length_cons, List.length_nil]; have := HLT.out; have := HTS.out; omega)⟩
                case measure => rw [HJ6.out.jq.leftW, HJ.out.jq.leftW]; simp only; have := HTS.out; have := HTL.out; omega
              | false =>
                have HRN6 := Lib.hid (HRX.out true rfl)
                clear HRX
                have HB2 := Lib.hid (HF4.out.setb true)
                obtain ⟨y0, y1, y2, y3, y4, y5, yf⟩ := HB2.out.cells
                obtain ⟨v6, w6, hr6, hj6⟩ := HB2.out.app (by have := HLT.out; have := HN.out; have := HTL.out; omega) 22
                rw [World.size_setCell] at hr6
                have HJ6 := Lib.hid hj6
                clear hj6
                simp only at y0 y1 y2 y3 y4 y5 hr6
                go_wp2_with (at_builtin; refine wpList_run_ok (.tmp 106) (.tmp 108) _ rfl rfl rfl rfl hr6 ?_)
                go_roundw
                case rel => exact ⟨_, ⟨ts, true⟩, HJ6, HRN6, Lib.hid (by rw [List.length_append]; simp only [List.length_cons, List.length_nil]; have := HLT.out; have := HTS.out; omega)⟩
                case measure => rw [HJ6.out.jq.leftW, HJ.out.jq.leftW]; simp only; have := HTS.out; have := HTL.out; omega
          by_cases hz8 : z = 8
          · subst hz8
            have HF0 : Hid (Jf zs w wA I w1.heap.size (.slice ua L.length uc) L ⟨t + 1, false⟩ ⟨8, 0, [], 0, [], 0⟩ (.slice none 0 0) (.slice none 0 0) (w1.alloc (.cells #[.int .i64 8, .int .i64 0, .slice none 0 0, .int .i64 0, .slice none 0 0, .int .i64 0] 33))) := Lib.hid (Jf.new HJ1.out ⟨8, 0, [], 0, [], 0⟩ rfl rfl)
            go_wp2_with fail
            generalize (w1.alloc (.cells #[.int .i64 8, .int .i64 0, .slice none 0 0, .int .i64 0, .slice none 0 0, .int .i64 0] 33)) = W at *
            generalize w1.heap.size = G at *
            have hc2 := jnum_any HF0.out.jl.jq HBYT.out
            obtain ⟨c, s2, hS⟩ : ∃ S s2, jNum zs ⟨t + 1, false⟩ = (S, s2) := ⟨_, _, rfl⟩
            rw [hS] at hc2
            simp only at hc2
            refine hc2.mono ?_
            rintro e w2 ⟨rfl, hJ2, hB2⟩
            have HF1 := Lib.hid ((HF0.out.num hJ2 hB2).setc c)
            obtain ⟨k0, k1, k2, k3, k4, k5, kf⟩ := ((HF0.out.num hJ2 hB2)).cells
            simp only at k0 k1 k2 k3 k4 k5
            have hc3 := jterm_any HF1.out.jl.jq HBYT.out
            obtain ⟨h, ts, bs, hS3⟩ : ∃ S ts bs, jTerm zs s2 = (S, ⟨ts, bs⟩) := ⟨_, _, _, rfl⟩
            rw [hS3] at hc3
            simp only at hc3
            have HBO : Hid (jBody zs 8 (t + 1) = ((⟨⟨8, c, [], 0, [], h⟩, .slice none 0 0, .slice none 0 0⟩ : Fe).f, ⟨ts, bs⟩)) := Lib.hid (by unfold jBody; rw [hS]; simp only [hS3]; rfl)
            clear hc2 hJ2 hB2 hS hS3
            go_wp2_with fail
            refine hc3.mono ?_
            rintro e w3 ⟨rfl, hJ3, hB3⟩
            have HF2 := Lib.hid ((HF1.out.num hJ3 hB3).sett h)
            obtain ⟨k0, k1, k2, k3, k4, k5, kf⟩ := ((HF1.out.num hJ3 hB3)).cells
            simp only at k0 k1 k2 k3 k4 k5
            clear hc3 hJ3 hB3
            go_simp
            iterate 15 (first | go_values | go_skip | go_guarded | go_step | go_upon | go_back)
            generalize hW9 : w3.setCell ⟨G, 5, none⟩ (.int .i64 h) = W9
            rw [hW9] at HF2
            clear hW9 k0 k1 k2 k3 k4 k5 kf
            have HTS : Hid (t + 1 ≤ ts) := Lib.hid (by have := jbody_le HBYT.out 8 (t + 1); rw [HBO.out] at this; exact this)
            have HTZ : Hid (ts ≤ zs.length) := Lib.hid HF2.out.jl.jq.tl
            obtain ⟨_, _, _, _, _, _, _, _, _, x1, xf⟩ := HF2.out.jl.jq.cells
            simp only at x1
            cases bs with
            | true =>
              have HRN6 : Hid (Jrun zs ((L ++ [(⟨⟨8, c, [], 0, [], h⟩, .slice none 0 0, .slice none 0 0⟩ : Fe)]).map Fe.f) ⟨ts, true⟩) := Lib.hid (by have := jrun_step HBYT.out HN.out HRN.out HZ.out (by rw [HBO.out]; exact HTZ.out) true (by rw [HBO.out]; rfl); rw [HBO.out] at this; rw [List.map_append]; exact this)
              have HB2 := Lib.hid (HF2.out.setb true)
              obtain ⟨y0, y1, y2, y3, y4, y5, yf⟩ := HB2.out.cells
              obtain ⟨v6, w6, hr6, hj6⟩ := HB2.out.app (by have := HLT.out; have := HN.out; have := HTL.out; omega) 22
              rw [World.size_setCell] at hr6
              have HJ6 := Lib.hid hj6
              clear hj6
              simp only at y0 y1 y2 y3 y4 y5 hr6
              go_wp2_with (at_builtin; refine wpList_run_ok (.tmp 106) (.tmp 108) _ rfl rfl rfl rfl hr6 ?_)
              go_roundw
              case rel => exact ⟨_, ⟨ts, true⟩, HJ6, HRN6, Lib.hid (by rw [List.length_append]; simp only [List.length_cons, List.length_nil]; have := HLT.out; have := HTS.out; omega)⟩
              case measure => rw [HJ6.out.jq.leftW, HJ.out.jq.leftW]; simp only; have := HTS.out; have := HTL.out; omega
            | false =>
              have hrt := grefright_any (w := W9) (k := 8) (c := c) (a := 0) (t := h) HF2.out.sp.rd (HF2.out.dd.below HF2.out.jl.jq.bel)
              unfold fAgg at hrt
              obtain ⟨rb, hrb⟩ : ∃ rb, rightB ((⟨⟨8, c, [], 0, [], h⟩, .slice none 0 0, .slice none 0 0⟩ : Fe).f) = rb := ⟨_, rfl⟩
              rw [hrb] at hrt
              obtain ⟨z0, z1, z2, z3, z4, z5, zf⟩ := HF2.out.cells
              simp only at z0 z1 z2 z3 z4 z5 hrt
              have HRX : Hid (∀ x, x = !rb → Jrun zs ((L ++ [(⟨⟨8, c, [], 0, [], h⟩, .slice none 0 0, .slice none 0 0⟩ : Fe)]).map Fe.f) ⟨ts, x⟩) := Lib.hid (fun x hx => by have := jrun_step HBYT.out HN.out HRN.out HZ.out (by rw [HBO.out]; exact HTZ.out) x (by rw [HBO.out, hx, ← hrb]; rfl); rw [HBO.out] at this; rw [List.map_append]; exact this)
              clear hrb
              go_wp2_with fail
              refine hrt.mono ?_
              rintro e w4 ⟨rfl, hb4⟩
              have HF4 := Lib.hid (HF2.out.below hb4)
              obtain ⟨_, _, _, _, _, _, _, _, _, q1, qf⟩ := HF4.out.jl.jq.cells
              simp only at q1
              clear hrt hb4 x1 xf z0 z1 z2 z3 z4 z5 zf
              cases rb with
              | true =>
                have HRN6 := Lib.hid (HRX.out false rfl)
                clear HRX
                have HB2 := Lib.hid (HF4.out.setb false)
                obtain ⟨y0, y1, y2, y3, y4, y5, yf⟩ := HB2.out.cells
                obtain ⟨v6, w6, hr6, hj6⟩ := HB2.out.app (by have := HLT.out; have := HN.out; have := HTL.out; omega) 22
                rw [World.size_setCell] at hr6
                have HJ6 := Lib.hid hj6
                clear hj6
                simp only at y0 y1 y2 y3 y4 y5 hr6
                go_wp2_with (at_builtin; refine wpList_run_ok (.tmp 106) (.tmp 108) _ rfl rfl rfl rfl hr6 ?_)
                go_roundw
                case rel => exact ⟨_, ⟨ts, false⟩, HJ6, HRN6, Lib.hid (by rw [List.length_append]; simp only [List.length_cons, List.length_nil]; have := HLT.out; have := HTS.out; omega)⟩
                case measure => rw [HJ6.out.jq.leftW, HJ.out.jq.leftW]; simp only; have := HTS.out; have := HTL.out; omega
              | false =>
                have HRN6 := Lib.hid (HRX.out true rfl)
                clear HRX
                have HB2 := Lib.hid (HF4.out.setb true)
                obtain ⟨y0, y1, y2, y3, y4, y5, yf⟩ := HB2.out.cells
                obtain ⟨v6, w6, hr6, hj6⟩ := HB2.out.app (by have := HLT.out; have := HN.out; have := HTL.out; omega) 22
                rw [World.size_setCell] at hr6
                have HJ6 := Lib.hid hj6
                clear hj6
                simp only at y0 y1 y2 y3 y4 y5 hr6
                go_wp2_with (at_builtin; refine wpList_run_ok (.tmp 106) (.tmp 108) _ rfl rfl rfl rfl hr6 ?_)
                go_roundw
                case rel => exact ⟨_, ⟨ts, true⟩, HJ6, HRN6, Lib.hid (by rw [List.length_append]; simp only [List.length_cons, List.length_nil]; have := HLT.out; have := HTS.out; omega)⟩
                case measure => rw [HJ6.out.jq.leftW, HJ.out.jq.leftW]; simp only; have := HTS.out; have := HTL.out; omega
          by_cases hz28 : z = 28
          · subst hz28
            have HF0 : Hid (Jf zs w wA I w1.heap.size (.slice ua L.length uc) L ⟨t + 1, false⟩ ⟨28, 0, [], 0, [], 0⟩ (.slice none 0 0) (.slice none 0 0) (w1.alloc (.cells #[.int .i64 28, .int .i64 0, .slice none 0 0, .int .i64 0, .slice none 0 0, .int .i64 0] 33))) := Lib.hid (Jf.new HJ1.out ⟨28, 0, [], 0, [], 0⟩ rfl rfl)
            go_wp2_with fail
            generalize (w1.alloc (.cells #[.int .i64 28, .int .i64 0, .slice none 0 0, .int .i64 0, .slice none 0 0, .int .i64 0] 33)) = W at *
            generalize w1.heap.size = G at *
            have hc2 := jnum_any HF0.out.jl.jq HBYT.out
            obtain ⟨h, ts, bs, hS⟩ : ∃ S ts bs, jNum zs ⟨t + 1, false⟩ = (S, ⟨ts, bs⟩) := ⟨_, _, _, rfl⟩
            rw [hS] at hc2
            simp only at hc2
            refine hc2.mono ?_
            rintro e w2 ⟨rfl, hJ2, hB2⟩
            have HF1 := Lib.hid ((HF0.out.num hJ2 hB2).setc h)
            obtain ⟨k0, k1, k2, k3, k4, k5, kf⟩ := ((HF0.out.num hJ2 hB2)).cells
            simp only at k0 k1 k2 k3 k4 k5
            have HBO : Hid (jBody zs 28 (t + 1) = ((⟨⟨28, h, [], 0, [], 0⟩, .slice none 0 0, .slice none 0 0⟩ : Fe).f, ⟨ts, bs⟩)) := Lib.hid (by unfold jBody; rw [hS]; rfl)
            clear hc2 hJ2 hB2 hS
            go_simp
            iterate 15 (first | go_values | go_skip | go_guarded | go_step | go_upon | go_back)
            generalize hW9 : w2.setCell ⟨G, 1, none⟩ (.int .i64 h) = W9
            rw [hW9] at HF1
            clear hW9 k0 k1 k2 k3 k4 k5 kf
            have HTS : Hid (t + 1 ≤ ts) := Lib.hid (by have := jbody_le HBYT.out 28 (t + 1); rw [HBO.out] at this; exact this)
            have HTZ : Hid (ts ≤ zs.length) := Lib.hid HF1.out.jl.jq.tl
            obtain ⟨_, _, _, _, _, _, _, _, _, x1, xf⟩ := HF1.out.jl.jq.cells
            simp only at x1
            cases bs with
            | true =>
              have HRN6 : Hid (Jrun zs ((L ++ [(⟨⟨28, h, [], 0, [], 0⟩, .slice none 0 0, .slice none 0 0⟩ : Fe)]).map Fe.f) ⟨ts, true⟩) := Lib.hid (by have := jrun_step HBYT.out HN.out HRN.out HZ.out (by rw [HBO.out]; exact HTZ.out) true (by rw [HBO.out]; rfl); rw [HBO.out] at this; rw [List.map_append]; exact this)
              have HB2 := Lib.hid (HF1.out.setb true)
              obtain ⟨y0, y1, y2, y3, y4, y5, yf⟩ := HB2.out.cells
              obtain ⟨v6, w6, hr6, hj6⟩ := HB2.out.app (by have := HLT.out; have := HN.out; have := HTL.out; omega) 22
              rw [World.size_setCell] at hr6
              have HJ6 := Lib.hid hj6
              clear hj6
              simp only at y0 y1 y2 y3 y4 y5 hr6
              go_wp2_with (at_builtin; refine wpList_run_ok (.tmp 106) (.tmp 108) _ rfl rfl rfl rfl hr6 ?_)
              go_roundw
              case rel => exact ⟨_, ⟨ts, true⟩, HJ6, HRN6, Lib.hid (by rw [List.length_append]; simp only [List.length_cons, List.length_nil]; have := HLT.out; have := HTS.out; omega)⟩
              case measure => rw [HJ6.out.jq.leftW, HJ.out.jq.leftW]; simp only; have := HTS.out; have := HTL.out; omega
            | false =>
              have hrt := grefright_any (w := W9) (k := 28) (c := h) (a := 0) (t := 0) HF1.out.sp.rd (HF1.out.dd.below HF1.out.jl.jq.bel)
              unfold fAgg at hrt
              obtain ⟨rb, hrb⟩ : ∃ rb, rightB ((⟨⟨28, h, [], 0, [], 0⟩, .slice none 0 0, .slice none 0 0⟩ : Fe).f) = rb := ⟨_, rfl⟩
              rw [hrb] at hrt
              obtain ⟨z0, z1, z2, z3, z4, z5, zf⟩ := HF1.out.cells
              simp only at z0 z1 z2 z3 z4 z5 hrt
              have HRX : Hid (∀ x, x = !rb → Jrun zs ((L ++ [(⟨⟨28, h, [], 0, [], 0⟩, .slice none 0 0, .slice none 0 0⟩ : Fe)]).map Fe.f) ⟨ts, x⟩) := Lib.hid (fun x hx => by have := jrun_step HBYT.out HN.out HRN.out HZ.out (by rw [HBO.out]; exact HTZ.out) x (by rw [HBO.out, hx, ← hrb]; rfl); rw [HBO.out] at this; rw [List.map_append]; exact this)
              clear hrb
              go_wp2_with fail
              refine hrt.mono ?_
              rintro e w4 ⟨rfl, hb4⟩
              have HF4 := Lib.hid (HF1.out.below hb4)
              obtain ⟨_, _, _, _, _, _, _, _, _, q1, qf⟩ := HF4.out.jl.jq.cells
              simp only at q1
              clear hrt hb4 x1 xf z0 z1 z2 z3 z4 z5 zf
              cases rb with
              | true =>
                have HRN6 := Lib.hid (HRX.out false rfl)
                clear HRX
                have HB2 := Lib.hid (HF4.out.setb false)
                obtain ⟨y0, y1, y2, y3, y4, y5, yf⟩ := HB2.out.cells
                obtain ⟨v6, w6, hr6, hj6⟩ := HB2.out.app (by have := HLT.out; have := HN.out; have := HTL.out; omega) 22
                rw [World.size_setCell] at hr6
                have HJ6 := Lib.hid hj6
                clear hj6
                simp only at y0 y1 y2 y3 y4 y5 hr6
                go_wp2_with (at_builtin; refine wpList_run_ok (.tmp 106) (.tmp 108) _ rfl rfl rfl rfl hr6 ?_)
                go_roundw
                case rel => exact ⟨_, ⟨ts, false⟩, HJ6, HRN6, Lib.hid (by rw [List.length_append]; simp only [List.length_cons, List.length_nil]; have := HLT.out; have := HTS.out; omega)⟩
                case measure => rw [HJ6.out.jq.leftW, HJ.out.jq.leftW]; simp only; have := HTS.out; have := HTL.out; omega
              | false =>
                have HRN6 := Lib.hid (HRX.out true rfl)
                clear HRX
                have HB2 := Lib.hid (HF4.out.setb true)
                obtain ⟨y0, y1, y2, y3, y4, y5, yf⟩ := HB2.out.cells
                obtain ⟨v6, w6, hr6, hj6⟩ := HB2.out.app (by have := HLT.out; have := HN.out; have := HTL.out; omega) 22
                rw [World.size_setCell] at hr6
                have HJ6 := Lib.hid hj6
                clear hj6
                simp only at y0 y1 y2 y3 y4 y5 hr6
                go_wp2_with (at_builtin; refine wpList_run_ok (.tmp 106) (.tmp 108) _ rfl rfl rfl rfl hr6 ?_)
                go_roundw
                case rel => exact ⟨_, ⟨ts, true⟩, HJ6, HRN6, Lib.hid (by rw [List.length_append]; simp only [List.length_cons, List.length_nil]; have := HLT.out; have := HTS.out; omega)⟩
                case measure => rw [HJ6.out.jq.leftW, HJ.out.jq.leftW]; simp only; have := HTS.out; have := HTL.out; omega
          have HF0 : Hid (Jf zs w wA I w1.heap.size (.slice ua L.length uc) L ⟨t + 1, false⟩ ⟨z, 0, [], 0, [], 0⟩ (.slice none 0 0) (.slice none 0 0) (w1.alloc (.cells #[.int .i64 z, .int .i64 0, .slice none 0 0, .int .i64 0, .slice none 0 0, .int .i64 0] 33))) := Lib.hid (Jf.new HJ1.out ⟨z, 0, [], 0, [], 0⟩ rfl rfl)
          have HBO : Hid (jBody zs z (t + 1) = ((⟨⟨z, 0, [], 0, [], 0⟩, .slice none 0 0, .slice none 0 0⟩ : Fe).f, ⟨t + 1, false⟩)) := Lib.hid (by unfold jBody; rw [if_neg hz0, if_neg hz2, if_neg hz6, if_neg hz7, if_neg hz8, if_neg hz28])
          have hy0 : (z == 0) = false := beq_eq_false_iff_ne.2 hz0
          have hy2 : (z == 2) = false := beq_eq_false_iff_ne.2 hz2
          have hy6 : (z == 6) = false := beq_eq_false_iff_ne.2 hz6
          have hy7 : (z == 7) = false := beq_eq_false_iff_ne.2 hz7
          have hy8 : (z == 8) = false := beq_eq_false_iff_ne.2 hz8
          have hy28 : (z == 28) = false := beq_eq_false_iff_ne.2 hz28
          have HTS : Hid (t + 1 ≤ t + 1) := Lib.hid (by have := jbody_le HBYT.out z (t + 1); rw [HBO.out] at this; exact this)
          have HTZ : Hid (t + 1 ≤ zs.length) := Lib.hid HF0.out.jl.jq.tl
          obtain ⟨_, _, _, _, _, _, _, _, _, x1, xf⟩ := HF0.out.jl.jq.cells
          simp only at x1
          have hrt := grefright_any (w := (w1.alloc (.cells #[.int .i64 z, .int .i64 0, .slice none 0 0, .int .i64 0, .slice none 0 0, .int .i64 0] 33))) (k := z) (c := 0) (a := 0) (t := 0) HF0.out.sp.rd (HF0.out.dd.below HF0.out.jl.jq.bel)
          unfold fAgg at hrt
          obtain ⟨rb, hrb⟩ : ∃ rb, rightB ((⟨⟨z, 0, [], 0, [], 0⟩, .slice none 0 0, .slice none 0 0⟩ : Fe).f) = rb := ⟨_, rfl⟩
          rw [hrb] at hrt
          obtain ⟨z0, z1, z2, z3, z4, z5, zf⟩ := HF0.out.cells
          simp only at z0 z1 z2 z3 z4 z5 hrt
          have HRX : Hid (∀ x, x = !rb → Jrun zs ((L ++ [(⟨⟨z, 0, [], 0, [], 0⟩, .slice none 0 0, .slice none 0 0⟩ : Fe)]).map Fe.f) ⟨t + 1, x⟩) := Lib.hid (fun x hx => by have := jrun_step HBYT.out HN.out HRN.out HZ.out (by rw [HBO.out]; exact HTZ.out) x (by rw [HBO.out, hx, ← hrb]; rfl); rw [HBO.out] at this; rw [List.map_append]; exact this)
          clear hrb
          go_wp2_with fail
          refine hrt.mono ?_
          rintro e w4 ⟨rfl, hb4⟩
          have HF4 := Lib.hid (HF0.out.below hb4)
          obtain ⟨_, _, _, _, _, _, _, _, _, q1, qf⟩ := HF4.out.jl.jq.cells
          simp only at q1
          clear hrt hb4 x1 xf z0 z1 z2 z3 z4 z5 zf
          cases rb with
          | true =>
            have HRN6 := Lib.hid (HRX.out false rfl)
            clear HRX
            have HB2 := Lib.hid (HF4.out.setb false)
            obtain ⟨y0, y1, y2, y3, y4, y5, yf⟩ := HB2.out.cells
            obtain ⟨v6, w6, hr6, hj6⟩ := HB2.out.app (by have := HLT.out; have := HN.out; have := HTL.out; omega) 22
            rw [World.size_setCell] at hr6
            have HJ6 := Lib.hid hj6
            clear hj6
            simp only at y0 y1 y2 y3 y4 y5 hr6
            go_wp2_with (at_builtin; refine wpList_run_ok (.tmp 106) (.tmp 108) _ rfl rfl rfl rfl hr6 ?_)
            go_roundw
            case rel => exact ⟨_, ⟨t + 1, false⟩, HJ6, HRN6, Lib.hid (by rw [List.length_append]; simp only [List.length_cons, List.length_nil]; have := HLT.out; have := HTS.out; omega)⟩
            case measure => rw [HJ6.out.jq.leftW, HJ.out.jq.leftW]; simp only; have := HTS.out; have := HTL.out; omega
          | false =>
            have HRN6 := Lib.hid (HRX.out true rfl)
            clear HRX
            have HB2 := Lib.hid (HF4.out.setb true)
            obtain ⟨y0, y1, y2, y3, y4, y5, yf⟩ := HB2.out.cells
            obtain ⟨v6, w6, hr6, hj6⟩ := HB2.out.app (by have := HLT.out; have := HN.out; have := HTL.out; omega) 22
            rw [World.size_setCell] at hr6
            have HJ6 := Lib.hid hj6
            clear hj6
            simp only at y0 y1 y2 y3 y4 y5 hr6
            go_wp2_with (at_builtin; refine wpList_run_ok (.tmp 106) (.tmp 108) _ rfl rfl rfl rfl hr6 ?_)
            go_roundw
            case rel => exact ⟨_, ⟨t + 1, true⟩, HJ6, HRN6, Lib.hid (by rw [List.length_append]; simp only [List.length_cons, List.length_nil]; have := HLT.out; have := HTS.out; omega)⟩
            case measure => rw [HJ6.out.jq.leftW, HJ.out.jq.leftW]; simp only; have := HTS.out; have := HTL.out; omega
#print axioms jread_any
end Go.Proofs.YtgcgmgcgbnepeaaDoor
