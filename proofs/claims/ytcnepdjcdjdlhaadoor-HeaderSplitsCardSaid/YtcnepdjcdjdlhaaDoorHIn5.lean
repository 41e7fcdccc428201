/- The document's own reader: what it holds, and what each of its methods does. -/
import Derived.Test.YtcnepdjcdjdlhaaDoorHPure
import Derived.Test.YtcnepdjcdjdlhaaDoorRefRead
import Derived.Deep.QuietTactic
import Derived.BigQuiet
import Derived.Laws.Cover3
namespace Go.Proofs.YtcnepdjcdjdlhaaDoor
open Go Go.RowKit

/-- The document's reader in the box I. -/
structure Iq (w0 w : World) (I : Nat) (s : In) : Prop where
  bel : Below w0.heap.size w0 w
  lo : w0.heap.size ≤ I
  tl : s.t ≤ s.zs.length
  sz : s.zs.length ≤ 1000000
  box : ∃ rv, w.heap[I]? = some (.cells #[rv, .int .i64 (s.t : Int), .int .i64 s.e] 69 (0, 0)) ∧ Rd w0 rv s.zs ∧ Plain rv
theorem Iq.lt {w0 w : World} {I : Nat} {s : In} (h : Iq w0 w I s) : I < w.heap.size := by
  obtain ⟨rv, hb, _⟩ := h.box
  exact (Array.getElem?_eq_some_iff.1 hb).1
theorem Iq.cells {w0 w : World} {I : Nat} {s : In} (h : Iq w0 w I s) : ∃ ao cap, Rd w0 (.slice ao s.zs.length cap) s.zs ∧ Plain (.slice ao s.zs.length cap) ∧ s.zs.length ≤ cap ∧ cap ≤ 9223372036854775807 ∧ w.cell? ⟨I, 0, none⟩ = some (.slice ao s.zs.length cap) ∧ w.cell? ⟨I, 1, none⟩ = some (.int .i64 (s.t : Int)) ∧ w.cell? ⟨I, 2, none⟩ = some (.int .i64 s.e) ∧ ∀ j, w.frozen? ⟨I, j, none⟩ = false := by
  obtain ⟨rv, hb, hr, hp⟩ := h.box
  have hr' := hr
  obtain ⟨ao, cap, rfl, h1, h2, _⟩ := hr'
  unfold maxLen at h2
  exact ⟨ao, cap, hr, hp, h1, by omega, (cell_of_row _ I 0 _ _ (0, 0) hb).trans rfl, (cell_of_row _ I 1 _ _ (0, 0) hb).trans rfl, (cell_of_row _ I 2 _ _ (0, 0) hb).trans rfl, fun j => by simp [World.frozen?, hb]⟩
theorem Iq.drewN {w0 w : World} {I : Nat} {s : In} (h : Iq w0 w I s) (n : Nat) : Iq w0 (w.drewN n) I s := by
  have hb : Below w0.heap.size w0 (w.drewN n) := ⟨h.bel.os, h.bel.tape, h.bel.output, h.bel.size, h.bel.block⟩
  exact ⟨hb, h.lo, h.tl, h.sz, h.box⟩
theorem Iq.sete {w0 w : World} {I : Nat} {s : In} (h : Iq w0 w I s) (x : Int) : Iq w0 (w.setCell ⟨I, 2, none⟩ (.int .i64 x)) I { s with e := x } := by
  obtain ⟨rv, hb, hr⟩ := h.box
  have e0 := heap_setCell_same _ _ 2 _ _ (.int .i64 x) hb
  simp only [List.setIfInBounds_toArray, List.set_cons_zero, List.set_cons_succ] at e0
  exact ⟨h.bel.setCell (p := ⟨I, 2, none⟩) h.lo _, h.lo, h.tl, h.sz, rv, e0, hr⟩
theorem Iq.sett {w0 w : World} {I : Nat} {s : In} (h : Iq w0 w I s) (x : Nat) (hx : x ≤ s.zs.length) : Iq w0 (w.setCell ⟨I, 1, none⟩ (.int .i64 (x : Int))) I { s with t := x } := by
  obtain ⟨rv, hb, hr⟩ := h.box
  have e0 := heap_setCell_same _ _ 1 _ _ (.int .i64 (x : Int)) hb
  simp only [List.setIfInBounds_toArray, List.set_cons_zero, List.set_cons_succ] at e0
  exact ⟨h.bel.setCell (p := ⟨I, 1, none⟩) h.lo _, h.lo, hx, h.sz, rv, e0, hr⟩
theorem But.drewNs {B : Nat} {w w' : World} (h : But B w w') (n : Nat) : But B w (w'.drewN n) := ⟨h.os, h.tape, h.output, h.size, h.block⟩
theorem But.drewN2 {B : Nat} {w w' : World} {n : Nat} (h : But B (w.drewN n) w') : But B w w' := ⟨h.os, h.tape, h.output, h.size, h.block⟩

set_option maxRecDepth 20000 in
set_option maxHeartbeats 2000000 in
theorem need_q {w0 w : World} {I : Nat} {s : In} (h : Iq w0 w I s) (b : Bool) (k : Int) :
    Calls Tryd.prog 36 #[.pointer (some ⟨I, 0, none⟩), .bool b, .int .i64 k] w fun e w' => e = .returned (.tuple #[]) ∧ Iq w0 w' I (inNeed b k s) ∧ But I w w' := by
  obtain ⟨ao, cap, _, _, _, _, _, _, c2, cf⟩ := h.cells
  unfold inNeed
  by_cases he : s.e = 0
  · cases b with
    | true =>
      rw [if_neg (by simp)]
      have H := Lib.hid h
      have e1 : (s.e == 0) = true := by simp [he]
      clear he h
      go_enter Tryd.func36, Tryd.ntmps36
      go_wp2_with fail
      go_end0
      exact ⟨rfl, H.out, But.refl _ _⟩
    | false =>
      rw [if_pos ⟨he, rfl⟩]
      have HS := Lib.hid (h.sete k)
      have e1 : (s.e == 0) = true := by simp [he]
      clear he h
      go_enter Tryd.func36, Tryd.ntmps36
      go_wp2_with fail
      go_end0
      exact ⟨rfl, HS.out, But.set _ _ _ _⟩
  · rw [if_neg (by simp [he])]
    have H := Lib.hid h
    have e1 : (s.e == 0) = false := by simp [he]
    clear he h
    go_enter Tryd.func36, Tryd.ntmps36
    go_wp2_with fail
    go_end0
    exact ⟨rfl, H.out, But.refl _ _⟩

set_option maxRecDepth 20000 in
set_option maxHeartbeats 2000000 in
theorem ibytes_err {w0 w : World} {I : Nat} {s : In} (h : Iq w0 w I s) (n : Int) (he : s.e ≠ 0) :
    Calls Tryd.prog 37 #[.pointer (some ⟨I, 0, none⟩), .int .i64 n] w fun e w' => e = .returned (.slice none 0 0) ∧ Iq w0 w' I s ∧ But I w w' := by
  obtain ⟨ao, cap, _, _, _, _, c0, c1, c2, cf⟩ := h.cells
  have H := Lib.hid h
  have e1 : (s.e == 0) = false := by simp [he]
  have e2 : (s.e != 0) = true := by simp [he]
  clear he h
  go_enter Tryd.func37, Tryd.ntmps37
  go_wp2_with fail
  go_quiet (fail)
  go_wp2_with fail
  go_ret
  exact ⟨rfl, H.out.drewN _, (But.refl _ _).drewNs _⟩
set_option maxRecDepth 20000 in
set_option maxHeartbeats 2000000 in
theorem ibytes_no {w0 w : World} {I : Nat} {zs : List Int} {t : Nat} (h : Iq w0 w I ⟨zs, t, 0⟩) (n : Int) (hn : (zs.length : Int) - t < n) :
    Calls Tryd.prog 37 #[.pointer (some ⟨I, 0, none⟩), .int .i64 n] w fun e w' => e = .returned (.slice none 0 0) ∧ Iq w0 w' I ⟨zs, t, 2⟩ ∧ But I w w' := by
  obtain ⟨ao, cap, _, _, _, _, c0, c1, c2, cf⟩ := h.cells
  have H := Lib.hid h
  have ht : t ≤ zs.length := h.tl
  have hz : zs.length ≤ 1000000 := h.sz
  simp only at c0 c1 c2
  have hw : IntKind.i64.wrap ((zs.length : Int) - (t : Int)) = (zs.length : Int) - (t : Int) := IntWalk.i64_in _ ⟨by omega, by omega⟩
  have hd : decide ((zs.length : Int) - (t : Int) < n) = true := decide_eq_true hn
  clear h hn
  go_enter Tryd.func37, Tryd.ntmps37
  go_wp2_with fail
  go_quiet (fail)
  have H1 := H.out.drewN nq
  obtain ⟨ao1, cap1, _, _, _, _, d0, d1, d2, df⟩ := H1.cells
  have H2 := H1.sete 2
  obtain ⟨ao2, cap2, _, _, _, _, g0, g1, g2, gf⟩ := H2.cells
  have HH2 := Lib.hid H2
  clear H1 H2
  go_wp2_with fail
  go_ret
  exact ⟨rfl, HH2.out, (But.set _ _ _ _).drewN2⟩
theorem rd_part {w : World} {ao : Option Addr} {cap : Nat} {zs : List Int} (h : Rd w (.slice ao zs.length cap) zs) (hp : Plain (.slice ao zs.length cap)) (t k : Nat) (ht : t + k ≤ zs.length) :
    Rd w (.slice (Option.map (fun x => x.add t) ao) k (cap - t)) ((zs.drop t).take k) ∧ Plain (.slice (Option.map (fun x => x.add t) ao) k (cap - t)) := by
  obtain ⟨ao', cap', e, h1, h2, h3, h4, h5⟩ := h
  simp only [Value.slice.injEq] at e
  obtain ⟨rfl, _, rfl⟩ := e
  have hl : ((zs.drop t).take k).length = k := by simp; omega
  rcases hp with hp | ⟨b, off, n', c', hp⟩
  · simp only [Value.slice.injEq] at hp
    obtain ⟨rfl, hz, rfl⟩ := hp
    have hk : k = 0 := by omega
    subst hk
    have ht0 : t = 0 := by omega
    subst ht0
    exact ⟨by simpa using Rd.nil w, .inl (by simp)⟩
  · simp only [Value.slice.injEq] at hp
    obtain ⟨rfl, _, _⟩ := hp
    have e : (⟨b, off, none⟩ : Addr).add t = ⟨b, off + t, none⟩ := Addr.add_lit _ _ _
    simp only [Option.map_some, e]
    refine ⟨⟨_, cap - t, by rw [hl], by omega, by omega, (fun h => by cases h), (h4.drop t).take k, fun a ha j hj => ?_⟩, .inr ⟨_, _, _, _, rfl⟩⟩
    cases ha
    rw [hl] at hj
    have := h5 _ rfl (t + j) (by omega)
    rw [Addr.add_lit] at this ⊢
    rw [show off + t + j = off + (t + j) from by omega, this]
    simp [List.getD, hj]
theorem rd_part0 {w : World} {ao : Option Addr} {cap : Nat} {zs : List Int} (h : Rd w (.slice ao zs.length cap) zs) (hp : Plain (.slice ao zs.length cap)) (t k : Nat) (ht : t + k ≤ zs.length) (hc : cap = t) :
    Rd w (.slice ao k 0) ((zs.drop t).take k) ∧ Plain (.slice ao k 0) := by
  obtain ⟨ao', cap', e, h1, h2, h3, h4, h5⟩ := h
  simp only [Value.slice.injEq] at e
  obtain ⟨rfl, _, rfl⟩ := e
  have hk : k = 0 := by omega
  subst hk
  rw [List.take_zero]
  refine ⟨⟨ao, 0, rfl, Nat.le_refl _, by omega, fun _ => rfl, Byt.nil, fun a _ j hj => by simp at hj⟩, ?_⟩
  rcases hp with hp | ⟨b, off, n', c', hp⟩
  · simp only [Value.slice.injEq] at hp
    obtain ⟨rfl, _⟩ := hp
    exact .inl rfl
  · simp only [Value.slice.injEq] at hp
    obtain ⟨rfl, _⟩ := hp
    exact .inr ⟨_, _, _, _, rfl⟩
set_option maxRecDepth 20000 in
set_option maxHeartbeats 2000000 in
theorem ibytes_ok {w0 w : World} {I : Nat} {zs : List Int} {t : Nat} (h : Iq w0 w I ⟨zs, t, 0⟩) (k : Nat) (hk : t + k ≤ zs.length) :
    Calls Tryd.prog 37 #[.pointer (some ⟨I, 0, none⟩), .int .i64 (k : Int)] w fun e w' => ∃ v, e = .returned v ∧ (Rd w0 v ((zs.drop t).take k) ∧ Plain v) ∧ Iq w0 w' I ⟨zs, t + k, 0⟩ ∧ But I w w' := by
  obtain ⟨ao, cap, _, _, _, _, c0, c1, c2, cf⟩ := h.cells
  simp only at c0 c1 c2
  have H := Lib.hid h
  have ht : t ≤ zs.length := h.tl
  have hz : zs.length ≤ 1000000 := h.sz
  have hw : IntKind.i64.wrap ((zs.length : Int) - (t : Int)) = (zs.length : Int) - (t : Int) := IntWalk.i64_in _ ⟨by omega, by omega⟩
  have hd : decide ((zs.length : Int) - (t : Int) < (k : Int)) = false := decide_eq_false (by omega)
  have hw2 : IntKind.i64.wrap ((t : Int) + (k : Int) - (k : Int)) = (t : Int) := (IntWalk.i64_in _ ⟨by omega, by omega⟩).trans (by omega)
  clear h
  go_enter Tryd.func37, Tryd.ntmps37
  go_wp2_with fail
  go_quiet (fail)
  have H2 := (H.out.drewN nq).sett (t + k) hk
  rw [Int.natCast_add] at H2
  obtain ⟨ao2, cap2, hr2, hp2, hl2, hc2, g0, g1, g2, gf⟩ := H2.cells
  have HH2 := Lib.hid H2
  have HRP := Lib.hid (And.intro hr2 hp2)
  simp only at hl2
  obtain ⟨_, _, _, _, _, _, d0, d1, d2, df⟩ := (H.out.drewN nq).cells
  clear H2 hr2 hp2
  go_wp2_with fail
  go_quiet (fail)
  go_wp2_with fail
  all_goals go_ret
  all_goals
    refine ⟨_, rfl, ?_, HH2.out.drewN _, ((But.set _ _ _ _).drewN2).drewNs _⟩
    first
      | exact rd_part HRP.out.1 HRP.out.2 t k hk
      | exact rd_part0 HRP.out.1 HRP.out.2 t k hk (by omega)
/-- Bytes, whatever it holds. -/
theorem ibytes_q {w0 w : World} {I : Nat} {s : In} (h : Iq w0 w I s) (n : Int) (hn : 0 ≤ n) :
    Calls Tryd.prog 37 #[.pointer (some ⟨I, 0, none⟩), .int .i64 n] w fun e w' => ∃ v, e = .returned v ∧ (Rd w0 v (inBytes n.toNat s).1 ∧ Plain v) ∧ Iq w0 w' I (inBytes n.toNat s).2 ∧ But I w w' := by
  by_cases he : s.e = 0
  · obtain ⟨zs, t, e⟩ := s
    simp only at he
    subst he
    by_cases hl : (zs.drop t).length < n.toNat
    · rw [inBytes_no hl]
      simp only [List.length_drop] at hl
      refine (ibytes_no h n (by have : t ≤ zs.length := h.tl; omega)).mono ?_
      rintro e w' ⟨rfl, h1, h2⟩
      exact ⟨_, rfl, ⟨Rd.nil w0, .inl rfl⟩, h1, h2⟩
    · rw [inBytes_yes hl]
      simp only [List.length_drop] at hl
      have := ibytes_ok h n.toNat (by have : t ≤ zs.length := h.tl; omega)
      rw [Int.toNat_of_nonneg hn] at this
      exact this
  · rw [inBytes_err he]
    refine (ibytes_err h n he).mono ?_
    rintro e w' ⟨rfl, h1, h2⟩
    exact ⟨_, rfl, ⟨Rd.nil w0, .inl rfl⟩, h1, h2⟩
theorem inBytes_len (n : Nat) (s : In) : (inBytes n s).1.length ≤ n := by
  unfold inBytes
  split
  · split
    · simp
    · simp; omega
  · simp
set_option maxRecDepth 20000 in
set_option maxHeartbeats 2000000 in
theorem inumber_q {w0 w : World} {I : Nat} {s : In} (h : Iq w0 w I s) (k : Nat) (hk : k ≤ 7) :
    Calls Tryd.prog 35 #[.pointer (some ⟨I, 0, none⟩), .int .i64 (k : Int)] w fun e w' => e = .returned (.int .i64 (inNumber k s).1) ∧ Iq w0 w' I (inNumber k s).2 ∧ But I w w' := by
  have hc := ibytes_q h (k : Int) (by omega)
  rw [Int.toNat_natCast] at hc
  have hlen := inBytes_len k s
  unfold inNumber
  clear h
  go_enter Tryd.func35, Tryd.ntmps35
  go_wp2_with fail
  refine hc.mono ?_
  rintro e w1 ⟨pv, rfl, ⟨hr, _⟩, hF, hb⟩
  have hr1 := hr.below hF.bel
  generalize hL : (inBytes k s).1 = L at *
  have HLL := Lib.hid hL
  have HF := Lib.hid hF
  have HK := Lib.hid (show L.length ≤ 7 by omega)
  clear hL hc hr hF hlen
  rcases hr1.cases with ⟨rfl, ao, cap, rfl, _⟩ | ⟨b, off, cap, rfl, hpos, hlc, hcap, _, hcell⟩
  · clear hr1
    go_wp2_with fail
    refine wp_loop_rounds 1 ?_
    rw [rounds_succ]
    go_wp2_with fail
    go_ret
    exact ⟨ret_int (by rw [HLL.out]; rfl), HF.out, hb⟩
  have hbyt := hr1.byt
  have HC := Lib.hid hcell
  clear hr1 hcell
  go_wp2_with fail
  go_loop [6, 7] (fun a i => ∃ j : Nat, j ≤ L.length ∧ i = .int .i64 j ∧ a = .int .i64 (bigv (L.take j) 0)) (fun _ i => L.length - (intOf i).toNat)
  case atStart => exact ⟨0, Nat.zero_le _, rfl, rfl⟩
  case round =>
    obtain ⟨j, hj, rfl, rfl⟩ := hrel
    by_cases hlt : j < L.length
    · have hcx := HC.out j hlt
      have hx := Byt.get hbyt j
      have hbd := bigv_bd (hbyt.take j)
      have hl2 : (L.take j).length = j := by simp; omega
      rw [hl2] at hbd
      have hp := pow_le6 j (by have := HK.out; omega)
      have HS : Hid (bigv (L.take (j + 1)) 0 = 256 * bigv (L.take j) 0 + L.getD j 0) := Lib.hid (by rw [take_snoc L j hlt, bigv_snoc])
      obtain ⟨hbd0, hbd1⟩ := hbd
      have hbd2 : bigv (L.take j) 0 < 281474976710656 := by omega
      clear hbd1 hp hl2
      generalize bigv (L.take j) 0 = A at *
      generalize L.getD j 0 = X at *
      obtain ⟨hx0, hx1⟩ := hx
      go_wp2
      go_round
      case rel => exact ⟨j + 1, by omega, by go_num, by rw [HS.out]⟩
      case measure => simp [intOf]; omega
    · go_wp2
      go_ret
      have e : L.take j = L := List.take_of_length_le (by omega)
      exact ⟨ret_int (by rw [e, ← HLL.out]), HF.out, hb⟩
set_option maxRecDepth 20000 in
theorem imost_q {w0 w : World} {I : Nat} {s : In} (h : Iq w0 w I s) (n m : Int) (hn : 0 ≤ n) :
    Calls Tryd.prog 38 #[.pointer (some ⟨I, 0, none⟩), .int .i64 n, .int .i64 m] w fun e w' => ∃ v, e = .returned v ∧ (Rd w0 v (inMost n.toNat m s).1 ∧ Plain v) ∧ Iq w0 w' I (inMost n.toNat m s).2 ∧ But I w w' := by
  have hc := need_q h (decide (n ≤ m)) 4
  have hd : decide (((n.toNat : Nat) : Int) ≤ m) = decide (n ≤ m) := by rw [Int.toNat_of_nonneg hn]
  unfold inMost
  rw [hd]
  clear h hd
  go_enter Tryd.func38, Tryd.ntmps38
  go_wp2_with fail
  refine hc.mono ?_
  rintro e w1 ⟨rfl, h1, hb⟩
  have hc2 := ibytes_q h1 n hn
  clear h1 hc
  go_wp2_with fail
  refine hc2.mono ?_
  rintro e w2 ⟨v, rfl, hv, h2, hb2⟩
  go_wp2_with fail
  go_ret
  exact ⟨_, rfl, hv, h2, hb.trans hb2⟩
/-- What is left of a slice, whichever way it is cut. -/
theorem rd_rest {w : World} {ao : Option Addr} {cap : Nat} {zs : List Int} (h : Rd w (.slice ao zs.length cap) zs) (hp : Plain (.slice ao zs.length cap)) (t : Nat) (ht : t ≤ zs.length) (o : Option Addr) (ho : o = Option.map (fun x => x.add t) ao ∨ cap = t ∧ o = ao) :
    Rd w (.slice o (zs.length - t) (cap - t)) (zs.drop t) := by
  have hl : (zs.drop t).take (zs.length - t) = zs.drop t := List.take_of_length_le (by simp)
  rcases ho with rfl | ⟨hc, rfl⟩
  · have := (rd_part h hp t (zs.length - t) (by omega)).1
    rw [hl] at this; exact this
  · have := (rd_part0 h hp t (zs.length - t) (by omega) hc).1
    rw [hl] at this
    have e : cap - t = 0 := by omega
    rw [e]; exact this
theorem Iq.to {w0 w w' : World} {I : Nat} {s s' : In} (h : Iq w0 w I s) (e : s = s') (ew : w = w') : Iq w0 w' I s' := by subst e; subst ew; exact h
set_option maxRecDepth 20000 in
set_option maxHeartbeats 2000000 in
theorem ivarint_ok {w0 w : World} {I : Nat} {zs : List Int} {t : Nat} (h : Iq w0 w I ⟨zs, t, 0⟩) (m : Nat) (hm : (rd (zs.drop t)).2.1 = (m : Int)) (hml : m ≤ (zs.drop t).length) :
    Calls Tryd.prog 39 #[.pointer (some ⟨I, 0, none⟩)] w fun e w' => e = .returned (.int .i64 (rd (zs.drop t)).1) ∧ Iq w0 w' I ⟨zs, t + m, (rd (zs.drop t)).2.2⟩ ∧ But I w w' := by
  obtain ⟨ao, cap, hr, hp, hlc, hcap, c0, c1, c2, cf⟩ := h.cells
  simp only at hr hp c0 c1 c2 hlc
  have H := Lib.hid h
  have ht : t ≤ zs.length := h.tl
  have hz : zs.length ≤ 1000000 := h.sz
  have hin : (t : Int) ≤ (cap : Int) := by omega
  have hmz : t + m ≤ zs.length := by simp only [List.length_drop] at hml; omega
  have hmi : (t : Int) + (m : Int) ≤ 1000000 := by omega
  have hm9 : (m : Int) ≤ 1000000 := by omega
  have hread : ∀ (o : Option Addr) (c : Nat), (o = Option.map (fun x => x.add t) ao ∧ c = cap - t ∨ cap = t ∧ o = ao ∧ c = 0) → ∀ n, Calls Tryd.prog 55 #[.slice o (zs.length - t) c] (w.drewN n) fun e w' => e = .returned (.tuple #[.int .i64 (rd (zs.drop t)).1, .int .i64 (m : Int), .int .i64 (rd (zs.drop t)).2.2]) ∧ w' = w.drewN n := by
    intro o c ho n
    have ho2 : (o = Option.map (fun x => x.add t) ao ∨ cap = t ∧ o = ao) ∧ c = cap - t := by
      rcases ho with ⟨h1, h2⟩ | ⟨h1, h2, h3⟩
      · exact ⟨.inl h1, h2⟩
      · exact ⟨.inr ⟨h1, h2⟩, by omega⟩
    have := refread_any ((rd_rest hr hp t ht o ho2.1).below (h.drewN n).bel)
    rw [hm, ← ho2.2] at this
    exact this.mono fun _ _ ⟨x, y⟩ => And.intro x y.symm
  have HM := Lib.hid hmz
  generalize hN : (rd (zs.drop t)).1 = N at *
  generalize hK : (rd (zs.drop t)).2.2 = K at *
  clear h hr hp hm hml hN hK
  by_cases hct : cap = t
  · have hrr := hread ao 0 (.inr ⟨hct, rfl, rfl⟩)
    have hzl : zs.length - t = 0 := by omega
    rw [hzl] at hrr
    clear hzl
    subst hct
    clear hread
    go_enter Tryd.func39, Tryd.ntmps39
    go_wp2_with fail
    go_quiet ((go_at_call 55; exact Calls.quiet_of_same (hrr _)))
    have H1 := (H.out.drewN nq).sete K
    have H2 := (H1.sett (cap + m) HM.out)
    rw [Int.natCast_add] at H2
    obtain ⟨_, _, _, _, _, _, d0, d1, d2, df⟩ := (H.out.drewN nq).cells
    obtain ⟨_, _, _, _, _, _, g0, g1, g2, gf⟩ := H1.cells
    have HH2 := Lib.hid H2
    clear H1 H2 hrr
    go_wp2_with fail
    go_ret
    exact ⟨rfl, HH2.out, (((But.set _ _ _ _).trans (But.set _ _ _ _)).drewN2)⟩
  · have hrr := hread _ _ (.inl ⟨rfl, rfl⟩)
    clear hread
    go_enter Tryd.func39, Tryd.ntmps39
    go_wp2_with fail
    go_quiet ((go_at_call 55; exact Calls.quiet_of_same (hrr _)))
    have H1 := (H.out.drewN nq).sete K
    have H2 := (H1.sett (t + m) HM.out)
    rw [Int.natCast_add] at H2
    obtain ⟨_, _, _, _, _, _, d0, d1, d2, df⟩ := (H.out.drewN nq).cells
    obtain ⟨_, _, _, _, _, _, g0, g1, g2, gf⟩ := H1.cells
    have HH2 := Lib.hid H2
    clear H1 H2 hrr
    go_wp2_with fail
    go_ret
    exact ⟨rfl, HH2.out, (((But.set _ _ _ _).trans (But.set _ _ _ _)).drewN2)⟩
set_option maxRecDepth 20000 in
theorem ivarint_q {w0 w : World} {I : Nat} {s : In} (h : Iq w0 w I s) (hb : Byt s.zs) :
    Calls Tryd.prog 39 #[.pointer (some ⟨I, 0, none⟩)] w fun e w' => e = .returned (.int .i64 (inVarint s).1) ∧ Iq w0 w' I (inVarint s).2 ∧ But I w w' := by
  by_cases he : s.e = 0
  · obtain ⟨zs, t, e⟩ := s
    simp only at he hb
    subst he
    have e1 : inVarint ⟨zs, t, 0⟩ = ((rd (zs.drop t)).1, ⟨zs, t + (rd (zs.drop t)).2.1.toNat, (rd (zs.drop t)).2.2⟩) := by simp [inVarint]
    rw [e1]
    rcases rd_size (hb.drop t) with ⟨_, _, m, hm, _, _, hml⟩ | ⟨_, h2, _⟩
    · have := ivarint_ok h m hm hml
      rw [hm]; exact this
    · have := ivarint_ok h 0 (by rw [h2]; rfl) (Nat.zero_le _)
      rw [h2]; exact this
  · rw [inVarint_err he]
    have H := Lib.hid h
    obtain ⟨_, _, _, _, _, _, _, _, c2, _⟩ := h.cells
    have e1 : (s.e != 0) = true := by simp [he]
    have e2 : (s.e == 0) = false := by simp [he]
    clear h he hb
    go_enter Tryd.func39, Tryd.ntmps39
    go_wp2_with fail
    go_ret
    exact ⟨rfl, H.out, But.refl _ _⟩
#print axioms need_q
#print axioms ibytes_q
#print axioms inumber_q
#print axioms imost_q
#print axioms ivarint_q
end Go.Proofs.YtcnepdjcdjdlhaaDoor
