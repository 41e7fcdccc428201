/- Write: its closure, the bytes of the versions. -/
import Derived.Test.YtmglhlfjddgllaaDoorPRight
import Derived.Test.YtmglhlfjddgllaaDoorGive
import Derived.Test.YtmglhlfjddgllaaDoorByt
import Derived.Test.YtmglhlfjddgllaaDoorHv
namespace Go.Proofs.YtmglhlfjddgllaaDoor
open Go Go.RowKit

/-- Nothing but the block B has changed of what was there. -/
structure Bup (B : Nat) (w w' : World) : Prop where
  os : w'.os = w.os
  tape : w'.tape = w.tape
  output : w'.output = w.output
  size : w.heap.size ≤ w'.heap.size
  block : ∀ k, k < w.heap.size → k ≠ B → w'.heap[k]? = w.heap[k]?
theorem Bup.refl (B : Nat) (w : World) : Bup B w w := ⟨rfl, rfl, rfl, Nat.le_refl _, fun _ _ _ => rfl⟩
theorem Bup.trans {B : Nat} {a b c : World} (h : Bup B a b) (k : Bup B b c) : Bup B a c :=
  ⟨k.os.trans h.os, k.tape.trans h.tape, k.output.trans h.output, Nat.le_trans h.size k.size, fun i hi hn => (k.block i (Nat.lt_of_lt_of_le hi h.size) hn).trans (h.block i hi hn)⟩
theorem Bup.of_below {B : Nat} {w w' : World} (h : Below w.heap.size w w') : Bup B w w' := ⟨h.os, h.tape, h.output, h.size, fun k hk _ => h.block k hk⟩
theorem Bup.below {B base : Nat} {w0 w w' : World} (h : Bup B w w') (hb : Below base w0 w) (hB : base ≤ B) (hs : base ≤ w.heap.size) : Below base w0 w' :=
  ⟨h.os.trans hb.os, h.tape.trans hb.tape, h.output.trans hb.output, Nat.le_trans hb.size h.size, fun k hk => (h.block k (Nat.lt_of_lt_of_le hk hs) (by omega)).trans (hb.block k hk)⟩
theorem Bup.set (w : World) (B i : Nat) (v : Value) : Bup B w (w.setCell ⟨B, i, none⟩ v) :=
  ⟨rfl, rfl, rfl, by simp [World.setCell], fun k _ hn => Below.heap_setCell _ _ _ _ hn⟩
theorem Bup.tab {B : Nat} {w w' : World} (h : Bup B w w') (ht : Tab w) (hB : 1 < B) : Tab w' := by
  obtain ⟨h0, h1, h2, h3⟩ := ht
  have hlt : 1 < w.heap.size := cell_lt h0
  have key : ∀ j x, w.cell? ⟨1, j, none⟩ = some x → w'.cell? ⟨1, j, none⟩ = some x := fun j x hx => by
    unfold World.cell? at hx ⊢
    rw [h.block 1 hlt (by omega)]; exact hx
  exact ⟨key _ _ h0, key _ _ h1, key _ _ h2, key _ _ h3⟩
theorem own_set {w : World} {B base : Nat} {e : TypeId} {size : Nat} {v : Value} {n : Nat} {xs : List Value} (h : w.ownsRow base e size v n xs) (hB : B < base) (i : Nat) (u : Value) : (w.setCell ⟨B, i, none⟩ u).ownsRow base e size v n xs := by
  obtain ⟨h1, h2⟩ := h
  refine ⟨h1, ?_⟩
  rcases h2 with h2 | ⟨g, cap, cur, rfl, hg, hh, r⟩
  · exact .inl h2
  · exact .inr ⟨g, cap, cur, rfl, hg, by rw [Below.heap_setCell _ ⟨B, i, none⟩ _ _ (show g ≠ B by omega)]; exact hh, r⟩
theorem own_shape {w : World} {base : Nat} {e : TypeId} {size : Nat} {v : Value} {n : Nat} {xs : List Value} (h : w.ownsRow base e size v n xs) : ∃ ao cap, v = .slice ao n cap := by
  rcases h.2 with ⟨rfl, h0⟩ | ⟨g, cap, cur, rfl, _⟩
  · subst h0; exact ⟨none, 0, rfl⟩
  · exact ⟨_, _, rfl⟩
/-- One field's bytes. -/
def fieldB (n : Int) (b : List Int) : List Int := enc n ++ enc b.length ++ b
theorem field_byt {n : Int} {b : List Int} (h : Byt b) : Byt (fieldB n b) := ((enc_byt n).app (enc_byt _)).app h
theorem field_len (n : Int) (b : List Int) : (fieldB n b).length ≤ 16 + b.length := by
  have := enc_len n
  have := enc_len b.length
  unfold fieldB; simp; omega
/-- The closure's box: what is written so far, in memory of its own. -/
structure Gv (w : World) (B : Nat) (zb : List Int) : Prop where
  tab : Tab w
  lo : 1 < B
  byt : Byt zb
  box : ∃ v, w.heap[B]? = some (.cells #[v] 22 (0, 0)) ∧ w.ownsRow (B + 1) 5 1 v zb.length (by8 zb)
theorem Gv.lt {w : World} {B : Nat} {zb : List Int} (h : Gv w B zb) : B < w.heap.size := by
  obtain ⟨v, h1, _⟩ := h.box
  exact (Array.getElem?_eq_some_iff.1 h1).1
theorem Gv.below {w w' : World} {B : Nat} {zb : List Int} (h : Gv w B zb) (hb : Below w.heap.size w w') : Gv w' B zb := by
  obtain ⟨v, h1, h2⟩ := h.box
  exact ⟨h.tab.below hb, h.lo, h.byt, v, by rw [hb.block _ h.lt]; exact h1, own_below h2 hb⟩
set_option maxHeartbeats 1000000 in
theorem gv_any {w : World} {B : Nat} {zb zp : List Int} {vp : Value} (h : Gv w B zb) (hp : Rd w vp zp) (h1 : zb.length ≤ 500) (h2 : zp.length ≤ 500) (n : Int) :
    Calls Tryd.prog 20 #[.int .i64 n, vp, .pointer (some ⟨B, 0, none⟩)] w fun e w' => e = .returned (.tuple #[]) ∧ Gv w' B (zb ++ fieldB n zp) ∧ Bup B w w' := by
  obtain ⟨v, hbx, hw⟩ := h.box
  have hr := (Rd.of_own hw h.byt).1
  have hlt := h.lt
  have c0 : w.cell? ⟨B, 0, none⟩ = some v := (cell_of_row _ B 0 _ _ (0, 0) hbx).trans rfl
  have f0 : w.frozen? ⟨B, 0, none⟩ = false := by simp [World.frozen?, hbx]
  have ha := append_any hr (by omega) n h.tab (by have := h.lo; omega)
  have HG := Lib.hid h
  have HX := Lib.hid hbx
  have HR := Lib.hid hr
  have HP := Lib.hid hp
  have hln := enc_len n
  have hll := enc_len zp.length
  obtain ⟨av, kv, rfl⟩ := hr.shape
  obtain ⟨ap, kp, rfl⟩ := hp.shape
  clear h hbx hr hp hw
  go_enter Tryd.func20, Tryd.ntmps20
  go_wp2_with (go_at_call 22; refine ha.mono ?_; rintro e w1 ⟨v1, rfl, ho1, hb1⟩)
  have r1 := (Rd.of_own ho1 (HR.out.byt.app (enc_byt n))).1
  have hgv := give_any r1 (HP.out.below hb1) (by simp; omega) (by omega) (HG.out.tab.below hb1) (by have := hb1.size; have := HG.out.lo; omega)
  obtain ⟨a1, k1, rfl⟩ := own_shape ho1
  refine hgv.mono ?_
  rintro e w2 ⟨v2, rfl, ho2, hb2⟩
  have e2 : (zb ++ enc n).length + (enc zp.length).length + zp.length = (zb ++ fieldB n zp).length := by unfold fieldB; simp; omega
  have e3 : zb ++ enc n ++ enc zp.length ++ zp = zb ++ fieldB n zp := by unfold fieldB; simp
  rw [e2, e3] at ho2
  obtain ⟨a2, k2, rfl⟩ := own_shape ho2
  have hb12 := hb1.trans (hb2.mono hb1.size)
  have c2 : w2.cell? ⟨B, 0, none⟩ = some (.slice av zb.length kv) := by rw [hb12.cell (p := ⟨B, 0, none⟩) hlt]; exact c0
  have f2 : w2.frozen? ⟨B, 0, none⟩ = false := by rw [hb12.frozen (p := ⟨B, 0, none⟩) hlt]; exact f0
  clear e2 e3
  generalize hZ : zb ++ fieldB n zp = Z at *
  have HZ := Lib.hid hZ
  clear hZ
  go_wp2_with fail
  go_end0
  have hB1 : B < w1.heap.size := by have := hb1.size; omega
  refine ⟨rfl, ⟨?_, HG.out.lo, ?_, .slice a2 Z.length k2, ?_, ?_⟩, (Bup.of_below hb12).trans (Bup.set _ _ _ _)⟩
  · exact (Bup.set w2 B 0 _).tab (HG.out.tab.below hb12) HG.out.lo
  · exact HG.out.byt.app (field_byt HP.out.byt)
  · have hbx2 : w2.heap[B]? = some (.cells #[.slice av zb.length kv] 22 (0, 0)) := by rw [hb12.block _ hlt]; exact HX.out
    have := heap_setCell_same w2 B 0 _ 22 (.slice a2 Z.length k2) hbx2
    simpa using this
  · rw [HZ.out]; exact own_mono (own_set ho2 hB1 0 _) hB1
/-- The bytes of the chosen version and the list. -/
def versP (c : Int) (l : List Int) : List Int := big c 4 ++ l.flatMap (fun v => big v 4)
theorem vers_len (c : Int) (l : List Int) : (versP c l).length = 4 + 4 * l.length := by
  unfold versP
  induction l with
  | nil => simp [big_len]
  | cons v r ih => simp [big_len] at ih ⊢; omega
theorem vers_take {c : Int} {l : List Int} {k : Nat} (h : k < l.length) : versP c (l.take (k + 1)) = versP c (l.take k) ++ big (l.getD k 0) 4 := by
  have e : l.getD k 0 = l[k] := by simp [h]
  unfold versP
  rw [List.take_succ_eq_append_getElem h, List.flatMap_append, e]
  simp
theorem vers_byt (c : Int) (l : List Int) : Byt (versP c l) := by
  unfold versP
  refine (big_byt c 4).app fun z hz => ?_
  obtain ⟨v, _, hv⟩ := List.mem_flatMap.1 hz
  exact big_byt v 4 z hv
theorem right_facts {p : Pv} (h : rightP p = true) : numB p.i = true ∧ numB p.d = true ∧ nameB p.hg p.g.length = true ∧ nameB p.ho p.o.length = true ∧ nameB p.hr p.r.length = true ∧ verB p.c = true ∧ versB p.l = true := by
  unfold rightP at h
  simpa [Bool.and_eq_true] using h
theorem ver_bd {n : Int} (h : verB n = true) : 0 < n ∧ n < 4294967296 := by
  unfold verB at h; simpa using h
theorem vers_facts {l : List Int} (h : versB l = true) : l.length ≤ 16 ∧ ∀ j, j < l.length → 0 < l.getD j 0 ∧ l.getD j 0 < 4294967296 := by
  unfold versB at h
  have := of_decide_eq_true h
  exact ⟨this.1, fun j hj => ver_bd (this.2.1 _ (getD_mem hj))⟩
theorem own_nil0 (w : World) (base : Nat) : w.ownsRow base 5 1 (.slice none 0 0) ([] : List Int).length (by8 []) := ⟨by simp [by8], .inl ⟨rfl, rfl⟩⟩
theorem pcells {w : World} {B : Nat} {p : Pv} {v5 v6 v7 v9 : Value} {T : TypeId} (h : w.heap[B]? = some (.cells (pCells p v5 v6 v7 v9) T (0, 0))) :
    w.cell? ⟨B, 0, none⟩ = some (.int .i64 p.i) ∧ w.cell? ⟨B, 1, none⟩ = some (.int .i64 p.d) ∧ w.cell? ⟨B, 2, none⟩ = some (.bool p.hg) ∧ w.cell? ⟨B, 3, none⟩ = some (.bool p.ho) ∧ w.cell? ⟨B, 4, none⟩ = some (.bool p.hr) ∧
    w.cell? ⟨B, 5, none⟩ = some v5 ∧ w.cell? ⟨B, 6, none⟩ = some v6 ∧ w.cell? ⟨B, 7, none⟩ = some v7 ∧ w.cell? ⟨B, 8, none⟩ = some (.int .i64 p.c) ∧ w.cell? ⟨B, 9, none⟩ = some v9 :=
  have c := fun j => cell_of_row w B j _ _ (0, 0) h
  ⟨(c 0).trans rfl, (c 1).trans rfl, (c 2).trans rfl, (c 3).trans rfl, (c 4).trans rfl, (c 5).trans rfl, (c 6).trans rfl, (c 7).trans rfl, (c 8).trans rfl, (c 9).trans rfl⟩
theorem cells_of {w : World} {B : Nat} {cs : Array Value} {T : TypeId} (h : w.heap[B]? = some (.cells cs T (0, 0))) (j : Nat) : w.cell? ⟨B, j, none⟩ = cs[j]? := cell_of_row _ B j _ _ (0, 0) h
set_option maxRecDepth 20000 in
set_option maxHeartbeats 2000000 in
theorem versions_any {w : World} {p : Pv} {v5 v6 v7 v9 : Value} (h : Pr w p v5 v6 v7 v9) (hr : rightP p = true) : Calls Tryd.prog 23 #[pAgg p v5 v6 v7 v9] w fun e w' => ∃ v', e = .returned v' ∧ w'.ownsRow w.heap.size 5 1 v' (versP p.c p.l).length (by8 (versP p.c p.l)) ∧ Below w.heap.size w w' := by
  obtain ⟨_, _, _, _, _, hc, hv⟩ := right_facts hr
  have hc' := ver_bd hc
  obtain ⟨hl, hbd⟩ := vers_facts hv
  have HBD := Lib.hid hbd
  obtain ⟨a5, k5, rfl⟩ := h.g.shape
  obtain ⟨a6, k6, rfl⟩ := h.o.shape
  obtain ⟨a7, k7, rfl⟩ := h.r.shape
  obtain ⟨a9, k9, rfl⟩ := h.l.shape
  have HL := Lib.hid h.l
  have hB0 := below_alloc w (.cells (pCells p (.slice a5 p.g.length k5) (.slice a6 p.o.length k6) (.slice a7 p.r.length k7) (.slice a9 p.l.length k9)) 27)
  have HB0 := Lib.hid hB0
  have HX := Lib.hid (heap_alloc_new w (.cells (pCells p (.slice a5 p.g.length k5) (.slice a6 p.o.length k6) (.slice a7 p.r.length k7) (.slice a9 p.l.length k9)) 27))
  have hf := fappend_any (w := w.alloc (.cells (pCells p (.slice a5 p.g.length k5) (.slice a6 p.o.length k6) (.slice a7 p.r.length k7) (.slice a9 p.l.length k9)) 27)) (own_nil0 _ (w.heap.size + 1)) (by simp) (by simp) p.c (by omega) hc'.2 4 (by decide)
  rw [show (((4 : Nat) : Int)) = 4 from rfl] at hf
  have hl' : (p.l.length : Int) ≤ 16 := by omega
  clear h hc hv hbd hB0
  go_enter Tryd.func23, Tryd.ntmps23
  go_wp2_with (go_at_call 43; refine hf.mono ?_; rintro e w1 ⟨v1, rfl, ho1, hb1⟩; have hx1 := (hb1.block w.heap.size (by omega)).trans HX.out; have hc9 := (pcells hx1).2.2.2.2.2.2.2.2.2)
  rw [show ([] : List Int).length + 4 = 4 from rfl] at ho1
  obtain ⟨a1, k1, rfl⟩ := own_shape ho1
  have hO1 : w1.ownsRow (w.heap.size + 1) 5 1 (.slice a1 4 k1) (versP p.c (p.l.take 0)).length (by8 (versP p.c (p.l.take 0))) := by
    simpa [versP, big_len] using ho1
  have HO1 := Lib.hid hO1
  have HB1 := Lib.hid hb1
  clear hf ho1 hb1 hx1 hO1 hc9
  go_loopw [3, 12] (fun u i wr => ∃ k : Nat, k ≤ p.l.length ∧ i = .int .i64 k ∧ wr.ownsRow (w.heap.size + 1) 5 1 u (versP p.c (p.l.take k)).length (by8 (versP p.c (p.l.take k))) ∧ Below (w.heap.size + 1) w1 wr) (fun _ i _ => p.l.length - (intOf i).toNat)
  case atStart => exact ⟨0, by omega, rfl, HO1.out, Below.refl _ _⟩
  case round =>
    obtain ⟨k, hk, rfl, ho, hb⟩ := hrel
    have hk' : (k : Int) ≤ (p.l.length : Int) := by omega
    obtain ⟨au, ku, hu⟩ := own_shape ho
    subst hu
    have hsz : w.heap.size + 1 ≤ w1.heap.size := by have := HB1.out.size; simp at this; omega
    have HBw := Lib.hid (HB0.out.trans ((HB1.out.mono (Nat.le_succ _)).trans (hb.mono (Nat.le_succ _))))
    by_cases hlt : k < p.l.length
    · have hlt' : (k : Int) < (p.l.length : Int) := by omega
      obtain ⟨b, off, rfl, hx⟩ := HL.out.cellAt hlt
      rw [← HBw.out.cell (p := ⟨b, off + k, none⟩) (cell_lt hx)] at hx
      have hxb := HBD.out k hlt
      have HT := Lib.hid (vers_take (c := p.c) hlt)
      generalize p.l.getD k 0 = x at hx hxb HT
      have hlen : (versP p.c (p.l.take k)).length ≤ 100 := by rw [vers_len]; simp; omega
      have hf := fappend_any ho (by have := hb.size; omega) (by omega) x (by omega) hxb.2 4 (by decide)
      rw [show (((4 : Nat) : Int)) = 4 from rfl] at hf
      have HB := Lib.hid hb
      clear ho hb
      go_wp2_with (go_at_call 43; refine hf.mono ?_; rintro e w2 ⟨v2, rfl, ho2, hb2⟩)
      go_roundw
      case rel => exact ⟨k + 1, by omega, by go_num, by rw [HT.out, List.length_append, big_len]; exact ho2, HB.out.trans hb2⟩
      case measure => simp [intOf]; omega
    · obtain rfl : k = p.l.length := by omega
      rw [List.take_length] at ho
      have HO := Lib.hid ho
      clear ho
      go_wp2_with fail
      go_ret
      exact ⟨_, rfl, own_mono (by have := HO.out; rw [List.take_length] at *; exact this) (Nat.le_succ _), HBw.out⟩
end Go.Proofs.YtmglhlfjddgllaaDoor
