/- Plain facts on frames: what bytes are as frames, one by one; what is written is read as it was, what is read was written so, frames of two rows together are those of both. -/
import Derived.Test.YtefcjggmlhoebaaDoorHv
import Derived.Test.YtefcjggmlhoebaaDoorInv
import Derived.Laws.Cover3
namespace Go.Proofs.YtefcjggmlhoebaaDoor
open Go Go.RowKit

/-- Nothing but the block B has changed of what was there. -/
structure But (B : Nat) (w w' : World) : Prop where
  os : w'.os = w.os
  tape : w'.tape = w.tape
  output : w'.output = w.output
  size : w.heap.size ≤ w'.heap.size
  block : ∀ k, k < w.heap.size → k ≠ B → w'.heap[k]? = w.heap[k]?
theorem But.refl (B : Nat) (w : World) : But B w w := ⟨rfl, rfl, rfl, Nat.le_refl _, fun _ _ _ => rfl⟩
theorem But.trans {B : Nat} {a b c : World} (h : But B a b) (k : But B b c) : But B a c :=
  ⟨k.os.trans h.os, k.tape.trans h.tape, k.output.trans h.output, Nat.le_trans h.size k.size, fun i hi hn => (k.block i (Nat.lt_of_lt_of_le hi h.size) hn).trans (h.block i hi hn)⟩
theorem But.of_below {B : Nat} {w w' : World} (h : Below w.heap.size w w') : But B w w' := ⟨h.os, h.tape, h.output, h.size, fun k hk _ => h.block k hk⟩
theorem But.below {B : Nat} {w0 w w' : World} (h : But B w w') (hb : Below w0.heap.size w0 w) (hB : w0.heap.size ≤ B) : Below w0.heap.size w0 w' :=
  ⟨h.os.trans hb.os, h.tape.trans hb.tape, h.output.trans hb.output, Nat.le_trans hb.size h.size, fun k hk => (h.block k (Nat.lt_of_lt_of_le hk hb.size) (by omega)).trans (hb.block k hk)⟩
theorem But.set (w : World) (B i : Nat) (v : Value) : But B w (w.setCell ⟨B, i, none⟩ v) :=
  ⟨rfl, rfl, rfl, by simp [World.setCell], fun k _ hn => Below.heap_setCell _ _ _ _ hn⟩
theorem But.drew {B : Nat} {w w' : World} (h : But B w w') : But B w w'.drew := ⟨h.os, h.tape, h.output, h.size, h.block⟩
theorem But.drewN {B : Nat} {w : World} : ∀ n, But B w (w.drewN n)
  | 0 => But.refl _ _
  | n + 1 => (But.drewN n).drew
theorem Ra.but {lo B : Nat} {w w' : World} {v : Value} {zs : List Int} (h : Ra lo w v zs) (hb : But B w w') (hB : B < lo) : Ra lo w' v zs := by
  refine ⟨?_, h.far⟩
  obtain ⟨ao, cap, hv, h1, h2, h3, h4, hc⟩ := h.rd
  refine ⟨ao, cap, hv, h1, h2, h3, h4, fun a ha j hj => ?_⟩
  have hz : zs ≠ [] := fun e => by rw [e] at hj; simp at hj
  have hne := h.far a zs.length cap (by rw [hv, ha]) hz
  have hcell := hc _ ha j hj
  rw [← hcell]
  exact World.cell?_of_block (w := w) (hb.block _ (cell_lt hcell) (by have e : (a.add j).block = a.block := (by unfold Addr.add; split <;> rfl); rw [e]; omega))

/-- A slice's value that a cut can go through. -/
def Plain (v : Value) : Prop := v = .slice none 0 0 ∨ ∃ b off n cap, v = .slice (some ⟨b, off, none⟩) n cap
/-- A reader of bytes in the box B: what is left reads in the world where the bytes came in. -/
structure Fq (w0 w : World) (B : Nat) (rest : List Int) (t : Nat) (short : Int) : Prop where
  bel : Below w0.heap.size w0 w
  lo : w0.heap.size ≤ B
  sum : t + rest.length ≤ 1000000
  box : ∃ rv, w.heap[B]? = some (.cells #[rv, .int .i64 (t : Int), .int .i64 short] 87 (0, 0)) ∧ Rd w0 rv rest ∧ Plain rv
theorem Fq.lt {w0 w : World} {B : Nat} {rest : List Int} {t : Nat} {short : Int} (h : Fq w0 w B rest t short) : B < w.heap.size := by
  obtain ⟨rv, hb, _⟩ := h.box
  exact (Array.getElem?_eq_some_iff.1 hb).1
theorem Fq.keep {w0 w w' : World} {B : Nat} {rest : List Int} {t : Nat} {short : Int} (h : Fq w0 w B rest t short) (hb : Below w.heap.size w w') : Fq w0 w' B rest t short := by
  obtain ⟨rv, h1, h2⟩ := h.box
  exact ⟨h.bel.trans (hb.mono h.bel.size), h.lo, h.sum, rv, by rw [hb.block B h.lt]; exact h1, h2⟩
theorem Fq.but {w0 w w' : World} {B R : Nat} {rest : List Int} {t : Nat} {short : Int} (h : Fq w0 w B rest t short) (hb : But R w w') (hR : w0.heap.size ≤ R) (hne : B ≠ R) : Fq w0 w' B rest t short := by
  obtain ⟨rv, h1, h2⟩ := h.box
  exact ⟨hb.below h.bel hR, h.lo, h.sum, rv, by rw [hb.block B h.lt hne]; exact h1, h2⟩
theorem wrap_in {a : Int} (h : 0 ≤ a) (h2 : a ≤ 1000000) : wrap64 a = a := IntWalk.wrap64_in _ ⟨by omega, by omega⟩

/-- cut, where there are enough bytes. -/
theorem cut_q {w0 w : World} {B : Nat} {rest : List Int} {t : Nat} {short : Int} (h : Fq w0 w B rest t short) (k : Nat) (hk : k ≤ rest.length) :
    Calls Tryd.prog 73 #[.pointer (some ⟨B, 0, none⟩), .int .i64 (k : Int)] w fun r w' => ∃ pv, r = .returned pv ∧ (Rd w0 pv (rest.take k) ∧ Plain pv) ∧ Fq w0 w' B (rest.drop k) (t + k) short ∧ But B w w' := by
  obtain ⟨rv, hbox, hrd, hp⟩ := h.box
  have hw : wrap64 ((t : Int) + (k : Int)) = ((t + k : Nat) : Int) := by rw [wrap_in (by omega) (by have := h.sum; omega)]; omega
  have hlen : (rest.drop k).length = rest.length - k := by simp
  have hbut : ∀ (x y : Value), But B w ((w.setCell ⟨B, 0, none⟩ x).setCell ⟨B, 1, none⟩ y).drew := fun x y => ((But.set w B 0 x).trans (But.set _ B 1 y)).drew
  have hheap : ∀ (x y : Value), ((w.setCell ⟨B, 0, none⟩ x).setCell ⟨B, 1, none⟩ y).drew.heap[B]? = some (.cells #[x, y, .int .i64 short] 87 (0, 0)) := by
    intro x y
    have e0 := heap_setCell_same w B 0 _ 87 x hbox
    simp only [List.setIfInBounds_toArray, List.set_cons_zero] at e0
    have e1 := heap_setCell_same _ B 1 _ 87 y e0
    simp only [List.setIfInBounds_toArray, List.set_cons_zero, List.set_cons_succ] at e1
    exact e1
  have hsum := h.sum
  rcases hp with rfl | ⟨b, off, n, cap, rfl⟩
  · have hz : rest = [] := by
      obtain ⟨_, _, e, _⟩ := hrd
      simp only [Value.slice.injEq] at e
      exact List.eq_nil_of_length_eq_zero e.2.1.symm
    subst hz
    obtain rfl : k = 0 := by simpa using hk
    refine (cut_null (taken := t) (short := short) ⟨hbox, Rd.nil w⟩).mono ?_
    rintro r w' ⟨rfl, rfl⟩
    have hw0 : wrap64 (t : Int) = ((t + 0 : Nat) : Int) := by simpa using hw
    rw [hw0]
    exact ⟨_, rfl, ⟨Rd.nil w0, .inl rfl⟩, ⟨(hbut _ _).below h.bel h.lo, h.lo, by simpa using hsum, _, hheap _ _, Rd.nil w0, .inl rfl⟩, hbut _ _⟩
  · obtain ⟨ao, cap', e, h1, h2, h3, h4, h5⟩ := hrd
    simp only [Value.slice.injEq] at e
    obtain ⟨rfl, rfl, rfl⟩ := e
    have hrd' : Rd w0 (.slice (some ⟨b, off, none⟩) rest.length cap) rest := ⟨_, cap, rfl, h1, h2, h3, h4, h5⟩
    have hrw : Rd w (.slice (some ⟨b, off, none⟩) rest.length cap) rest := hrd'.below h.bel
    refine (cut_some (taken := t) (short := short) ⟨hbox, hrw⟩ k hk h1).mono ?_
    rintro r w' ⟨rfl, o, ho, rfl⟩
    rw [hw]
    refine ⟨_, rfl, ⟨?_, .inr ⟨_, _, _, _, rfl⟩⟩, ⟨(hbut _ _).below h.bel h.lo, h.lo, by rw [hlen]; omega, _, hheap _ _, ?_, .inr ⟨_, _, _, _, rfl⟩⟩, hbut _ _⟩
    · have := hrd'.take k hk
      simpa [Nat.min_eq_left hk] using this
    · refine ⟨_, cap - k, by rw [hlen], by omega, by omega, (fun h => by cases h), h4.drop k, fun a ha j hj => ?_⟩
      cases ha
      rw [hlen] at hj
      rcases ho with rfl | rfl
      · have := h5 _ rfl (k + j) (by omega)
        rw [Addr.add_lit] at this ⊢
        rw [show off + k + j = off + (k + j) from by omega, this]
        simp [List.getD]
      · omega

/-- cut, where there are too few. -/
theorem cut_e {w0 w : World} {B : Nat} {rest : List Int} {t : Nat} {short : Int} (h : Fq w0 w B rest t short) (n : Int) (hn : (rest.length : Int) < n) :
    Calls Tryd.prog 73 #[.pointer (some ⟨B, 0, none⟩), .int .i64 n] w fun r w' => r = errPanic short ∧ But B w w' := by
  obtain ⟨rv, hbox, hrd, hp⟩ := h.box
  obtain ⟨ao, cap, rfl, _⟩ := hrd.shape
  refine (cut_no (taken := t) (short := short) ⟨hbox, hrd.below h.bel⟩ n hn).mono ?_
  rintro r w' ⟨rfl, k, rfl⟩
  exact ⟨rfl, But.drewN k⟩
#print axioms cut_q
#print axioms cut_e
end Go.Proofs.YtefcjggmlhoebaaDoor
namespace Go.Proofs.YtefcjggmlhoebaaDoor
open Go Go.RowKit

/-- The number that bytes are, the greatest first, behind what was there. -/
def bigv : List Int → Int → Int
  | [], a => a
  | x :: r, a => bigv r (256 * a + x)
theorem bigv_snoc (l : List Int) (x a : Int) : bigv (l ++ [x]) a = 256 * bigv l a + x := by
  induction l generalizing a with
  | nil => rfl
  | cons y r ih => simp only [List.cons_append, bigv]; exact ih _
theorem bigv_bd {l : List Int} (h : Byt l) : 0 ≤ bigv l 0 ∧ bigv l 0 < 256 ^ l.length := by
  have key : ∀ (l : List Int) (a : Int), Byt l → 0 ≤ a → a * 256 ^ l.length ≤ bigv l a ∧ bigv l a < (a + 1) * 256 ^ l.length := by
    intro l
    induction l with
    | nil => intro a _ h0; simp [bigv]; omega
    | cons y r ih =>
      intro a hb h0
      have hy := hb y List.mem_cons_self
      have := ih (256 * a + y) (fun z hz => hb z (List.mem_cons_of_mem _ hz)) (by omega)
      simp only [bigv, List.length_cons, Int.pow_succ]
      generalize (256 : Int) ^ r.length = P at *
      have hP : 0 ≤ P := by
        rcases Int.lt_or_le P 0 with h | h
        · have h2 : (256 * a + y) * P < (256 * a + y + 1) * P := by omega
          have h3 : (256 * a + y + 1) * P = (256 * a + y) * P + P := by rw [Int.add_mul]; omega
          omega
        · exact h
      have e1 : a * (P * 256) = 256 * a * P := by rw [← Int.mul_assoc, Int.mul_comm (a * P) 256, Int.mul_assoc]
      have e2 : (a + 1) * (P * 256) = 256 * a * P + 256 * P := by rw [Int.add_mul, e1]; omega
      have e3 : (256 * a + y) * P = 256 * a * P + y * P := by rw [Int.add_mul]
      have e4 : (256 * a + y + 1) * P = 256 * a * P + y * P + P := by rw [Int.add_mul, e3]; omega
      have e5 : 0 ≤ y * P := Int.mul_nonneg hy.1 hP
      have e6 : y * P ≤ 255 * P := Int.mul_le_mul_of_nonneg_right hy.2 hP
      omega
  have := key l 0 h (Int.le_refl _)
  simpa using this
theorem Rd.fits {w : World} {v : Value} {zs : List Int} (h : Rd w v zs) : ∃ ao cap, v = .slice ao zs.length cap ∧ zs.length ≤ 9223372036854775807 := by
  have h2 := h.len
  obtain ⟨ao, cap, rfl⟩ := h.shape
  exact ⟨ao, cap, rfl, h2⟩

theorem ra_own {w : World} {base : Nat} {v : Value} {n : Nat} {zs : List Int} (h : w.ownsRow base 5 1 v n (by8 zs)) (hz : Byt zs) : Ra base w v zs ∧ Plain v := by
  have hr := (Rd.of_own h hz).1
  rcases h.2 with ⟨rfl, _⟩ | ⟨g, cap, cur, rfl, hg, _⟩
  · exact ⟨⟨hr, fun a n cap e => by cases e⟩, .inl rfl⟩
  · exact ⟨⟨hr, fun a n cap e _ => by cases e; exact hg⟩, .inr ⟨_, _, _, _, rfl⟩⟩
set_option maxRecDepth 20000 in
set_option maxHeartbeats 2000000 in
theorem clone_any {w : World} {v : Value} {zs : List Int} (h : Rd w v zs) (hp : Plain v) (hl : zs.length ≤ 1000000) :
    Calls Tryd.prog 48 #[v] w fun e w' => ∃ v', e = .returned v' ∧ (Ra w.heap.size w' v' zs ∧ Plain v') ∧ Below w.heap.size w w' := by
  have hnil : ∀ (a : Option Addr) (l c : Nat) (w : World), (binOp .eql 22 (.slice a l c) (.slice none 0 0)).run Tryd.prog w = .ok (.bool a.isNone) w := fun a l c w => by
    simp [binOp, run_equal_slice_nil w 22 5 a l c Tryd.underlying22]
  rcases hp with rfl | ⟨b, off, n, cap, rfl⟩
  · have hz : zs = [] := by
      obtain ⟨_, _, e, _⟩ := h
      simp only [Value.slice.injEq] at e
      exact List.eq_nil_of_length_eq_zero e.2.1.symm
    subst hz
    go_enter Tryd.func48, Tryd.ntmps48
    go_wp2_with fail
    go_ret
    exact ⟨_, rfl, ⟨⟨Rd.nil w, fun _ _ _ h => by cases h⟩, .inl rfl⟩, Below.refl _ _⟩
  · obtain ⟨ao, c, e, h1, h2, h3, h4, h5⟩ := h
    simp only [Value.slice.injEq] at e
    obtain ⟨rfl, rfl, rfl⟩ := e
    have hr : Rd w (.slice (some ⟨b, off, none⟩) zs.length cap) zs := ⟨_, cap, rfl, h1, h2, h3, h4, h5⟩
    have hO := own_fresh w 5
    have hR := hr.alloc (.cells #[] 5)
    have hl' : 0 + zs.length ≤ 140737488355328 := by omega
    have hs : w.heap.size ≤ (w.alloc (.cells #[] 5)).heap.size := by simp
    have hB := below_alloc w (.cells #[] 5)
    clear h1 h2 h3 h4 h5 hr
    go_enter Tryd.func48, Tryd.ntmps48
    go_wp2_with (at_builtin; refine wpList_append_bytes (.tmp 5) (.tmp 6) 22 rfl rfl info5 Tryd.underlying22 w.heap.size _ 0 [] rfl hO _ zs rfl hR hl' hs ?_; intro v2 w2 hown2 hb2)
    go_ret
    simp only [List.nil_append, Nat.zero_add] at hown2
    refine ⟨_, rfl, ra_own hown2 hR.byt, hB.trans hb2⟩
theorem Fq.cells {w0 w : World} {B : Nat} {rest : List Int} {t : Nat} {short : Int} (h : Fq w0 w B rest t short) : ∃ ao cap, Rd w0 (.slice ao rest.length cap) rest ∧ w.cell? ⟨B, 0, none⟩ = some (.slice ao rest.length cap) ∧ w.cell? ⟨B, 1, none⟩ = some (.int .i64 (t : Int)) ∧ w.cell? ⟨B, 2, none⟩ = some (.int .i64 short) := by
  obtain ⟨rv, hb, hr, _⟩ := h.box
  obtain ⟨ao, cap, rfl⟩ := hr.shape
  exact ⟨ao, cap, hr, (cell_of_row _ B 0 _ _ (0, 0) hb).trans rfl, (cell_of_row _ B 1 _ _ (0, 0) hb).trans rfl, (cell_of_row _ B 2 _ _ (0, 0) hb).trans rfl⟩
set_option maxRecDepth 20000 in
theorem left_q {w0 w : World} {B : Nat} {rest : List Int} {t : Nat} {short : Int} (h : Fq w0 w B rest t short) :
    Calls Tryd.prog 62 #[.pointer (some ⟨B, 0, none⟩)] w fun e w' => e = .returned (.int .i64 (rest.length : Int)) ∧ w = w' := by
  obtain ⟨ao, cap, _, c0, _, _⟩ := h.cells
  clear h
  go_enter Tryd.func62, Tryd.ntmps62
  go_wp2_with fail
  go_ret
  exact ⟨rfl, rfl⟩
set_option maxRecDepth 20000 in
theorem of_q {w : World} {v : Value} {zs : List Int} {short : Int} (hr : Rd w v zs) (hp : Plain v) (hl : zs.length ≤ 1000000) :
    Calls Tryd.prog 40 #[v, .int .i64 short] w fun e w' => e = .returned (.pointer (some ⟨w.heap.size, 0, none⟩)) ∧ Fq w w' w.heap.size zs 0 short ∧ w' = w.alloc (.cells #[v, .int .i64 0, .int .i64 short] 87) := by
  have hF : Fq w (w.alloc (.cells #[v, .int .i64 0, .int .i64 short] 87)) w.heap.size zs 0 short := ⟨below_alloc _ _, Nat.le_refl _, by omega, v, heap_alloc_new _ _, hr, hp⟩
  obtain ⟨ao, cap, rfl⟩ := hr.shape
  clear hr hp hl
  go_enter Tryd.func40, Tryd.ntmps40
  go_wp2_with fail
  go_ret
  exact ⟨rfl, hF, rfl⟩
set_option maxRecDepth 20000 in
theorem bytes_q {w0 w : World} {B : Nat} {rest : List Int} {t : Nat} {short : Int} (h : Fq w0 w B rest t short) (k : Nat) (hk : k ≤ rest.length) :
    Calls Tryd.prog 84 #[.pointer (some ⟨B, 0, none⟩), .int .i64 (k : Int)] w fun e w' => ∃ v, e = .returned v ∧ (Ra w.heap.size w' v (rest.take k) ∧ Plain v) ∧ Fq w0 w' B (rest.drop k) (t + k) short ∧ But B w w' := by
  have hc := cut_q h k hk
  have hsum := h.sum
  have hl : (rest.take k).length ≤ 1000000 := by simp; omega
  clear h
  go_enter Tryd.func84, Tryd.ntmps84
  go_wp2_with fail
  refine hc.mono ?_
  rintro e w1 ⟨pv, rfl, ⟨hr, hp⟩, hF, hb⟩
  have hcl := clone_any (hr.below hF.bel) hp hl
  clear hr hp hl hc
  go_wp2_with fail
  refine hcl.mono ?_
  rintro e w2 ⟨v, rfl, ⟨hv, hp⟩, hb2⟩
  go_wp2_with fail
  go_ret
  exact ⟨_, rfl, ⟨hv.mono hb.size, hp⟩, hF.keep hb2, hb.trans (But.of_below hb2)⟩
set_option maxRecDepth 20000 in
theorem bytes_e {w0 w : World} {B : Nat} {rest : List Int} {t : Nat} {short : Int} (h : Fq w0 w B rest t short) (n : Int) (hn : (rest.length : Int) < n) :
    Calls Tryd.prog 84 #[.pointer (some ⟨B, 0, none⟩), .int .i64 n] w fun e w' => e = errPanic short ∧ But B w w' := by
  have hc := cut_e h n hn
  clear h hn
  go_enter Tryd.func84, Tryd.ntmps84
  go_wp2_with fail
  refine hc.mono ?_
  rintro e w1 ⟨he, hb⟩
  rw [errPanic] at he
  subst he
  go_wp2_with fail
  exact ⟨rfl, rfl, hb⟩
set_option maxRecDepth 20000 in
set_option maxHeartbeats 1000000 in
theorem fixed_q {w0 w : World} {B : Nat} {rest : List Int} {t : Nat} {short : Int} (h : Fq w0 w B rest t short) (k : Nat) (h1 : 1 ≤ k) (h7 : k ≤ 7) (hk : k ≤ rest.length) :
    Calls Tryd.prog 60 #[.pointer (some ⟨B, 0, none⟩), .int .i64 (k : Int)] w fun e w' => e = .returned (.int .i64 (bigv (rest.take k) 0)) ∧ Fq w0 w' B (rest.drop k) (t + k) short ∧ But B w w' := by
  have hc := cut_q h k hk
  have hlen : (rest.take k).length = k := by simp; omega
  clear h
  go_enter Tryd.func60, Tryd.ntmps60
  go_wp2_with fail
  refine hc.mono ?_
  rintro e w1 ⟨pv, rfl, ⟨hr, _⟩, hF, hb⟩
  have hr1 := hr.below hF.bel
  generalize hL : rest.take k = L at *
  have HLL := Lib.hid hL
  have HF := Lib.hid hF
  clear hL hc hr hF
  rcases hr1.cases with ⟨rfl, _⟩ | ⟨b, off, cap, rfl, _, hlc, hcap, _, hcell⟩
  · simp at hlen; omega
  have hbyt := hr1.byt
  rw [hlen]
  have HL := Lib.hid hlen
  have HC := Lib.hid hcell
  clear hr1 hlen hcell
  go_wp2_with fail
  go_loop [5, 12] (fun a i => ∃ j : Nat, j ≤ k ∧ i = .int .i64 j ∧ a = .int .i64 (bigv (L.take j) 0)) (fun _ i => k - (intOf i).toNat)
  case atStart => exact ⟨0, Nat.zero_le _, rfl, rfl⟩
  case round =>
    obtain ⟨j, hj, rfl, rfl⟩ := hrel
    by_cases hlt : j < k
    · have hjl : j < L.length := by have := HL.out; omega
      have hcx := HC.out j hjl
      have hx := Byt.get hbyt j
      have hbd := bigv_bd (hbyt.take j)
      have hl2 : (L.take j).length = j := by simp; omega
      rw [hl2] at hbd
      have hp := pow_le6 j (by omega)
      have HS : Hid (bigv (L.take (j + 1)) 0 = bigv (L.take j) 0 * 256 + L.getD j 0) := Lib.hid (by rw [take_snoc L j hjl, bigv_snoc, Int.mul_comm])
      obtain ⟨hbd0, hbd1⟩ := hbd
      have hbd2 : bigv (L.take j) 0 < 281474976710656 := by omega
      clear hbd1 hp hl2
      generalize bigv (L.take j) 0 = A at *
      have e1 : IntKind.i64.wrap (A * 256) = A * 256 := wraps_i64 _ (by omega) (by omega)
      generalize L.getD j 0 = X at *
      have e2 : bits BinOp.or IntKind.i64 (A * 256) X = A * 256 + X := or_i64 A X hbd0 (by omega) hx
      go_wp2
      go_round
      case rel => exact ⟨j + 1, by omega, by go_num, by rw [HS.out]⟩
      case measure => simp [intOf]; omega
    · go_wp2
      go_ret
      have e : L.take j = L := List.take_of_length_le (by have := HL.out; omega)
      exact ⟨ret_int (by rw [e, ← HLL.out]), HF.out, hb⟩
set_option maxRecDepth 20000 in
theorem fixed_e {w0 w : World} {B : Nat} {rest : List Int} {t : Nat} {short : Int} (h : Fq w0 w B rest t short) (n : Int) (hn : (rest.length : Int) < n) :
    Calls Tryd.prog 60 #[.pointer (some ⟨B, 0, none⟩), .int .i64 n] w fun e w' => e = errPanic short ∧ But B w w' := by
  have hc := cut_e h n hn
  clear h hn
  go_enter Tryd.func60, Tryd.ntmps60
  go_wp2_with fail
  refine hc.mono ?_
  rintro e w1 ⟨he, hb⟩
  rw [errPanic] at he
  subst he
  go_wp2_with fail
  exact ⟨rfl, rfl, hb⟩

theorem rd_cons (z : Int) (r : List Int) : rd (z :: r) = if (z :: r).length < fs z then (0, 0, 2) else if sz (val ((z :: r).take (fs z))) = (fs z : Int) then (val ((z :: r).take (fs z)), (fs z : Int), 0) else (0, 0, 3) := rfl
/-- What reading a number tells of its size. -/
theorem rd_size {zs : List Int} (hb : Byt zs) : (rd zs).2.2 = 0 ∧ (0 ≤ (rd zs).1 ∧ (rd zs).1 < 4611686018427387904) ∧ (∃ k : Nat, (rd zs).2.1 = (k : Int) ∧ 1 ≤ k ∧ k ≤ 8 ∧ k ≤ zs.length) ∨ (rd zs).1 = 0 ∧ (rd zs).2.1 = 0 ∧ ((rd zs).2.2 = 2 ∨ (rd zs).2.2 = 3) := by
  cases zs with
  | nil => exact .inr ⟨rfl, rfl, .inl rfl⟩
  | cons z r =>
    have hz := hb z List.mem_cons_self
    have hf : 1 ≤ fs z ∧ fs z ≤ 8 := by rcases fs_cases z hz with ⟨_, h⟩ | ⟨_, h⟩ | ⟨_, h⟩ | ⟨_, h⟩ <;> omega
    rw [rd_cons]
    by_cases h1 : (z :: r).length < fs z
    · rw [if_pos h1]; exact .inr ⟨rfl, rfl, .inl rfl⟩
    · rw [if_neg h1]
      by_cases h2 : sz (val ((z :: r).take (fs z))) = (fs z : Int)
      · rw [if_pos h2]
        refine .inl ⟨rfl, ?_, fs z, rfl, hf.1, hf.2, by omega⟩
        generalize val ((z :: r).take (fs z)) = n at *
        rcases sz_cases n with ⟨hs, _⟩ | ⟨hn0, hn1, k, hs, _, hnk⟩
        · omega
        · exact ⟨by omega, by omega⟩
      · rw [if_neg h2]; exact .inr ⟨rfl, rfl, .inr rfl⟩
/-- What is cut short of a number is too short; what is cut behind it tells the same. -/
theorem rd_take (zs : List Int) (v s : Int) (m : Nat) (h : rd zs = (v, s, 0)) : (m < s.toNat → rd (zs.take m) = (0, 0, 2)) ∧ (s.toNat ≤ m → rd (zs.take m) = rd zs) := by
  cases zs with
  | nil => simp [rd] at h
  | cons z r =>
    have hd : rd (z :: r) = if (z :: r).length < fs z then (0, 0, 2) else if sz (val ((z :: r).take (fs z))) = (fs z : Int) then (val ((z :: r).take (fs z)), (fs z : Int), 0) else (0, 0, 3) := rfl
    by_cases h1 : (z :: r).length < fs z
    · rw [hd, if_pos h1] at h; simp at h
    · by_cases h2 : sz (val ((z :: r).take (fs z))) = (fs z : Int)
      · rw [hd, if_neg h1, if_pos h2] at h
        simp only [Prod.mk.injEq] at h
        have hs : s.toNat = fs z := by omega
        rw [hs]
        have hp : 1 ≤ fs z := Nat.one_le_two_pow
        cases m with
        | zero => exact ⟨fun _ => rfl, fun h => by omega⟩
        | succ j =>
          have hl : (z :: r.take j).length = min (j + 1) (z :: r).length := by simp
          have hd2 : rd ((z :: r).take (j + 1)) = if (z :: r.take j).length < fs z then (0, 0, 2) else if sz (val ((z :: r.take j).take (fs z))) = (fs z : Int) then (val ((z :: r.take j).take (fs z)), (fs z : Int), 0) else (0, 0, 3) := rfl
          refine ⟨fun hm => ?_, fun hm => ?_⟩
          · rw [hd2, if_pos (by omega)]
          · have e : (z :: r.take j).take (fs z) = (z :: r).take (fs z) := by
              have : z :: r.take j = (z :: r).take (j + 1) := rfl
              rw [this, List.take_take, Nat.min_eq_left hm]
            rw [hd2, hd, e, if_neg (by omega), if_neg h1]
      · rw [hd, if_neg h1, if_neg h2] at h; simp at h
set_option maxRecDepth 20000 in
theorem number_q {w0 w : World} {B : Nat} {rest : List Int} {t : Nat} {short : Int} (h : Fq w0 w B rest t short) (n : Int) (k : Nat) (hn : rd rest = (n, (k : Int), 0)) (hk : k ≤ rest.length) :
    Calls Tryd.prog 83 #[.pointer (some ⟨B, 0, none⟩)] w fun e w' => e = .returned (.int .i64 n) ∧ Fq w0 w' B (rest.drop k) (t + k) short ∧ But B w w' := by
  have hc := cut_q h k hk
  obtain ⟨ao, cap, hr, c0, c1, c2⟩ := h.cells
  have hrd := read_any (hr.below h.bel)
  rw [hn] at hrd
  clear h hr hn
  go_enter Tryd.func83, Tryd.ntmps83
  go_wp2_with fail
  refine hrd.mono ?_
  rintro e w1 ⟨rfl, rfl⟩
  go_wp2_with fail
  refine (want_yes _ short).mono ?_
  rintro e w1 ⟨rfl, rfl⟩
  go_wp2_with fail
  refine (want_yes _ _).mono ?_
  rintro e w1 ⟨rfl, rfl⟩
  go_wp2_with fail
  refine hc.mono ?_
  rintro e w1 ⟨pv, rfl, _, hF, hb⟩
  go_wp2_with fail
  go_ret
  exact ⟨rfl, hF, hb⟩
set_option maxRecDepth 20000 in
theorem number_e {w0 w : World} {B : Nat} {rest : List Int} {t : Nat} {short : Int} (h : Fq w0 w B rest t short) (k : Int) (hn : rd rest = (0, 0, k)) (hk : k = 2 ∨ k = 3) :
    Calls Tryd.prog 83 #[.pointer (some ⟨B, 0, none⟩)] w fun e w' => e = errPanic (if k = 2 then short else k) ∧ But B w w' := by
  obtain ⟨ao, cap, hr, c0, c1, c2⟩ := h.cells
  have hrd := read_any (hr.below h.bel)
  rw [hn] at hrd
  clear h hr hn
  rcases hk with rfl | rfl
  · rw [if_pos rfl]
    go_enter Tryd.func83, Tryd.ntmps83
    go_wp2_with fail
    refine hrd.mono ?_
    rintro e w1 ⟨rfl, rfl⟩
    go_wp2_with fail
    refine (want_no _ short).mono ?_
    rintro e w1 ⟨he, rfl⟩
    rw [errPanic] at he
    subst he
    go_wp2_with fail
    exact ⟨rfl, rfl, But.refl _ _⟩
  · rw [if_neg (by decide)]
    go_enter Tryd.func83, Tryd.ntmps83
    go_wp2_with fail
    refine hrd.mono ?_
    rintro e w1 ⟨rfl, rfl⟩
    go_wp2_with fail
    refine (want_yes _ short).mono ?_
    rintro e w1 ⟨rfl, rfl⟩
    go_wp2_with fail
    refine (want_no _ _).mono ?_
    rintro e w1 ⟨he, rfl⟩
    rw [errPanic] at he
    subst he
    go_wp2_with fail
    exact ⟨rfl, rfl, But.refl _ _⟩
#print axioms clone_any
#print axioms number_q
end Go.Proofs.YtefcjggmlhoebaaDoor
namespace Go.Proofs.YtefcjggmlhoebaaDoor
open Go Go.RowKit

/-- A number's bytes are told back by what is read of them. -/
theorem bts_val {z : Int} {q : List Int} (hb : Byt (z :: q)) (hk : (z :: q).length = fs z) : bts (fs z) (val (z :: q)) = z :: q := by
  have hz := hb z List.mem_cons_self
  rcases fs_cases z hz with ⟨e, hf⟩ | ⟨e, hf⟩ | ⟨e, hf⟩ | ⟨e, hf⟩
  · rw [hf] at hk ⊢
    match q, hk with
    | [], _ => simp [bts, tl, val, vf, lg]; omega
  · rw [hf] at hk ⊢
    match q, hk with
    | [b], _ =>
      have h1 := hb b (by simp)
      simp [bts, tl, val, vf, lg]; omega
  · rw [hf] at hk ⊢
    match q, hk with
    | [b, c, d], _ =>
      have h1 := hb b (by simp)
      have h2 := hb c (by simp)
      have h3 := hb d (by simp)
      simp [bts, tl, val, vf, lg]; omega
  · rw [hf] at hk ⊢
    match q, hk with
    | [b, c, d, e1, f1, g1, h1], _ =>
      have k1 := hb b (by simp)
      have k2 := hb c (by simp)
      have k3 := hb d (by simp)
      have k4 := hb e1 (by simp)
      have k5 := hb f1 (by simp)
      have k6 := hb g1 (by simp)
      have k7 := hb h1 (by simp)
      simp [bts, tl, val, vf, lg]; omega
theorem enc_rd {zs : List Int} (hb : Byt zs) (h : (rd zs).2.2 = 0) : (0 ≤ (rd zs).1 ∧ (rd zs).1 < 4611686018427387904) ∧ zs.take (rd zs).2.1.toNat = enc (rd zs).1 ∧ (rd zs).2.1.toNat ≤ zs.length ∧ 1 ≤ (rd zs).2.1.toNat := by
  rcases rd_size hb with ⟨_, h1, k, hk, hk1, _, hkl⟩ | ⟨_, _, h3⟩
  · refine ⟨h1, ?_, by omega, by omega⟩
    cases zs with
    | nil => simp at hkl; omega
    | cons z r =>
      rw [rd_cons] at h hk ⊢
      split at h
      · cases h
      · rename_i hl
        simp only [if_neg hl] at hk ⊢
        split at h
        · rename_i hs
          simp only [if_pos hs] at hk ⊢
          have hz := hb z List.mem_cons_self
          have hf : 1 ≤ fs z := by rcases fs_cases z hz with ⟨_, h⟩ | ⟨_, h⟩ | ⟨_, h⟩ | ⟨_, h⟩ <;> omega
          obtain ⟨j, hj⟩ : ∃ j, fs z = j + 1 := ⟨fs z - 1, by omega⟩
          have ht : (z :: r).take (fs z) = z :: r.take j := by rw [hj]; rfl
          have hbt : Byt (z :: r.take j) := by rw [← ht]; exact hb.take _
          have hlen : (z :: r.take j).length = fs z := by rw [← ht, List.length_take]; omega
          have := bts_val hbt hlen
          unfold enc
          rw [hs, Int.toNat_natCast, ht]
          exact this.symm
        · cases h
  · omega
def gbig (n : Int) : Nat → List Int
  | 0 => []
  | k + 1 => (n / 256 ^ k % 256) :: gbig n k
theorem gbig_len (n : Int) (k : Nat) : (gbig n k).length = k := by
  induction k with
  | zero => rfl
  | succ k ih => simp [gbig, ih]
theorem gbigv_big (n a : Int) (k : Nat) (hk : k ≤ 4) (h0 : 0 ≤ n) (h : n < 256 ^ k) : bigv (gbig n k) a = a * 256 ^ k + n := by
  have : k = 0 ∨ k = 1 ∨ k = 2 ∨ k = 3 ∨ k = 4 := by omega
  rcases this with rfl | rfl | rfl | rfl | rfl <;> simp [gbig, bigv] at h ⊢ <;> omega
theorem gdrop_app {zs r f : List Int} {t : Nat} (h : zs.drop t = f ++ r) : zs.drop (t + f.length) = r := by
  rw [← List.drop_drop, h, List.drop_left]
/-- A frame: its kind, its count, its spans, where its bytes stand, they, its term. -/
structure Fv where
  k : Int
  c : Int
  sp : List (Int × Int)
  a : Int
  d : List Int
  t : Int
/-- A number of layer 1. -/
def gVar (zs : List Int) (t : Nat) : Option (Int × Nat) := if (rd (zs.drop t)).2.2 = 0 then some ((rd (zs.drop t)).1, t + (rd (zs.drop t)).2.1.toNat) else none
/-- So many bytes. -/
def gBytes (zs : List Int) (n t : Nat) : Option (List Int × Nat) := if (zs.drop t).length < n then none else some ((zs.drop t).take n, t + n)
/-- A term's number. -/
def gTerm (zs : List Int) (t : Nat) : Option (Int × Nat) :=
  match gBytes zs 4 t with
  | some (l, t) => if 1 ≤ bigv l 0 ∧ bigv l 0 ≤ 65536 then some (bigv l 0, t) else none
  | none => none
/-- So many spans more, below a number. -/
def gSpans (zs : List Int) : Nat → Int → Nat → Option (List (Int × Int) × Nat)
  | 0, _, t => some ([], t)
  | m + 1, fr, t =>
    match gVar zs t with
    | some (g, t) =>
      match gVar zs t with
      | some (n, t) =>
        if fr - g - 2 < n then none
        else match gSpans zs m (fr - g - 2 - n) t with
          | some (l, t) => some ((fr - g - 2 - n, fr - g - 2) :: l, t)
          | none => none
      | none => none
    | none => none
/-- An ack's spans. -/
def gAck (zs : List Int) (t : Nat) : Option (List (Int × Int) × Nat) :=
  match gVar zs t with
  | some (to, t) =>
    match gVar zs t with
    | some (more, t) =>
      if 32 ≤ more then none
      else match gVar zs t with
        | some (n, t) =>
          if to < n then none
          else match gSpans zs more.toNat (to - n) t with
            | some (l, t) => some ((to - n, to) :: l, t)
            | none => none
        | none => none
    | none => none
  | none => none
/-- How many 0s come. -/
def zeros : List Int → Nat
  | [] => 0
  | z :: r => if z = 0 then zeros r + 1 else 0
/-- What stands behind the byte of a kind. -/
def gBody (zs : List Int) (k : Int) (t : Nat) : Option (Fv × Nat) :=
  if k = 0 then some (⟨0, 1 + zeros (zs.drop t), [], 0, [], 0⟩, t + zeros (zs.drop t))
  else if k = 1 then some (⟨1, 0, [], 0, [], 0⟩, t)
  else if k = 30 then some (⟨30, 0, [], 0, [], 0⟩, t)
  else if k = 2 then (match gAck zs t with | some (l, t) => some (⟨2, 0, l, 0, [], 0⟩, t) | none => none)
  else if k = 6 then (match gVar zs t with
    | some (a, t) => (match gVar zs t with
      | some (n, t) => (match gBytes zs n.toNat t with
        | some (l, t) => if a ≤ 1048576 ∧ 1 ≤ l.length ∧ l.length ≤ 1000 then some (⟨6, 0, [], a, l, 0⟩, t) else none
        | none => none)
      | none => none)
    | none => none)
  else if k = 7 then (match gTerm zs t with | some (h, t) => some (⟨7, 0, [], 0, [], h⟩, t) | none => none)
  else if k = 8 then (match gVar zs t with
    | some (c, t) => (match gTerm zs t with | some (h, t) => some (⟨8, c, [], 0, [], h⟩, t) | none => none)
    | none => none)
  else if k = 28 then (match gVar zs t with | some (c, t) => some (⟨28, c, [], 0, [], 0⟩, t) | none => none)
  else none
/-- A frame. -/
def gFrame (zs : List Int) (t : Nat) : Option (Fv × Nat) :=
  match zs.drop t with
  | [] => none
  | k :: _ => gBody zs k (t + 1)
/-- All frames, at most so many. -/
def gAll (zs : List Int) : Nat → Nat → Option (List Fv)
  | 0, _ => none
  | f + 1, t =>
    match gFrame zs t with
    | some (x, t') => if t' = zs.length then some [x] else (match gAll zs f t' with | some l => some (x :: l) | none => none)
    | none => none
/-- Frames' bytes. -/
def wrSpans : List (Int × Int) → Int → List Int
  | [], _ => []
  | (f, t) :: r, last => enc (last - t - 2) ++ (enc (t - f) ++ wrSpans r f)
def wrAck (l : List (Int × Int)) : List Int :=
  match l with
  | [] => []
  | (f, t) :: r => enc t ++ (enc (r.length : Int) ++ (enc (t - f) ++ wrSpans r f))
def wrF (f : Fv) : List Int :=
  if f.k = 0 then List.replicate f.c.toNat 0
  else f.k :: (if f.k = 2 then wrAck f.sp
    else if f.k = 6 then enc f.a ++ (enc (f.d.length : Int) ++ f.d)
    else if f.k = 7 then gbig f.t 4
    else if f.k = 8 then enc f.c ++ gbig f.t 4
    else if f.k = 28 then enc f.c
    else [])
/-- May spans be, below a number? -/
def spansR : List (Int × Int) → Int → Prop
  | [], _ => True
  | (f, t) :: r, last => 0 ≤ f ∧ f ≤ t ∧ t ≤ last - 2 ∧ spansR r f
def numR (n : Int) : Prop := 0 ≤ n ∧ n < 4611686018427387904
def ackR (l : List (Int × Int)) : Prop :=
  match l with
  | [] => False
  | (f, t) :: r => 0 ≤ f ∧ f ≤ t ∧ numR t ∧ r.length ≤ 31 ∧ spansR r f
/-- May it be a frame? -/
def rightF (f : Fv) : Prop :=
  (f.k = 0 ∧ 1 ≤ f.c ∧ f.c ≤ 1200 ∧ f.sp = [] ∧ f.a = 0 ∧ f.d = [] ∧ f.t = 0) ∨
  ((f.k = 1 ∨ f.k = 30) ∧ f.c = 0 ∧ f.sp = [] ∧ f.a = 0 ∧ f.d = [] ∧ f.t = 0) ∨
  (f.k = 2 ∧ f.c = 0 ∧ ackR f.sp ∧ f.a = 0 ∧ f.d = [] ∧ f.t = 0) ∨
  (f.k = 6 ∧ f.c = 0 ∧ f.sp = [] ∧ (0 ≤ f.a ∧ f.a ≤ 1048576) ∧ (1 ≤ f.d.length ∧ f.d.length ≤ 1000) ∧ f.t = 0) ∨
  (f.k = 7 ∧ f.c = 0 ∧ f.sp = [] ∧ f.a = 0 ∧ f.d = [] ∧ (1 ≤ f.t ∧ f.t ≤ 65536)) ∨
  (f.k = 8 ∧ numR f.c ∧ f.sp = [] ∧ f.a = 0 ∧ f.d = [] ∧ (1 ≤ f.t ∧ f.t ≤ 65536)) ∨
  (f.k = 28 ∧ numR f.c ∧ f.sp = [] ∧ f.a = 0 ∧ f.d = [] ∧ f.t = 0)

theorem gvar_at {zs r : List Int} {t : Nat} {n : Int} (hn : numR n) (h : zs.drop t = enc n ++ r) : gVar zs t = some (n, t + (enc n).length) := by
  unfold gVar
  rw [h, rd_enc n hn.1 hn.2]; simp
theorem gbytes_at {zs r f : List Int} {t : Nat} (h : zs.drop t = f ++ r) : gBytes zs f.length t = some (f, t + f.length) := by
  unfold gBytes
  rw [h, if_neg (by simp), List.take_left]
theorem gterm_at {zs r : List Int} {t : Nat} {n : Int} (h1 : 1 ≤ n) (h2 : n ≤ 65536) (h : zs.drop t = gbig n 4 ++ r) : gTerm zs t = some (n, t + 4) := by
  unfold gTerm
  have := gbytes_at h
  rw [gbig_len] at this
  rw [this]
  have e := gbigv_big n 0 4 (by decide) (by omega) (by omega)
  simp only [e]
  rw [if_pos (by omega)]; simp
theorem spans_le : ∀ {l : List (Int × Int)} {last : Int}, spansR l last → ∀ x ∈ l, x.2 ≤ last - 2 ∧ 0 ≤ x.1 := by
  intro l
  induction l with
  | nil => intro _ _ x h; cases h
  | cons y r ih =>
    intro last h x hx
    obtain ⟨f, t⟩ := y
    obtain ⟨h0, h1, h2, h3⟩ := h
    rcases List.mem_cons.1 hx with rfl | hx
    · exact ⟨h2, h0⟩
    · have := ih h3 x hx; omega
theorem gspans_at {zs : List Int} : ∀ {l : List (Int × Int)} {last : Int} {t : Nat} {r : List Int}, spansR l last → last < 4611686018427387904 → zs.drop t = wrSpans l last ++ r → gSpans zs l.length last t = some (l, t + (wrSpans l last).length) := by
  intro l
  induction l with
  | nil => intro last t r _ _ _; simp [gSpans, wrSpans]
  | cons y q ih =>
    intro last t r h hl hd
    obtain ⟨f, to⟩ := y
    obtain ⟨h0, h1, h2, h3⟩ := h
    simp only [wrSpans, List.append_assoc] at hd
    have v1 := gvar_at ⟨by omega, by omega⟩ hd
    have hd2 := gdrop_app hd
    have v2 := gvar_at ⟨by omega, by omega⟩ hd2
    have hd3 := gdrop_app hd2
    have e1 : last - (last - to - 2) - 2 = to := by omega
    have e2 : to - (to - f) = f := by omega
    simp only [List.length_cons, gSpans, v1, v2, e1, e2]
    rw [if_neg (by omega)]
    have := ih h3 (by omega) hd3
    simp only [this, wrSpans, List.length_append]
    simp only [Option.some.injEq, Prod.mk.injEq, true_and]
    omega
theorem gack_at {zs : List Int} {l : List (Int × Int)} {t : Nat} {r : List Int} (h : ackR l) (hd : zs.drop t = wrAck l ++ r) : gAck zs t = some (l, t + (wrAck l).length) := by
  cases l with
  | nil => cases h
  | cons y q =>
    obtain ⟨f, to⟩ := y
    obtain ⟨h0, h1, h2, h3, h4⟩ := h
    simp only [wrAck, List.append_assoc] at hd
    have v1 := gvar_at h2 hd
    have hd2 := gdrop_app hd
    have v2 := gvar_at ⟨by omega, by omega⟩ hd2
    have hd3 := gdrop_app hd2
    have v3 := gvar_at ⟨by omega, by have := h2.2; omega⟩ hd3
    have hd4 := gdrop_app hd3
    have e2 : to - (to - f) = f := by omega
    have v4 := gspans_at h4 (by have := h2.2; omega) hd4
    simp only [gAck, v1, v2, v3, e2]
    rw [if_neg (by omega), if_neg (by omega), Int.toNat_natCast, v4]
    simp only [wrAck, List.length_append, Option.some.injEq, Prod.mk.injEq, true_and]
    omega
theorem zeros_rep {n : Nat} {r : List Int} (h : ∀ z q, r = z :: q → z ≠ 0) : zeros (List.replicate n 0 ++ r) = n := by
  induction n with
  | zero =>
    cases r with
    | nil => rfl
    | cons z q => simp [zeros, h z q rfl]
  | succ n ih => simp [List.replicate_succ, zeros, ih]
/-- What is written is read as it was, where no 0 stands behind a padding. -/
theorem gframe_at {zs : List Int} {f : Fv} {t : Nat} {r : List Int} (h : rightF f) (hz : f.k = 0 → ∀ z q, r = z :: q → z ≠ 0) (hd : zs.drop t = wrF f ++ r) : gFrame zs t = some (f, t + (wrF f).length) := by
  obtain ⟨k, c, sp, a, d, tm⟩ := f
  simp only [rightF] at h
  rcases h with ⟨rfl, h1, h2, rfl, rfl, rfl, rfl⟩ | ⟨hk, rfl, rfl, rfl, rfl, rfl⟩ | ⟨rfl, rfl, hA, rfl, rfl, rfl⟩ | ⟨rfl, rfl, rfl, hA, hD, rfl⟩ | ⟨rfl, rfl, rfl, rfl, rfl, hT⟩ | ⟨rfl, hC, rfl, rfl, rfl, hT⟩ | ⟨rfl, hC, rfl, rfl, rfl, rfl⟩
  · obtain ⟨n, hn⟩ : ∃ n : Nat, c = (n : Int) + 1 := ⟨(c - 1).toNat, by omega⟩
    subst hn
    have e : ((n : Int) + 1).toNat = n + 1 := by omega
    simp only [wrF, if_true, e, List.replicate_succ, List.cons_append] at hd ⊢
    have hd1 : zs.drop (t + 1) = List.replicate n 0 ++ r := gdrop_app (f := [0]) hd
    have hzr := zeros_rep (n := n) (hz rfl)
    simp only [gFrame, hd, gBody, if_true, hd1, hzr, List.length_cons, List.length_replicate, Option.some.injEq, Prod.mk.injEq, Fv.mk.injEq, and_true, true_and]
    omega
  · rcases hk with rfl | rfl
    · simp [wrF] at hd ⊢
      simp [gFrame, hd, gBody]
    · simp [wrF] at hd ⊢
      simp [gFrame, hd, gBody]
  · have hw : wrF ⟨2, 0, sp, 0, [], 0⟩ = 2 :: wrAck sp := by simp [wrF]
    rw [hw] at hd ⊢
    have hd1 := gdrop_app (f := [2]) hd
    have v := gack_at hA hd1
    simp only [List.length_singleton] at v
    simp only [gFrame, hd, List.cons_append, gBody, v]
    simp
    omega
  · have hw : wrF ⟨6, 0, [], a, d, 0⟩ = 6 :: (enc a ++ (enc (d.length : Int) ++ d)) := by simp [wrF]
    rw [hw] at hd ⊢
    have hd1 : zs.drop (t + 1) = enc a ++ (enc (d.length : Int) ++ (d ++ r)) := by
      have := gdrop_app (f := [6]) hd
      simpa using this
    have v1 := gvar_at ⟨by omega, by omega⟩ hd1
    have hd2 := gdrop_app hd1
    have v2 := gvar_at ⟨by omega, by omega⟩ hd2
    have hd3 := gdrop_app hd2
    have v3 := gbytes_at hd3
    simp only [gFrame, hd, List.cons_append, gBody, v1, v2, Int.toNat_natCast, v3]
    simp
    omega
  · have hw : wrF ⟨7, 0, [], 0, [], tm⟩ = 7 :: gbig tm 4 := by simp [wrF]
    rw [hw] at hd ⊢
    have hd1 := gdrop_app (f := [7]) hd
    have v := gterm_at hT.1 hT.2 hd1
    simp only [List.length_singleton] at v
    simp only [gFrame, hd, List.cons_append, gBody, v]
    simp [gbig_len]
  · have hw : wrF ⟨8, c, [], 0, [], tm⟩ = 8 :: (enc c ++ gbig tm 4) := by simp [wrF]
    rw [hw] at hd ⊢
    have hd1 : zs.drop (t + 1) = enc c ++ (gbig tm 4 ++ r) := by
      have := gdrop_app (f := [8]) hd
      simpa using this
    have v1 := gvar_at hC hd1
    have hd2 := gdrop_app hd1
    have v := gterm_at hT.1 hT.2 hd2
    simp only [gFrame, hd, List.cons_append, gBody, v1, v]
    simp [gbig_len]
    omega
  · have hw : wrF ⟨28, c, [], 0, [], 0⟩ = 28 :: enc c := by simp [wrF]
    rw [hw] at hd ⊢
    have hd1 := gdrop_app (f := [28]) hd
    have v1 := gvar_at hC hd1
    simp only [List.length_singleton] at v1
    simp only [gFrame, hd, List.cons_append, gBody, v1]
    simp
    omega

theorem split_at (zs : List Int) (t n : Nat) : zs.drop t = (zs.drop t).take n ++ zs.drop (t + n) := by
  rw [← List.drop_drop, List.take_append_drop]
theorem gvar_inv {zs : List Int} (hb : Byt zs) {t t' : Nat} {n : Int} (h : gVar zs t = some (n, t')) : zs.drop t = enc n ++ zs.drop t' ∧ numR n ∧ t < t' ∧ t' ≤ zs.length := by
  unfold gVar at h
  split at h
  · rename_i hz
    simp only [Option.some.injEq, Prod.mk.injEq] at h
    obtain ⟨rfl, rfl⟩ := h
    obtain ⟨h1, h2, h3, h4⟩ := enc_rd (hb.drop t) hz
    simp only [List.length_drop] at h3
    exact ⟨by rw [← h2]; exact split_at zs t _, h1, by omega, by omega⟩
  · cases h
theorem gbytes_inv {zs : List Int} {t t' n : Nat} {l : List Int} (h : gBytes zs n t = some (l, t')) (ht : t ≤ zs.length) : zs.drop t = l ++ zs.drop t' ∧ l.length = n ∧ t' = t + n ∧ t' ≤ zs.length := by
  unfold gBytes at h
  split at h
  · cases h
  · rename_i hl
    simp only [Option.some.injEq, Prod.mk.injEq] at h
    obtain ⟨rfl, rfl⟩ := h
    simp only [List.length_drop] at hl
    exact ⟨split_at zs t n, by simp; omega, rfl, by omega⟩
theorem gbig_bigv4 {l : List Int} (hb : Byt l) (hl : l.length = 4) : gbig (bigv l 0) 4 = l := by
  match l, hl with
  | [a, b, c, d], _ =>
    have ha := hb a (by simp)
    have hb1 := hb b (by simp)
    have hc := hb c (by simp)
    have hd := hb d (by simp)
    simp [gbig, bigv]
    omega
theorem gterm_inv {zs : List Int} (hb : Byt zs) {t t' : Nat} {n : Int} (h : gTerm zs t = some (n, t')) (ht : t ≤ zs.length) : zs.drop t = gbig n 4 ++ zs.drop t' ∧ (1 ≤ n ∧ n ≤ 65536) ∧ t < t' ∧ t' ≤ zs.length := by
  unfold gTerm at h
  cases hg : gBytes zs 4 t with
  | none => rw [hg] at h; cases h
  | some x =>
    obtain ⟨l, t1⟩ := x
    rw [hg] at h
    simp only at h
    split at h
    · rename_i hn
      simp only [Option.some.injEq, Prod.mk.injEq] at h
      obtain ⟨rfl, rfl⟩ := h
      obtain ⟨h1, h2, h3, h4⟩ := gbytes_inv hg ht
      have hbl : Byt l := fun z hz => hb z (List.mem_of_mem_drop (i := t) (by rw [h1]; exact List.mem_append_left _ hz))
      rw [gbig_bigv4 hbl h2]
      exact ⟨h1, hn, by omega, h4⟩
    · cases h
theorem gspans_inv {zs : List Int} (hb : Byt zs) : ∀ {m : Nat} {last : Int} {t t' : Nat} {l : List (Int × Int)}, gSpans zs m last t = some (l, t') → 0 ≤ last → t ≤ zs.length → zs.drop t = wrSpans l last ++ zs.drop t' ∧ spansR l last ∧ l.length = m ∧ t ≤ t' ∧ t' ≤ zs.length := by
  intro m
  induction m with
  | zero =>
    intro last t t' l h _ ht
    simp only [gSpans, Option.some.injEq, Prod.mk.injEq] at h
    obtain ⟨rfl, rfl⟩ := h
    exact ⟨by simp [wrSpans], trivial, rfl, Nat.le_refl _, ht⟩
  | succ m ih =>
    intro last t t' l h h0 ht
    simp only [gSpans] at h
    cases h1 : gVar zs t with
    | none => simp [h1] at h
    | some x =>
      obtain ⟨g, t1⟩ := x
      simp only [h1] at h
      cases h2 : gVar zs t1 with
      | none => simp [h2] at h
      | some x =>
        obtain ⟨n, t2⟩ := x
        simp only [h2] at h
        split at h
        · cases h
        · rename_i hn
          cases h3 : gSpans zs m (last - g - 2 - n) t2 with
          | none => simp [h3] at h
          | some x =>
            obtain ⟨q, t3⟩ := x
            simp only [h3, Option.some.injEq, Prod.mk.injEq] at h
            obtain ⟨rfl, rfl⟩ := h
            obtain ⟨a1, a2, a3, a4⟩ := gvar_inv hb h1
            obtain ⟨b1, b2, b3, b4⟩ := gvar_inv hb h2
            obtain ⟨c1, c2, c3, c4, c5⟩ := ih h3 (by omega) b4
            have e1 : last - (last - g - 2) - 2 = g := by omega
            have e2 : last - g - 2 - (last - g - 2 - n) = n := by omega
            refine ⟨?_, ⟨by omega, by have := b2.1; omega, by have := a2.1; omega, c2⟩, by simp [c3], by omega, c5⟩
            simp only [wrSpans, e1, e2, List.append_assoc]
            rw [← c1, ← b1, ← a1]
theorem gack_inv {zs : List Int} (hb : Byt zs) {t t' : Nat} {l : List (Int × Int)} (h : gAck zs t = some (l, t')) : zs.drop t = wrAck l ++ zs.drop t' ∧ ackR l ∧ t < t' ∧ t' ≤ zs.length := by
  unfold gAck at h
  cases h1 : gVar zs t with
  | none => simp [h1] at h
  | some x =>
    obtain ⟨to, t1⟩ := x
    simp only [h1] at h
    cases h2 : gVar zs t1 with
    | none => simp [h2] at h
    | some x =>
      obtain ⟨more, t2⟩ := x
      simp only [h2] at h
      split at h
      · cases h
      · rename_i hm
        cases h3 : gVar zs t2 with
        | none => simp [h3] at h
        | some x =>
          obtain ⟨n, t3⟩ := x
          simp only [h3] at h
          split at h
          · cases h
          · rename_i hn
            cases h4 : gSpans zs more.toNat (to - n) t3 with
            | none => simp [h4] at h
            | some x =>
              obtain ⟨q, t4⟩ := x
              simp only [h4, Option.some.injEq, Prod.mk.injEq] at h
              obtain ⟨rfl, rfl⟩ := h
              obtain ⟨a1, a2, a3, a4⟩ := gvar_inv hb h1
              obtain ⟨b1, b2, b3, b4⟩ := gvar_inv hb h2
              obtain ⟨c1, c2, c3, c4⟩ := gvar_inv hb h3
              obtain ⟨d1, d2, d3, d4, d5⟩ := gspans_inv hb h4 (by omega) c4
              have e2 : to - (to - n) = n := by omega
              have e3 : ((q.length : Nat) : Int) = more := by have := b2.1; omega
              refine ⟨?_, ⟨by omega, by have := c2.1; omega, a2, by omega, d2⟩, by omega, d5⟩
              simp only [wrAck, e2, e3, List.append_assoc]
              rw [← d1, ← c1, ← b1, ← a1]
theorem zeros_inv (l : List Int) : l = List.replicate (zeros l) 0 ++ l.drop (zeros l) ∧ zeros l ≤ l.length := by
  induction l with
  | nil => simp [zeros]
  | cons z r ih =>
    by_cases h : z = 0
    · subst h
      have e : zeros (0 :: r) = zeros r + 1 := by simp [zeros]
      rw [e, List.replicate_succ, List.cons_append, List.drop_succ_cons]
      exact ⟨congrArg _ ih.1, by simp; exact ih.2⟩
    · have e : zeros (z :: r) = 0 := by simp [zeros, h]
      rw [e]; simp
theorem zeros_stop (l : List Int) : ∀ z q, l.drop (zeros l) = z :: q → z ≠ 0 := by
  induction l with
  | nil => intro z q h; simp at h
  | cons x r ih =>
    intro z q h
    by_cases hx : x = 0
    · subst hx
      have e : zeros (0 :: r) = zeros r + 1 := by simp [zeros]
      rw [e, List.drop_succ_cons] at h
      exact ih z q h
    · have e : zeros (x :: r) = 0 := by simp [zeros, hx]
      rw [e] at h
      simp only [List.drop_zero, List.cons.injEq] at h
      rw [← h.1]; exact hx
/-- What is read was written so. -/
theorem gframe_inv {zs : List Int} (hb : Byt zs) (hl : zs.length ≤ 1200) {t t' : Nat} {f : Fv} (h : gFrame zs t = some (f, t')) : zs.drop t = wrF f ++ zs.drop t' ∧ rightF f ∧ t < t' ∧ t' ≤ zs.length ∧ (f.k = 0 → ∀ z q, zs.drop t' = z :: q → z ≠ 0) := by
  unfold gFrame at h
  cases hd : zs.drop t with
  | nil => rw [hd] at h; cases h
  | cons k r =>
    rw [hd] at h
    simp only at h
    have ht : t + 1 ≤ zs.length := by
      have := congrArg List.length hd
      simp at this; omega
    have hd1 : zs.drop (t + 1) = r := by
      rw [← List.drop_drop, hd]; rfl
    unfold gBody at h
    split at h
    · rename_i hk
      subst hk
      simp only [Option.some.injEq, Prod.mk.injEq] at h
      obtain ⟨rfl, rfl⟩ := h
      rw [hd1]
      obtain ⟨z1, z2⟩ := zeros_inv r
      have hr : r.length = zs.length - (t + 1) := by rw [← hd1]; simp
      have hdr : zs.drop (t + 1 + zeros r) = r.drop (zeros r) := by rw [← List.drop_drop, hd1]
      have e : (1 + (zeros r : Int)).toNat = zeros r + 1 := by omega
      refine ⟨?_, .inl ⟨rfl, by simp only; omega, by simp only; omega, rfl, rfl, rfl, rfl⟩, by omega, by omega, fun _ z q hq => zeros_stop r z q (by rw [← hdr]; exact hq)⟩
      simp only [wrF, if_true, e, List.replicate_succ, List.cons_append]
      rw [hdr, ← z1]
    · rename_i hk0
      split at h
      · rename_i hk
        subst hk
        simp only [Option.some.injEq, Prod.mk.injEq] at h
        obtain ⟨rfl, rfl⟩ := h
        exact ⟨by simp [wrF, hd1], .inr (.inl ⟨.inl rfl, rfl, rfl, rfl, rfl, rfl⟩), by omega, ht, fun e => absurd e (by simp)⟩
      · split at h
        · rename_i hk
          subst hk
          simp only [Option.some.injEq, Prod.mk.injEq] at h
          obtain ⟨rfl, rfl⟩ := h
          exact ⟨by simp [wrF, hd1], .inr (.inl ⟨.inr rfl, rfl, rfl, rfl, rfl, rfl⟩), by omega, ht, fun e => absurd e (by simp)⟩
        · split at h
          · rename_i hk
            subst hk
            cases hg : gAck zs (t + 1) with
            | none => simp [hg] at h
            | some x =>
              obtain ⟨l, t1⟩ := x
              simp only [hg, Option.some.injEq, Prod.mk.injEq] at h
              obtain ⟨rfl, rfl⟩ := h
              obtain ⟨a1, a2, a3, a4⟩ := gack_inv hb hg
              rw [hd1] at a1
              exact ⟨by simp [wrF]; exact a1, .inr (.inr (.inl ⟨rfl, rfl, a2, rfl, rfl, rfl⟩)), by omega, a4, fun e => absurd e (by simp)⟩
          · split at h
            · rename_i hk
              subst hk
              cases h1 : gVar zs (t + 1) with
              | none => simp [h1] at h
              | some x =>
                obtain ⟨a, t1⟩ := x
                simp only [h1] at h
                cases h2 : gVar zs t1 with
                | none => simp [h2] at h
                | some x =>
                  obtain ⟨n, t2⟩ := x
                  simp only [h2] at h
                  cases h3 : gBytes zs n.toNat t2 with
                  | none => simp [h3] at h
                  | some x =>
                    obtain ⟨l, t3⟩ := x
                    simp only [h3] at h
                    split at h
                    · rename_i hr
                      simp only [Option.some.injEq, Prod.mk.injEq] at h
                      obtain ⟨rfl, rfl⟩ := h
                      obtain ⟨a1, a2, a3, a4⟩ := gvar_inv hb h1
                      obtain ⟨b1, b2, b3, b4⟩ := gvar_inv hb h2
                      obtain ⟨c1, c2, c3, c4⟩ := gbytes_inv h3 b4
                      have e : ((l.length : Nat) : Int) = n := by have := b2.1; omega
                      rw [hd1] at a1
                      refine ⟨?_, .inr (.inr (.inr (.inl ⟨rfl, rfl, rfl, ⟨a2.1, hr.1⟩, hr.2, rfl⟩))), by omega, c4, fun e => absurd e (by simp)⟩
                      simp [wrF, e]
                      rw [← c1, ← b1]; exact a1
                    · cases h
            · split at h
              · rename_i hk
                subst hk
                cases hg : gTerm zs (t + 1) with
                | none => simp [hg] at h
                | some x =>
                  obtain ⟨l, t1⟩ := x
                  simp only [hg, Option.some.injEq, Prod.mk.injEq] at h
                  obtain ⟨rfl, rfl⟩ := h
                  obtain ⟨a1, a2, a3, a4⟩ := gterm_inv hb hg ht
                  rw [hd1] at a1
                  exact ⟨by simp [wrF]; exact a1, .inr (.inr (.inr (.inr (.inl ⟨rfl, rfl, rfl, rfl, rfl, a2⟩)))), by omega, a4, fun e => absurd e (by simp)⟩
              · split at h
                · rename_i hk
                  subst hk
                  cases h1 : gVar zs (t + 1) with
                  | none => simp [h1] at h
                  | some x =>
                    obtain ⟨c, t1⟩ := x
                    simp only [h1] at h
                    cases hg : gTerm zs t1 with
                    | none => simp [hg] at h
                    | some x =>
                      obtain ⟨l, t2⟩ := x
                      simp only [hg, Option.some.injEq, Prod.mk.injEq] at h
                      obtain ⟨rfl, rfl⟩ := h
                      obtain ⟨a1, a2, a3, a4⟩ := gvar_inv hb h1
                      obtain ⟨b1, b2, b3, b4⟩ := gterm_inv hb hg a4
                      rw [hd1] at a1
                      refine ⟨?_, .inr (.inr (.inr (.inr (.inr (.inl ⟨rfl, a2, rfl, rfl, rfl, b2⟩))))), by omega, b4, fun e => absurd e (by simp)⟩
                      simp [wrF]
                      rw [← b1]; exact a1
                · split at h
                  · rename_i hk
                    subst hk
                    cases h1 : gVar zs (t + 1) with
                    | none => simp [h1] at h
                    | some x =>
                      obtain ⟨c, t1⟩ := x
                      simp only [h1, Option.some.injEq, Prod.mk.injEq] at h
                      obtain ⟨rfl, rfl⟩ := h
                      obtain ⟨a1, a2, a3, a4⟩ := gvar_inv hb h1
                      rw [hd1] at a1
                      exact ⟨by simp [wrF]; exact a1, .inr (.inr (.inr (.inr (.inr (.inr ⟨rfl, a2, rfl, rfl, rfl, rfl⟩))))), by omega, a4, fun e => absurd e (by simp)⟩
                  · cases h

/-- Frames' bytes, one behind the other; may they stand so? -/
def wrAll : List Fv → List Int
  | [] => []
  | f :: r => wrF f ++ wrAll r
def standF : List Fv → Prop
  | [] => True
  | f :: r => rightF f ∧ (f.k = 0 → ∀ g q, r = g :: q → g.k ≠ 0) ∧ standF r
/-- What bytes are as frames. -/
def gRead (zs : List Int) : Option (List Fv) := gAll zs zs.length 0
theorem wrF_head {f : Fv} (h : rightF f) : ∃ r, wrF f = f.k :: r := by
  unfold wrF
  split
  · rename_i hk
    rcases h with ⟨_, h1, _⟩ | ⟨h1, _⟩ | ⟨h1, _⟩ | ⟨h1, _⟩ | ⟨h1, _⟩ | ⟨h1, _⟩ | ⟨h1, _⟩
    · obtain ⟨n, hn⟩ : ∃ n, f.c.toNat = n + 1 := ⟨f.c.toNat - 1, by omega⟩
      rw [hn, List.replicate_succ, hk]
      exact ⟨_, rfl⟩
    · omega
    · omega
    · omega
    · omega
    · omega
    · omega
  · exact ⟨_, rfl⟩
theorem wrF_pos {f : Fv} (h : rightF f) : 1 ≤ (wrF f).length := by
  obtain ⟨r, e⟩ := wrF_head h
  rw [e]; simp
theorem gall_inv {zs : List Int} (hb : Byt zs) (hl : zs.length ≤ 1200) : ∀ {n t : Nat} {l : List Fv}, gAll zs n t = some l → zs.drop t = wrAll l ∧ standF l ∧ l ≠ [] := by
  intro n
  induction n with
  | zero => intro t l h; cases h
  | succ n ih =>
    intro t l h
    simp only [gAll] at h
    cases hg : gFrame zs t with
    | none => simp [hg] at h
    | some x =>
      obtain ⟨f, t'⟩ := x
      simp only [hg] at h
      obtain ⟨a1, a2, a3, a4, a5⟩ := gframe_inv hb hl hg
      split at h
      · rename_i ht
        simp only [Option.some.injEq] at h
        subst h
        rw [ht, List.drop_length, List.append_nil] at a1
        exact ⟨by simp [wrAll, a1], ⟨a2, fun _ g q e => (by cases e), trivial⟩, by simp⟩
      · cases hr : gAll zs n t' with
        | none => simp [hr] at h
        | some q =>
          simp only [hr, Option.some.injEq] at h
          subst h
          obtain ⟨b1, b2, b3⟩ := ih hr
          refine ⟨by simp only [wrAll]; rw [a1, b1], ⟨a2, fun hk g q' e => ?_, b2⟩, by simp⟩
          subst e
          obtain ⟨r, er⟩ := wrF_head b2.1
          have := a5 hk g.k (r ++ wrAll q') (by rw [b1, wrAll, er]; rfl)
          exact this
theorem gall_at {zs : List Int} : ∀ {l : List Fv} {n t : Nat}, l ≠ [] → standF l → zs.drop t = wrAll l → (wrAll l).length ≤ n → t ≤ zs.length → gAll zs n t = some l := by
  intro l
  induction l with
  | nil => intro n t h; exact absurd rfl h
  | cons f r ih =>
    intro n t _ hs hd hn ht
    obtain ⟨h1, h2, h3⟩ := hs
    simp only [wrAll] at hd hn
    have hp := wrF_pos h1
    have hlen := congrArg List.length hd
    simp only [List.length_drop, List.length_append] at hlen hn
    have hz : f.k = 0 → ∀ z q, wrAll r = z :: q → z ≠ 0 := by
      intro hk z q hq
      cases r with
      | nil => cases hq
      | cons g q' =>
        obtain ⟨r', er⟩ := wrF_head h3.1
        simp only [wrAll, er, List.cons_append, List.cons.injEq] at hq
        rw [← hq.1]
        exact h2 hk g q' rfl
    have hf := gframe_at h1 hz hd
    have hd2 := gdrop_app hd
    cases n with
    | zero => omega
    | succ n =>
      simp only [gAll, hf]
      cases r with
      | nil =>
        simp only [wrAll, List.length_nil] at hlen
        rw [if_pos (by omega)]
      | cons g q =>
        have hp2 := wrF_pos h3.1
        have hl2 : 1 ≤ (wrAll (g :: q)).length := by simp only [wrAll, List.length_append]; omega
        rw [if_neg (by omega), ih (by simp) h3 hd2 (by omega) (by omega)]
theorem wrAll_app (a b : List Fv) : wrAll (a ++ b) = wrAll a ++ wrAll b := by
  induction a with
  | nil => rfl
  | cons f r ih => simp [wrAll, ih]
theorem stand_app {a b : List Fv} (ha : standF a) (hb : standF b) (h : ∀ x y q, a.getLast? = some x → b = y :: q → x.k = 0 → y.k ≠ 0) : standF (a ++ b) := by
  induction a with
  | nil => exact hb
  | cons f r ih =>
    obtain ⟨h1, h2, h3⟩ := ha
    refine ⟨h1, fun hk g q e => ?_, ih h3 fun x y q hx => h x y q ?_⟩
    · cases r with
      | nil => exact h f g q rfl e hk
      | cons g' q' =>
        cases e
        exact h2 hk _ _ rfl
    · cases r with
      | nil => cases hx
      | cons g' q' => simpa using hx
/-- What is read of both is what is read of the one and of the other. -/
theorem gread_join {a b : List Int} (ha : Byt a) (hb : Byt b) (la : a.length ≤ 600) (lb : b.length ≤ 600) {x y : List Fv} (hx : gRead a = some x) (hy : gRead b = some y) (h : ∀ u v q, x.getLast? = some u → y = v :: q → u.k = 0 → v.k ≠ 0) : gRead (a ++ b) = some (x ++ y) := by
  have hA := gall_inv ha (by omega) hx
  have hB := gall_inv hb (by omega) hy
  rw [List.drop_zero] at hA hB
  obtain ⟨a1, a2, a3⟩ := hA
  obtain ⟨b1, b2, b3⟩ := hB
  refine gall_at (by simp [a3]) (stand_app a2 b2 h) ?_ ?_ (Nat.zero_le _)
  · rw [List.drop_zero, wrAll_app, a1, b1]
  · rw [wrAll_app, ← a1, ← b1]; exact Nat.le_refl _
/-- What is written is read as it was; what is read is written as it was. -/
theorem gread_back {l : List Fv} (h : l ≠ []) (hs : standF l) : gRead (wrAll l) = some l := gall_at h hs (by simp) (Nat.le_refl _) (Nat.zero_le _)
theorem gread_again {zs : List Int} (hb : Byt zs) (hl : zs.length ≤ 1200) {l : List Fv} (h : gRead zs = some l) : zs = wrAll l ∧ standF l ∧ l ≠ [] := by
  have := gall_inv hb hl h
  rwa [List.drop_zero] at this
#print axioms gread_join
#print axioms gread_back
#print axioms gread_again
end Go.Proofs.YtefcjggmlhoebaaDoor
