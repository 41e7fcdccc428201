/- The bytes of a header: the program's. -/
import Derived.Test.YtgnjmmaahpngpaaDoorHRight
import Derived.Test.YtgnjmmaahpngpaaDoorInv
import Derived.Test.YtgnjmmaahpngpaaDoorGive
namespace Go.Proofs.YtgnjmmaahpngpaaDoor
open Go Go.RowKit

/-- A right header's bytes ahead of a body of n. -/
def wrB (h : Hv) (n : Int) : List Int :=
  if h.k = 3 then [64 + 4 * h.p + (h.w - 1)] ++ h.to ++ big h.n h.w.toNat
  else [192 + 16 * h.k + (h.w - 1)] ++ big h.v 4 ++ [(h.to.length : Int)] ++ h.to ++ [(h.fr.length : Int)] ++ h.fr ++ (if h.k = 0 then enc h.tk.length ++ h.tk else []) ++ enc (h.w + n) ++ big h.n h.w.toNat

theorem step_append_bytes {w : World} {ops : Array Oper} {o : Oper} {a : Act} {K : Act → World → Prop} {Q : Exit → Act → World → Prop} {E : Prop} (hgd : o.guard = none) (s x : Operand)
    (ho : o.op = .call { callee := .builtin .append, args := #[s, x], argTypes := #[22, 22] })
    (base : Nat) (v : Value) (n : Nat) (xs : List Int) (hs : a.eval s = v) (hown : w.ownsRow base 5 1 v n (by8 xs))
    (xv : Value) (ys : List Int) (hx : a.eval x = xv) (hr : Rd w xv ys) (hbound : n + ys.length ≤ 140737488355328) (hbase : base ≤ w.heap.size)
    (h : ∀ v' w', w'.ownsRow base 5 1 v' (n + ys.length) (by8 (xs ++ ys)) → Below base w w' → K (a.put o.dst v') w') :
    if Region.wanted o (yielded ops a.tmps) = true then Oper.wp Tryd.prog o a w K Q else E := by
  have hw : Region.wanted o (yielded ops a.tmps) = true := by simp [Region.wanted, hgd]
  rw [if_pos hw]
  obtain ⟨i, hi, hz0, hz1, hz2⟩ := info_row5
  obtain ⟨ao, cap, rfl, h1, h2, h3, _, hc⟩ := hr
  cases ao with
  | none =>
    have hcap := h3 rfl
    have hy : ys = [] := List.eq_nil_of_length_eq_zero (by omega)
    subst hy; subst hcap
    have hrun := run_append_owned_none (P := Tryd.prog) (w := w) base 22 o.type 5 i 1 Tryd.underlying22 hi v n (by8 xs) hown
    unfold Oper.wp execOp
    simp only [ho, resolve, invoke, builtin, Sem.run_bind, Sem.run_pure, Result.andThen_ok, List.map_toArray, List.map_cons, List.map_nil, hs, hx]
    simp only [List.length_nil] at hrun ⊢
    rw [hrun]
    exact h v w (by simpa using hown) (Below.refl _ _)
  | some ad =>
    refine wp_append_own w s x 22 ho base 5 i (.int .u8 0) 1 1 Tryd.underlying22 hi hz0 hz1 hz2 rfl (by decide) v n (by8 xs) hs hown ad ys.length cap (by8 ys) hx (by simp [by8_len]) ?_ (by8_one ys) (by unfold maxLen; omega) (by omega) hbase ?_
    · intro j u hu
      have hj : j < ys.length := by
        have := (List.getElem?_eq_some_iff.1 hu).1
        simpa [by8_len] using this
      rw [by8_get ys j hj] at hu
      cases hu
      exact hc ad rfl j hj
    · intro v' w' hown' hg _
      exact h v' w' (by rw [by8_app]; exact hown') (below_own hown hbase hg)

theorem pow_le (w : Int) (h1 : 1 ≤ w) (h4 : w ≤ 4) : (256 : Int) ^ w.toNat ≤ 4294967296 := by
  have e : w = 1 ∨ w = 2 ∨ w = 3 ∨ w = 4 := by omega
  rcases e with rfl | rfl | rfl | rfl <;> decide
theorem first_short (p w : Int) (hp : 0 ≤ p ∧ p ≤ 1) (h1 : 1 ≤ w) (h4 : w ≤ 4) : bits BinOp.or IntKind.i64 (bits BinOp.or IntKind.i64 64 (p * 4)) (w - 1) % 256 = 64 + 4 * p + (w - 1) := by
  have e1 : p = 0 ∨ p = 1 := by omega
  have e2 : w = 1 ∨ w = 2 ∨ w = 3 ∨ w = 4 := by omega
  rcases e1 with rfl | rfl <;> rcases e2 with rfl | rfl | rfl | rfl <;> decide +kernel
theorem first_long (p w : Int) (hp : 0 ≤ p ∧ p ≤ 2) (h1 : 1 ≤ w) (h4 : w ≤ 4) : bits BinOp.or IntKind.i64 (bits BinOp.or IntKind.i64 192 (p * 16)) (w - 1) % 256 = 192 + 16 * p + (w - 1) := by
  have e1 : p = 0 ∨ p = 1 ∨ p = 2 := by omega
  have e2 : w = 1 ∨ w = 2 ∨ w = 3 ∨ w = 4 := by omega
  rcases e1 with rfl | rfl | rfl <;> rcases e2 with rfl | rfl | rfl | rfl <;> decide +kernel
theorem keepT {base : Nat} {w w' : World} {b o : Nat} {v : Value} (hb : Below base w w') (hlt : b < base) (h : w.cell? ⟨b, o, none⟩ = some v) : w'.cell? ⟨b, o, none⟩ = some v := by rw [hb.cell (p := ⟨b, o, none⟩) hlt]; exact h
theorem own_len {w : World} {base m n : Nat} {v : Value} {zs : List Int} (h : w.ownsRow base 5 1 v m (by8 zs)) (e : m = n) : w.ownsRow base 5 1 v n (by8 zs) := by rw [← e]; exact h

set_option maxRecDepth 20000 in
set_option maxHeartbeats 4000000 in
theorem write_short (w : World) (h : Hv) (n : Int) (a2 : Option Addr) (c2 : Nat) (a3 : Option Addr) (c3 : Nat) (a4 : Option Addr) (c4 : Nat) (hr : Hr w h (.slice a2 h.to.length c2) (.slice a3 h.fr.length c3) (.slice a4 h.tk.length c4)) (hX : rightB h = true) (hk : h.k = 3) (hn : 0 ≤ n ∧ n ≤ 16384) :
    Calls Tryd.prog 5 #[.agg #[.int .i64 h.k, .int .i64 h.v, .slice a2 h.to.length c2, .slice a3 h.fr.length c3, .slice a4 h.tk.length c4, .int .i64 h.p, .int .i64 h.n, .int .i64 h.w], .int .i64 n] w fun e w' => ∃ v', e = .returned v' ∧ w'.ownsRow w.heap.size 5 1 v' (wrB h n).length (by8 (wrB h n)) ∧ Below w.heap.size w w' := by
  have hf : shortB h = true := by unfold rightB at hX; rw [if_neg (by omega), if_neg (by omega), if_pos hk] at hX; exact hX
  unfold shortB numB fitsB at hf
  simp only [Bool.and_eq_true, Bool.or_eq_true, decide_eq_true_eq] at hf
  obtain ⟨⟨⟨⟨⟨f1, f2⟩, f3⟩, f4⟩, f5⟩, ⟨f6, f7⟩, f8, f9⟩ := hf
  have hB := below_alloc w (.cells #[.int .i64 h.k, .int .i64 h.v, .slice a2 h.to.length c2, .slice a3 h.fr.length c3, .slice a4 h.tk.length c4, .int .i64 h.p, .int .i64 h.n, .int .i64 h.w] 29)
  have hbx : (w.alloc (.cells #[.int .i64 h.k, .int .i64 h.v, .slice a2 h.to.length c2, .slice a3 h.fr.length c3, .slice a4 h.tk.length c4, .int .i64 h.p, .int .i64 h.n, .int .i64 h.w] 29)).heap[w.heap.size]? = some (.cells #[.int .i64 h.k, .int .i64 h.v, .slice a2 h.to.length c2, .slice a3 h.fr.length c3, .slice a4 h.tk.length c4, .int .i64 h.p, .int .i64 h.n, .int .i64 h.w] 29 (0, 0)) := heap_alloc_new _ _
  have hR := right_any (w.alloc (.cells #[.int .i64 h.k, .int .i64 h.v, .slice a2 h.to.length c2, .slice a3 h.fr.length c3, .slice a4 h.tk.length c4, .int .i64 h.p, .int .i64 h.n, .int .i64 h.w] 29)) h a2 c2 a3 c3 a4 c4 (by omega) (by omega) (by omega)
  rw [hX] at hR
  have k3 : (h.k == 3) = true := by simp [hk]
  have hn1 := hn.1
  have hn2 := hn.2
  have HX := Lib.hid hX
  have HK := Lib.hid hk
  have HBX := Lib.hid hbx
  have HF := Lib.hid (And.intro f1 (And.intro f2 (And.intro f3 f4)))
  have hby := first_short h.p h.w (by omega) f6 f7
  obtain ⟨k, hkw⟩ : ∃ k : Nat, h.w = (k : Int) := ⟨h.w.toNat, by omega⟩
  have HKW := Lib.hid hkw
  have hZ0 : 0 ≤ 64 + 4 * h.p + (h.w - 1) ∧ 64 + 4 * h.p + (h.w - 1) ≤ 255 := by omega
  have HW : Hid (wrB h n = [64 + 4 * h.p + (h.w - 1)] ++ h.to ++ big h.n k) := Lib.hid (by unfold wrB; rw [if_pos hk, hkw]; rfl)
  have HN9 : Hid (h.n < 4294967296) := Lib.hid (by
    have := pow_le h.w f6 f7
    omega)
  have HK4 := Lib.hid (show k ≤ 4 by omega)
  have HT8 := Lib.hid f2
  have f8' := f8
  have Hr0 := Lib.hid hr
  generalize hZ : 64 + 4 * h.p + (h.w - 1) = Z at *
  have HZ := Lib.hid hZ0
  have hp0 : 0 ≤ h.p := by omega
  have hp1 : h.p ≤ 1 := by omega
  clear hZ hkw hZ0 f9 hr
  clear f1 f2 f3 f4 f5 hX hk hbx hn
  go_enter Tryd.func5, Tryd.ntmps5
  go_wp2_with fail
  refine hR.mono ?_
  rintro e w1 ⟨rfl, hb1⟩
  have hbx1 : w1.heap[w.heap.size]? = _ := (hb1.block _ (by simp)).trans HBX.out
  have x0 : w1.cell? ⟨w.heap.size, 0, none⟩ = some (.int .i64 h.k) := (cell_of_row _ w.heap.size 0 _ 29 (0, 0) hbx1).trans rfl
  have x2 : w1.cell? ⟨w.heap.size, 2, none⟩ = some (.slice a2 h.to.length c2) := (cell_of_row _ w.heap.size 2 _ 29 (0, 0) hbx1).trans rfl
  have x5 : w1.cell? ⟨w.heap.size, 5, none⟩ = some (.int .i64 h.p) := (cell_of_row _ w.heap.size 5 _ 29 (0, 0) hbx1).trans rfl
  have x6 : w1.cell? ⟨w.heap.size, 6, none⟩ = some (.int .i64 h.n) := (cell_of_row _ w.heap.size 6 _ 29 (0, 0) hbx1).trans rfl
  have x7 : w1.cell? ⟨w.heap.size, 7, none⟩ = some (.int .i64 h.w) := (cell_of_row _ w.heap.size 7 _ 29 (0, 0) hbx1).trans rfl
  clear hbx1 hR
  go_wp2_with fail
  have hsz1 : w.heap.size < w1.heap.size := by have := hb1.size; simp at this; omega
  have hA := own_lit w1 [Z] (by simp)
  have HBW : Hid (Below w.heap.size w (w1.alloc (.cells #[.int .u8 Z] 5)).drew) := Lib.hid (((hB.trans (hb1.mono (by simp))).trans ((below_alloc w1 _).mono (by omega))).drew)
  have y2 : (w1.alloc (.cells #[.int .u8 Z] 5)).drew.cell? ⟨w.heap.size, 2, none⟩ = some (.slice a2 h.to.length c2) := keepS (below_alloc w1 (.cells #[.int .u8 Z] 5)).drew x2
  have y6 : (w1.alloc (.cells #[.int .u8 Z] 5)).drew.cell? ⟨w.heap.size, 6, none⟩ = some (.int .i64 h.n) := keepS (below_alloc w1 (.cells #[.int .u8 Z] 5)).drew x6
  have y7 : (w1.alloc (.cells #[.int .u8 Z] 5)).drew.cell? ⟨w.heap.size, 7, none⟩ = some (.int .i64 h.w) := keepS (below_alloc w1 (.cells #[.int .u8 Z] 5)).drew x7
  have HA := Lib.hid (show (w1.alloc (.cells #[.int .u8 Z] 5)).drew.ownsRow w1.heap.size 5 1 (.slice (some ⟨w1.heap.size, 0, none⟩) 1 1) 1 (by8 [Z]) from hA)
  clear x0 x2 x5 x6 x7 hb1 hB hA
  go_region_held3 (fun w' => w'.cell? ⟨w.heap.size, 2, none⟩ = some (.slice a2 h.to.length c2) ∧ w'.cell? ⟨w.heap.size, 6, none⟩ = some (.int .i64 h.n) ∧ w'.cell? ⟨w.heap.size, 7, none⟩ = some (.int .i64 h.w))
    (first | with_reducible exact ⟨y2, y6, y7⟩ | with_reducible exact ⟨keepT hb2 hsz1 y2, keepT hb2 hsz1 y6, keepT hb2 hsz1 y7⟩ | with_reducible exact ⟨keepT hb3 hsz1 (keepT hb2 hsz1 y2), keepT hb3 hsz1 (keepT hb2 hsz1 y6), keepT hb3 hsz1 (keepT hb2 hsz1 y7)⟩)
    (first
      | (refine step_append_bytes (by rfl) _ _ (by rfl) w1.heap.size _ 1 [Z] (by rfl) HA.out _ h.to (by rfl) (Hr0.out.to.below HBW.out) ?_ ?_ ?_; (rw [HT8.out]; decide); simp; intro v2 w2 hown2 hb2; have hfa := fappend_any (own_len (n := ([Z] ++ h.to).length) hown2 (by simp [Nat.add_comm])) (Nat.le_trans (by simp) hb2.size) (by simp [HT8.out]) h.n f8' HN9.out k HK4.out; rw [← HKW.out] at hfa)
      | (go_at_call 12; refine hfa.mono ?_; rintro e w3 ⟨v3, rfl, hown3, hb3⟩))
  go_wp2_with fail
  go_ret
  refine ⟨_, rfl, ?_, ?_⟩
  · rw [HW.out]
    exact own_len (own_mono hown3 (Nat.le_of_lt hsz1)) (by simp [big_len]; omega)
  · exact (HBW.out.trans (hb2.mono (Nat.le_of_lt hsz1))).trans (hb3.mono (Nat.le_of_lt hsz1))

/-- The cells of the box that are read behind the first byte. -/
structure Bx (h : Hv) (a2 : Option Addr) (c2 : Nat) (a3 : Option Addr) (c3 : Nat) (a4 : Option Addr) (c4 : Nat) (B : Nat) (w : World) : Prop where
  x0 : w.cell? ⟨B, 0, none⟩ = some (.int .i64 h.k)
  x1 : w.cell? ⟨B, 1, none⟩ = some (.int .i64 h.v)
  x2 : w.cell? ⟨B, 2, none⟩ = some (.slice a2 h.to.length c2)
  x3 : w.cell? ⟨B, 3, none⟩ = some (.slice a3 h.fr.length c3)
  x4 : w.cell? ⟨B, 4, none⟩ = some (.slice a4 h.tk.length c4)
  x6 : w.cell? ⟨B, 6, none⟩ = some (.int .i64 h.n)
  x7 : w.cell? ⟨B, 7, none⟩ = some (.int .i64 h.w)
theorem Bx.to {h : Hv} {a2 : Option Addr} {c2 : Nat} {a3 : Option Addr} {c3 : Nat} {a4 : Option Addr} {c4 : Nat} {B base : Nat} {w w' : World} (x : Bx h a2 c2 a3 c3 a4 c4 B w) (hb : Below base w w') (hlt : B < base) : Bx h a2 c2 a3 c3 a4 c4 B w' :=
  ⟨keepT hb hlt x.x0, keepT hb hlt x.x1, keepT hb hlt x.x2, keepT hb hlt x.x3, keepT hb hlt x.x4, keepT hb hlt x.x6, keepT hb hlt x.x7⟩
theorem Bx.mk' {h : Hv} {a2 : Option Addr} {c2 : Nat} {a3 : Option Addr} {c3 : Nat} {a4 : Option Addr} {c4 : Nat} {B : Nat} {w : World} (hbx : w.heap[B]? = some (.cells #[.int .i64 h.k, .int .i64 h.v, .slice a2 h.to.length c2, .slice a3 h.fr.length c3, .slice a4 h.tk.length c4, .int .i64 h.p, .int .i64 h.n, .int .i64 h.w] 29 (0, 0))) : Bx h a2 c2 a3 c3 a4 c4 B w :=
  ⟨(cell_of_row _ B 0 _ 29 (0, 0) hbx).trans rfl, (cell_of_row _ B 1 _ 29 (0, 0) hbx).trans rfl, (cell_of_row _ B 2 _ 29 (0, 0) hbx).trans rfl, (cell_of_row _ B 3 _ 29 (0, 0) hbx).trans rfl, (cell_of_row _ B 4 _ 29 (0, 0) hbx).trans rfl, (cell_of_row _ B 6 _ 29 (0, 0) hbx).trans rfl, (cell_of_row _ B 7 _ 29 (0, 0) hbx).trans rfl⟩
theorem byt1 {z : Int} (h : 0 ≤ z ∧ z ≤ 255) : Byt [z] := fun y hy => by
  obtain rfl := List.mem_singleton.1 hy
  exact h
theorem u8_len (n : Nat) (h : n ≤ 20) : IntKind.u8.wrap (n : Int) = (n : Int) := IntWalk.u8_in _ ⟨by omega, by omega⟩

set_option maxRecDepth 20000 in
set_option maxHeartbeats 8000000 in
theorem write_long (w : World) (h : Hv) (n : Int) (a2 : Option Addr) (c2 : Nat) (a3 : Option Addr) (c3 : Nat) (a4 : Option Addr) (c4 : Nat) (hr : Hr w h (.slice a2 h.to.length c2) (.slice a3 h.fr.length c3) (.slice a4 h.tk.length c4)) (hX : rightB h = true) (hk : h.k = 0 ∨ h.k = 1 ∨ h.k = 2) (hn : 0 ≤ n ∧ n ≤ 16384) (ht : Tab w) (hw : 1 < w.heap.size) :
    Calls Tryd.prog 5 #[.agg #[.int .i64 h.k, .int .i64 h.v, .slice a2 h.to.length c2, .slice a3 h.fr.length c3, .slice a4 h.tk.length c4, .int .i64 h.p, .int .i64 h.n, .int .i64 h.w], .int .i64 n] w fun e w' => ∃ v', e = .returned v' ∧ w'.ownsRow w.heap.size 5 1 v' (wrB h n).length (by8 (wrB h n)) ∧ Below w.heap.size w w' := by
  have hf : longB h = true ∧ h.tk.length ≤ 64 := by
    unfold rightB at hX
    rcases hk with hk | hk | hk
    · rw [if_pos hk] at hX; simpa using hX
    · rw [if_neg (by omega), if_pos (.inl hk)] at hX
      simp only [Bool.and_eq_true, decide_eq_true_eq] at hX
      exact ⟨hX.1, by omega⟩
    · rw [if_neg (by omega), if_pos (.inr hk)] at hX
      simp only [Bool.and_eq_true, decide_eq_true_eq] at hX
      exact ⟨hX.1, by omega⟩
  obtain ⟨hf, f10⟩ := hf
  unfold longB numB fitsB at hf
  simp only [Bool.and_eq_true, decide_eq_true_eq] at hf
  obtain ⟨⟨⟨⟨⟨f1, f2⟩, f3⟩, f4⟩, f5⟩, ⟨f6, f7⟩, f8, f9⟩ := hf
  have hB := below_alloc w (.cells #[.int .i64 h.k, .int .i64 h.v, .slice a2 h.to.length c2, .slice a3 h.fr.length c3, .slice a4 h.tk.length c4, .int .i64 h.p, .int .i64 h.n, .int .i64 h.w] 29)
  have hbx : (w.alloc (.cells #[.int .i64 h.k, .int .i64 h.v, .slice a2 h.to.length c2, .slice a3 h.fr.length c3, .slice a4 h.tk.length c4, .int .i64 h.p, .int .i64 h.n, .int .i64 h.w] 29)).heap[w.heap.size]? = some (.cells #[.int .i64 h.k, .int .i64 h.v, .slice a2 h.to.length c2, .slice a3 h.fr.length c3, .slice a4 h.tk.length c4, .int .i64 h.p, .int .i64 h.n, .int .i64 h.w] 29 (0, 0)) := heap_alloc_new _ _
  have hR := right_any (w.alloc (.cells #[.int .i64 h.k, .int .i64 h.v, .slice a2 h.to.length c2, .slice a3 h.fr.length c3, .slice a4 h.tk.length c4, .int .i64 h.p, .int .i64 h.n, .int .i64 h.w] 29)) h a2 c2 a3 c3 a4 c4 (by omega) (by omega) (by omega)
  rw [hX] at hR
  have k3 : (h.k == 3) = false := beq_eq_false_iff_ne.2 (by omega)
  have hn1 := hn.1
  have hn2 := hn.2
  have hk0 : 0 ≤ h.k := by omega
  have hk2 : h.k ≤ 2 := by omega
  have HBX := Lib.hid hbx
  have hby := first_long h.k h.w (by omega) f6 f7
  obtain ⟨k, hkw⟩ : ∃ k : Nat, h.w = (k : Int) := ⟨h.w.toNat, by omega⟩
  have HKW := Lib.hid hkw
  have HN9 : Hid (h.n < 4294967296) := Lib.hid (by
    have := pow_le h.w f6 f7
    omega)
  have HK4 := Lib.hid (show k ≤ 4 by omega)
  have hZ0 : 0 ≤ 192 + 16 * h.k + (h.w - 1) ∧ 192 + 16 * h.k + (h.w - 1) ≤ 255 := by omega
  have HW : Hid (wrB h n = [192 + 16 * h.k + (h.w - 1)] ++ big h.v 4 ++ [(h.to.length : Int)] ++ h.to ++ [(h.fr.length : Int)] ++ h.fr ++ (if h.k = 0 then enc h.tk.length ++ h.tk else []) ++ enc (h.w + n) ++ big h.n k) := Lib.hid (by unfold wrB; rw [if_neg (by omega), hkw]; rfl)
  have Hr0 := Lib.hid hr
  have HT := Lib.hid ht
  have HSW := Lib.hid hw
  have f8' := f8
  have HVV := Lib.hid (And.intro (Int.le_of_lt f1) f2)
  have HL3 := Lib.hid f3
  have HL4 := Lib.hid f4
  have HL10 := Lib.hid f10
  have u2 := u8_len h.to.length f3
  have u3 := u8_len h.fr.length f4
  generalize hZ : 192 + 16 * h.k + (h.w - 1) = Z at *
  have HZ := Lib.hid hZ0
  clear hX hbx hk hn hr hkw ht hw f1 f2 f5 f9 hZ hZ0
  go_enter Tryd.func5, Tryd.ntmps5
  go_wp2_with fail
  refine hR.mono ?_
  rintro e w1 ⟨rfl, hb1⟩
  have b1 : Bx h a2 c2 a3 c3 a4 c4 w.heap.size w1 := .mk' ((hb1.block _ (by simp)).trans HBX.out)
  have hsz1 : w.heap.size < w1.heap.size := by have := hb1.size; simp at this; omega
  have x0 := b1.x0
  have x7 := b1.x7
  have x1 := b1.x1
  have HB1 := Lib.hid b1
  have HBW1 := Lib.hid (hB.trans (hb1.mono (by simp)))
  have HA := Lib.hid (own_lit w1 [Z] (by simp))
  clear b1 hb1 hB hR
  go_wp2_with fail
  have hfa := fappend_any (own_len (n := [Z].length) HA.out rfl) (by simp) (by simp) h.v HVV.out.1 HVV.out.2 4 (by decide)
  refine hfa.mono ?_
  rintro e w2 ⟨v2, rfl, hown2, hb2⟩
  clear hfa x0 x1 x7
  have HB2 := Lib.hid ((HB1.out.to (below_alloc w1 (.cells #[.int .u8 Z] 5)) hsz1).to hb2 hsz1)
  have HBW2 := Lib.hid ((HBW1.out.trans ((below_alloc w1 (.cells #[.int .u8 Z] 5)).mono (Nat.le_of_lt hsz1))).trans (hb2.mono (Nat.le_of_lt hsz1)))
  have HO2 := Lib.hid hown2
  have hsz2 : w1.heap.size ≤ w2.heap.size := Nat.le_trans (by simp) hb2.size
  clear hown2 hb2
  have y2 : w2.drew.cell? ⟨w.heap.size, 2, none⟩ = some (.slice a2 h.to.length c2) := HB2.out.x2
  go_wp2_with fail

  have hb81 : 0 ≤ (h.to.length : Int) ∧ (h.to.length : Int) ≤ 255 := by have := HL3.out; omega
  have hR1 := Rd.lit w2.drew [(h.to.length : Int)] (by simp) (fun z hz => by obtain rfl := List.mem_singleton.1 hz; exact hb81)
  have hO1 : (w2.drew.alloc (.cells (by8 [(h.to.length : Int)]).toArray 5)).ownsRow w1.heap.size 5 1 v2 _ (by8 ([Z] ++ big h.v 4)) := HO2.out.alloc _
  have hM1 : Below w.heap.size w (w2.drew.alloc (.cells (by8 [(h.to.length : Int)]).toArray 5)) := HBW2.out.drew.trans ((below_alloc w2.drew _).mono HBW2.out.size)
  have hs91 : w1.heap.size ≤ (w2.drew.alloc (.cells (by8 [(h.to.length : Int)]).toArray 5)).heap.size := by simp; omega
  have hl91 : h.to.length ≤ 20 := HL3.out
  clear hb81
  go_region_held3 (fun w' => w'.cell? ⟨w.heap.size, 2, none⟩ = some (.slice a2 h.to.length c2))
    (first | with_reducible exact y2 | with_reducible exact keepS (below_alloc _ _) y2 | with_reducible exact keepT hb3 hsz1 (keepS (below_alloc _ _) y2) | with_reducible exact keepT hb4 hsz1 (keepT hb3 hsz1 (keepS (below_alloc _ _) y2)))
    (first
      | (refine step_append_bytes (by rfl) _ _ (by rfl) w1.heap.size v2 _ _ (by rfl) hO1 _ _ (by rfl) hR1 ?_ hs91 ?_; (simp; try omega); intro v3 w3 hown3 hb3)
      | (refine step_append_bytes (by rfl) _ _ (by rfl) w1.heap.size v3 _ _ (by rfl) hown3 (.slice a2 h.to.length c2) h.to (by rfl) (Hr0.out.to.below (hM1.trans (hb3.mono (Nat.le_of_lt hsz1)))) ?_ (Nat.le_trans hs91 hb3.size) ?_; (simp; omega); intro v4 w4 hown4 hb4))
  obtain ⟨v5, w5, e1, e2⟩ : ∃ (u : Value) (W : World), u = v4 ∧ W = w4 := ⟨_, _, rfl, rfl⟩
  subst e1; subst e2
  have HB5 := Lib.hid (((HB2.out.to (below_alloc w2 (.cells #[.int .u8 (h.to.length : Int)] 5)).drew (by omega)).to hb3 hsz1).to hb4 hsz1)
  have HBW5 := Lib.hid ((hM1.trans (hb3.mono (Nat.le_of_lt hsz1))).trans (hb4.mono (Nat.le_of_lt hsz1)))
  have HO5 := Lib.hid hown4
  have hszw5 : w1.heap.size ≤ w5.heap.size := Nat.le_trans hs91 (Nat.le_trans hb3.size hb4.size)
  clear hown4 hown3 hb4 hb3 hR1 hO1 hM1 hs91 hl91 y2 hsz2
  have y3 : w5.drew.cell? ⟨w.heap.size, 3, none⟩ = some (.slice a3 h.fr.length c3) := HB5.out.x3
  go_wp2_with fail

  have hb82 : 0 ≤ (h.fr.length : Int) ∧ (h.fr.length : Int) ≤ 255 := by have := HL4.out; omega
  have hR2 := Rd.lit w5.drew [(h.fr.length : Int)] (by simp) (fun z hz => by obtain rfl := List.mem_singleton.1 hz; exact hb82)
  have hO2 : (w5.drew.alloc (.cells (by8 [(h.fr.length : Int)]).toArray 5)).ownsRow w1.heap.size 5 1 v5 _ (by8 ([Z] ++ big h.v 4 ++ [(h.to.length : Int)] ++ h.to)) := HO5.out.alloc _
  have hM2 : Below w.heap.size w (w5.drew.alloc (.cells (by8 [(h.fr.length : Int)]).toArray 5)) := HBW5.out.drew.trans ((below_alloc w5.drew _).mono HBW5.out.size)
  have hs92 : w1.heap.size ≤ (w5.drew.alloc (.cells (by8 [(h.fr.length : Int)]).toArray 5)).heap.size := by simp; omega
  have hl92 : h.fr.length ≤ 20 := HL4.out
  clear hb82
  go_region_held3 (fun w' => w'.cell? ⟨w.heap.size, 3, none⟩ = some (.slice a3 h.fr.length c3))
    (first | with_reducible exact y3 | with_reducible exact keepS (below_alloc _ _) y3 | with_reducible exact keepT hb3 hsz1 (keepS (below_alloc _ _) y3) | with_reducible exact keepT hb4 hsz1 (keepT hb3 hsz1 (keepS (below_alloc _ _) y3)))
    (first
      | (refine step_append_bytes (by rfl) _ _ (by rfl) w1.heap.size v5 _ _ (by rfl) hO2 _ _ (by rfl) hR2 ?_ hs92 ?_; (simp; try omega); intro v3 w3 hown3 hb3)
      | (refine step_append_bytes (by rfl) _ _ (by rfl) w1.heap.size v3 _ _ (by rfl) hown3 (.slice a3 h.fr.length c3) h.fr (by rfl) (Hr0.out.fr.below (hM2.trans (hb3.mono (Nat.le_of_lt hsz1)))) ?_ (Nat.le_trans hs92 hb3.size) ?_; (simp; omega); intro v4 w4 hown4 hb4))
  obtain ⟨v6, w6, e1, e2⟩ : ∃ (u : Value) (W : World), u = v4 ∧ W = w4 := ⟨_, _, rfl, rfl⟩
  subst e1; subst e2
  have HB6 := Lib.hid (((HB5.out.to (below_alloc w5 (.cells #[.int .u8 (h.fr.length : Int)] 5)).drew (by omega)).to hb3 hsz1).to hb4 hsz1)
  have HBW6 := Lib.hid ((hM2.trans (hb3.mono (Nat.le_of_lt hsz1))).trans (hb4.mono (Nat.le_of_lt hsz1)))
  have HO6 := Lib.hid hown4
  have hszw6 : w1.heap.size ≤ w6.heap.size := Nat.le_trans hs92 (Nat.le_trans hb3.size hb4.size)
  clear hown4 hown3 hb4 hb3 hR2 hO2 hM2 hs92 hl92 y3 hszw5
  have x0 := HB6.out.x0
  have x4 := HB6.out.x4
  have HBYT : Hid (Byt ([Z] ++ big h.v 4 ++ [(h.to.length : Int)] ++ h.to ++ [(h.fr.length : Int)] ++ h.fr)) := Lib.hid ((((((byt1 HZ.out).app (big_byt _ _)).app (byt1 (by have := HL3.out; omega))).app Hr0.out.to.byt).app (byt1 (by have := HL4.out; omega))).app Hr0.out.fr.byt)
  by_cases hk : h.k = 0
  · have k0 : (h.k == 0) = true := by simp [hk]
    have HK := Lib.hid hk
    clear hk
    go_wp2_with fail
    refine (give_any (Rd.of_own HO6.out HBYT.out).1 (Hr0.out.tk.below HBW6.out) (by have := HL3.out; have := HL4.out; simp [big_len]; omega) (by have := HL10.out; omega) (HT.out.below HBW6.out) (by have := HSW.out; omega)).mono ?_
    rintro e w7 ⟨v7, rfl, hown7, hb7⟩
    clear x0 x4
    have HB7 := Lib.hid (HB6.out.to hb7 (Nat.lt_of_lt_of_le hsz1 hszw6))
    have HBW7 := Lib.hid (HBW6.out.trans (hb7.mono HBW6.out.size))
    have HO7 := Lib.hid hown7
    have hszq : w1.heap.size ≤ w7.heap.size := Nat.le_trans hszw6 hb7.size
    have HBYT7 : Hid (Byt ([Z] ++ big h.v 4 ++ [(h.to.length : Int)] ++ h.to ++ [(h.fr.length : Int)] ++ h.fr ++ enc h.tk.length ++ h.tk)) := Lib.hid ((HBYT.out.app (enc_byt _)).app Hr0.out.tk.byt)
    clear hown7 hb7
    have y6 : w7.drew.cell? ⟨w.heap.size, 6, none⟩ = some (.int .i64 h.n) := HB7.out.x6
    have y7 : w7.drew.cell? ⟨w.heap.size, 7, none⟩ = some (.int .i64 h.w) := HB7.out.x7
    have hszp : w.heap.size < w7.drew.heap.size := Nat.lt_of_lt_of_le hsz1 hszq
    have hva := append_any (w := w7.drew) ((Rd.of_own HO7.out HBYT7.out).1.drew) (by have := HL3.out; have := HL4.out; have := HL10.out; have := enc_len h.tk.length; simp [big_len]; omega) (h.w + n) (HT.out.below HBW7.out).drew (by have := HSW.out; omega)
    have hsum : IntKind.i64.wrap (h.w + n) = h.w + n := IntWalk.i64_in _ (by omega)
    have HLEN : Hid (([Z] ++ big h.v 4 ++ [(h.to.length : Int)] ++ h.to ++ [(h.fr.length : Int)] ++ h.fr ++ enc h.tk.length ++ h.tk ++ enc (h.w + n)).length ≤ 100000) := Lib.hid (by have := HL3.out; have := HL4.out; have := HL10.out; have := enc_len h.tk.length; have := enc_len (h.w + n); simp [big_len]; omega)
    go_wp2_with fail
    go_region_held3 (fun w' => w'.cell? ⟨w.heap.size, 6, none⟩ = some (.int .i64 h.n) ∧ w'.cell? ⟨w.heap.size, 7, none⟩ = some (.int .i64 h.w))
      (first | with_reducible exact ⟨y6, y7⟩ | with_reducible exact ⟨keepT hb8 hszp y6, keepT hb8 hszp y7⟩ | with_reducible exact ⟨keepT hb9 hszp (keepT hb8 hszp y6), keepT hb9 hszp (keepT hb8 hszp y7)⟩)
      (first
        | (go_at_call 14; refine hva.mono ?_; rintro e w8 ⟨v8, rfl, hown8, hb8⟩; have hfa := fappend_any (own_len (n := ([Z] ++ big h.v 4 ++ [(h.to.length : Int)] ++ h.to ++ [(h.fr.length : Int)] ++ h.fr ++ enc h.tk.length ++ h.tk ++ enc (h.w + n)).length) hown8 List.length_append.symm) hb8.size HLEN.out h.n f8' HN9.out k HK4.out; rw [← HKW.out] at hfa)
        | (go_at_call 12; refine hfa.mono ?_; rintro e w9 ⟨v9, rfl, hown9, hb9⟩))
    clear hsum
    go_wp2_with fail
    go_ret
    refine ⟨_, rfl, ?_, ?_⟩
    · rw [HW.out, if_pos HK.out]
      have hown9' := own_mono hown9 (Nat.le_of_lt hszp)
      have e9 : [Z] ++ big h.v 4 ++ [(h.to.length : Int)] ++ h.to ++ [(h.fr.length : Int)] ++ h.fr ++ enc h.tk.length ++ h.tk ++ enc (h.w + n) ++ big h.n k = [Z] ++ big h.v 4 ++ [(h.to.length : Int)] ++ h.to ++ [(h.fr.length : Int)] ++ h.fr ++ (enc h.tk.length ++ h.tk) ++ enc (h.w + n) ++ big h.n k := by simp
      rw [e9] at hown9'
      exact own_len hown9' (by simp [big_len]; omega)
    · exact (HBW7.out.drew.trans (hb8.mono (Nat.le_of_lt hszp))).trans (hb9.mono (Nat.le_of_lt hszp))
  · have k0 : (h.k == 0) = false := beq_eq_false_iff_ne.2 hk
    have HK := Lib.hid hk
    have hszq : w1.heap.size ≤ w6.heap.size := hszw6
    clear hk x4
    have y6 : w6.drew.cell? ⟨w.heap.size, 6, none⟩ = some (.int .i64 h.n) := HB6.out.x6
    have y7 : w6.drew.cell? ⟨w.heap.size, 7, none⟩ = some (.int .i64 h.w) := HB6.out.x7
    have hszp : w.heap.size < w6.drew.heap.size := Nat.lt_of_lt_of_le hsz1 hszq
    have hva := append_any (w := w6.drew) ((Rd.of_own HO6.out HBYT.out).1.drew) (by have := HL3.out; have := HL4.out; have := HL10.out; have := enc_len h.tk.length; simp [big_len]; omega) (h.w + n) (HT.out.below HBW6.out).drew (by have := HSW.out; omega)
    have hsum : IntKind.i64.wrap (h.w + n) = h.w + n := IntWalk.i64_in _ (by omega)
    have HLEN : Hid (([Z] ++ big h.v 4 ++ [(h.to.length : Int)] ++ h.to ++ [(h.fr.length : Int)] ++ h.fr ++ enc (h.w + n)).length ≤ 100000) := Lib.hid (by have := HL3.out; have := HL4.out; have := HL10.out; have := enc_len h.tk.length; have := enc_len (h.w + n); simp [big_len]; omega)
    go_wp2_with fail
    go_region_held3 (fun w' => w'.cell? ⟨w.heap.size, 6, none⟩ = some (.int .i64 h.n) ∧ w'.cell? ⟨w.heap.size, 7, none⟩ = some (.int .i64 h.w))
      (first | with_reducible exact ⟨y6, y7⟩ | with_reducible exact ⟨keepT hb8 hszp y6, keepT hb8 hszp y7⟩ | with_reducible exact ⟨keepT hb9 hszp (keepT hb8 hszp y6), keepT hb9 hszp (keepT hb8 hszp y7)⟩)
      (first
        | (go_at_call 14; refine hva.mono ?_; rintro e w8 ⟨v8, rfl, hown8, hb8⟩; have hfa := fappend_any (own_len (n := ([Z] ++ big h.v 4 ++ [(h.to.length : Int)] ++ h.to ++ [(h.fr.length : Int)] ++ h.fr ++ enc (h.w + n)).length) hown8 List.length_append.symm) hb8.size HLEN.out h.n f8' HN9.out k HK4.out; rw [← HKW.out] at hfa)
        | (go_at_call 12; refine hfa.mono ?_; rintro e w9 ⟨v9, rfl, hown9, hb9⟩))
    clear hsum
    go_wp2_with fail
    go_ret
    refine ⟨_, rfl, ?_, ?_⟩
    · rw [HW.out, if_neg HK.out]
      have hown9' := own_mono hown9 (Nat.le_of_lt hszp)
      have e9 : [Z] ++ big h.v 4 ++ [(h.to.length : Int)] ++ h.to ++ [(h.fr.length : Int)] ++ h.fr ++ enc (h.w + n) ++ big h.n k = [Z] ++ big h.v 4 ++ [(h.to.length : Int)] ++ h.to ++ [(h.fr.length : Int)] ++ h.fr ++ [] ++ enc (h.w + n) ++ big h.n k := by simp
      rw [e9] at hown9'
      exact own_len hown9' (by simp [big_len]; omega)
    · exact (HBW6.out.drew.trans (hb8.mono (Nat.le_of_lt hszp))).trans (hb9.mono (Nat.le_of_lt hszp))

set_option maxRecDepth 20000 in
set_option maxHeartbeats 2000000 in
theorem write_none (w : World) (h : Hv) (n : Int) (a2 : Option Addr) (c2 : Nat) (a3 : Option Addr) (c3 : Nat) (a4 : Option Addr) (c4 : Nat) (hl2 : h.to.length ≤ 1000) (hl3 : h.fr.length ≤ 1000) (hl4 : h.tk.length ≤ 1000) (hX : rightB h = false ∨ n < 0 ∨ 16384 < n) :
    Calls Tryd.prog 5 #[.agg #[.int .i64 h.k, .int .i64 h.v, .slice a2 h.to.length c2, .slice a3 h.fr.length c3, .slice a4 h.tk.length c4, .int .i64 h.p, .int .i64 h.n, .int .i64 h.w], .int .i64 n] w fun e w' => e = .returned (.slice none 0 0) ∧ Below w.heap.size w w' := by
  have hB := below_alloc w (.cells #[.int .i64 h.k, .int .i64 h.v, .slice a2 h.to.length c2, .slice a3 h.fr.length c3, .slice a4 h.tk.length c4, .int .i64 h.p, .int .i64 h.n, .int .i64 h.w] 29)
  have hR := right_any (w.alloc (.cells #[.int .i64 h.k, .int .i64 h.v, .slice a2 h.to.length c2, .slice a3 h.fr.length c3, .slice a4 h.tk.length c4, .int .i64 h.p, .int .i64 h.n, .int .i64 h.w] 29)) h a2 c2 a3 c3 a4 c4 hl2 hl3 hl4
  by_cases hr : rightB h = true
  · rw [hr] at hR
    by_cases hn : n < 0
    · have d1 : decide (n < 0) = true := decide_eq_true hn
      clear hX hr
      go_enter Tryd.func5, Tryd.ntmps5
      go_wp2_with (go_at_call 11; refine hR.mono ?_; rintro e w1 ⟨rfl, hb1⟩)
      go_ret
      exact ⟨rfl, hB.trans (hb1.mono (by simp))⟩
    · have hn2 : 16384 < n := by
        rcases hX with h | h | h
        · rw [hr] at h; cases h
        · exact absurd h hn
        · exact h
      have d1 : decide (n < 0) = false := decide_eq_false hn
      have d2 : decide (16384 < n) = true := decide_eq_true hn2
      clear hX hr
      go_enter Tryd.func5, Tryd.ntmps5
      go_wp2_with (go_at_call 11; refine hR.mono ?_; rintro e w1 ⟨rfl, hb1⟩)
      go_ret
      exact ⟨rfl, hB.trans (hb1.mono (by simp))⟩
  · have hr' : rightB h = false := by simpa using hr
    rw [hr'] at hR
    clear hX hr hr'
    go_enter Tryd.func5, Tryd.ntmps5
    go_wp2_with (go_at_call 11; refine hR.mono ?_; rintro e w1 ⟨rfl, hb1⟩)
    go_ret
    exact ⟨rfl, hB.trans (hb1.mono (by simp))⟩
#print axioms write_none
#print axioms write_long
#print axioms write_short
end Go.Proofs.YtgnjmmaahpngpaaDoor
