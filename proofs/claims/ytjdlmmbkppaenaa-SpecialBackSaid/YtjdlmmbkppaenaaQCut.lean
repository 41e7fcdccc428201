/- special: cutting bytes behind one another by a closure over the place; behind the end there are zeros. -/
import Derived.Test.YtjdlmmbkppaenaaQOf
import Derived.Laws.Cover3
namespace Go.Proofs.Ytjdlmmbkppaenaa
open Go Go.RowKit

/-- Nothing but the block B has changed of what was there. -/
structure But (B : Nat) (w w' : World) : Prop where
  os : w'.os = w.os
  tape : w'.tape = w.tape
  output : w'.output = w.output
  size : w.heap.size ≤ w'.heap.size
  block : ∀ k, k < w.heap.size → k ≠ B → w'.heap[k]? = w.heap[k]?
theorem But.refl (B : Nat) (w : World) : But B w w := ⟨rfl, rfl, rfl, Nat.le_refl _, fun _ _ _ => rfl⟩
theorem But.trans {B : Nat} {a b c : World} (h : But B a b) (k : But B b c) : But B a c :=
  ⟨k.os.trans h.os, k.tape.trans h.tape, k.output.trans h.output, Nat.le_trans h.size k.size, fun i hi hn => (k.block i (Nat.lt_of_lt_of_le hi h.size) hn).trans (h.block i hi hn)⟩
theorem But.of_below {B : Nat} {w w' : World} (h : Below w.heap.size w w') : But B w w' := ⟨h.os, h.tape, h.output, h.size, fun k hk _ => h.block k hk⟩
theorem But.below {B : Nat} {w0 w w' : World} (h : But B w w') (hb : Below w0.heap.size w0 w) (hB : w0.heap.size ≤ B) : Below w0.heap.size w0 w' :=
  ⟨h.os.trans hb.os, h.tape.trans hb.tape, h.output.trans hb.output, Nat.le_trans hb.size h.size, fun k hk => (h.block k (Nat.lt_of_lt_of_le hk hb.size) (by omega)).trans (hb.block k hk)⟩
theorem But.set (w : World) (B i : Nat) (v : Value) : But B w (w.setCell ⟨B, i, none⟩ v) :=
  ⟨rfl, rfl, rfl, by simp [World.setCell], fun k _ hn => Below.heap_setCell _ _ _ _ hn⟩
theorem But.drew {B : Nat} {w w' : World} (h : But B w w') : But B w w'.drew := ⟨h.os, h.tape, h.output, h.size, h.block⟩
theorem But.drewN {B : Nat} {w : World} : ∀ n, But B w (w.drewN n)
  | 0 => But.refl _ _
  | n + 1 => (But.drewN n).drew
/-- A slice's value that a cut can go through. -/
def Plain (v : Value) : Prop := v = .slice none 0 0 ∨ ∃ b off n cap, v = .slice (some ⟨b, off, none⟩) n cap
/-- The number that bytes are, the greatest first, behind what was there. -/
def bigv : List Int → Int → Int
  | [], a => a
  | x :: r, a => bigv r (256 * a + x)
theorem bigv_snoc (l : List Int) (x a : Int) : bigv (l ++ [x]) a = 256 * bigv l a + x := by
  induction l generalizing a with
  | nil => rfl
  | cons y r ih => simp only [List.cons_append, bigv]; exact ih _
theorem bigv_bd {l : List Int} (h : Byt l) : 0 ≤ bigv l 0 ∧ bigv l 0 < 256 ^ l.length := by
  have key : ∀ (l : List Int) (a : Int), Byt l → 0 ≤ a → a * 256 ^ l.length ≤ bigv l a ∧ bigv l a < (a + 1) * 256 ^ l.length := by
    intro l
    induction l with
    | nil => intro a _ h0; simp [bigv]; omega
    | cons y r ih =>
      intro a hb h0
      have hy := hb y List.mem_cons_self
      have := ih (256 * a + y) (fun z hz => hb z (List.mem_cons_of_mem _ hz)) (by omega)
      simp only [bigv, List.length_cons, Int.pow_succ]
      generalize (256 : Int) ^ r.length = P at *
      have hP : 0 ≤ P := by
        rcases Int.lt_or_le P 0 with h | h
        · have h2 : (256 * a + y) * P < (256 * a + y + 1) * P := by omega
          have h3 : (256 * a + y + 1) * P = (256 * a + y) * P + P := by rw [Int.add_mul]; omega
          omega
        · exact h
      have e1 : a * (P * 256) = 256 * a * P := by rw [← Int.mul_assoc, Int.mul_comm (a * P) 256, Int.mul_assoc]
      have e2 : (a + 1) * (P * 256) = 256 * a * P + 256 * P := by rw [Int.add_mul, e1]; omega
      have e3 : (256 * a + y) * P = 256 * a * P + y * P := by rw [Int.add_mul]
      have e4 : (256 * a + y + 1) * P = 256 * a * P + y * P + P := by rw [Int.add_mul, e3]; omega
      have e5 : 0 ≤ y * P := Int.mul_nonneg hy.1 hP
      have e6 : y * P ≤ 255 * P := Int.mul_le_mul_of_nonneg_right hy.2 hP
      omega
  have := key l 0 h (Int.le_refl _)
  simpa using this
theorem rd_part {w : World} {ao : Option Addr} {cap : Nat} {zs : List Int} (h : Rd w (.slice ao zs.length cap) zs) (hp : Plain (.slice ao zs.length cap)) (t k : Nat) (ht : t + k ≤ zs.length) :
    Rd w (.slice (Option.map (fun x => x.add t) ao) k (cap - t)) ((zs.drop t).take k) ∧ Plain (.slice (Option.map (fun x => x.add t) ao) k (cap - t)) := by
  obtain ⟨ao', cap', e, h1, h2, h3, h4, h5⟩ := h
  simp only [Value.slice.injEq] at e
  obtain ⟨rfl, _, rfl⟩ := e
  have hl : ((zs.drop t).take k).length = k := by simp; omega
  rcases hp with hp | ⟨b, off, n', c', hp⟩
  · simp only [Value.slice.injEq] at hp
    obtain ⟨rfl, hz, rfl⟩ := hp
    have hk : k = 0 := by omega
    subst hk
    have ht0 : t = 0 := by omega
    subst ht0
    exact ⟨by simpa using Rd.nil w, .inl (by simp)⟩
  · simp only [Value.slice.injEq] at hp
    obtain ⟨rfl, _, _⟩ := hp
    have e : (⟨b, off, none⟩ : Addr).add t = ⟨b, off + t, none⟩ := Addr.add_lit _ _ _
    simp only [Option.map_some, e]
    refine ⟨⟨_, cap - t, by rw [hl], by omega, by omega, (fun h => by cases h), (h4.drop t).take k, fun a ha j hj => ?_⟩, .inr ⟨_, _, _, _, rfl⟩⟩
    cases ha
    rw [hl] at hj
    have := h5 _ rfl (t + j) (by omega)
    rw [Addr.add_lit] at this ⊢
    rw [show off + t + j = off + (t + j) from by omega, this]
    simp [List.getD, hj]
theorem rd_part0 {w : World} {ao : Option Addr} {cap : Nat} {zs : List Int} (h : Rd w (.slice ao zs.length cap) zs) (hp : Plain (.slice ao zs.length cap)) (t k : Nat) (ht : t + k ≤ zs.length) (hc : cap = t) :
    Rd w (.slice ao k 0) ((zs.drop t).take k) ∧ Plain (.slice ao k 0) := by
  obtain ⟨ao', cap', e, h1, h2, h3, h4, h5⟩ := h
  simp only [Value.slice.injEq] at e
  obtain ⟨rfl, _, rfl⟩ := e
  have hk : k = 0 := by omega
  subst hk
  rw [List.take_zero]
  refine ⟨⟨ao, 0, rfl, Nat.le_refl _, by omega, fun _ => rfl, Byt.nil, fun a _ j hj => by simp at hj⟩, ?_⟩
  rcases hp with hp | ⟨b, off, n', c', hp⟩
  · simp only [Value.slice.injEq] at hp
    obtain ⟨rfl, _⟩ := hp
    exact .inl rfl
  · simp only [Value.slice.injEq] at hp
    obtain ⟨rfl, _⟩ := hp
    exact .inr ⟨_, _, _, _, rfl⟩
/-- What is left of a slice, whichever way it is cut. -/
theorem rd_rest {w : World} {ao : Option Addr} {cap : Nat} {zs : List Int} (h : Rd w (.slice ao zs.length cap) zs) (hp : Plain (.slice ao zs.length cap)) (t : Nat) (ht : t ≤ zs.length) (o : Option Addr) (ho : o = Option.map (fun x => x.add t) ao ∨ cap = t ∧ o = ao) :
    Rd w (.slice o (zs.length - t) (cap - t)) (zs.drop t) := by
  have hl : (zs.drop t).take (zs.length - t) = zs.drop t := List.take_of_length_le (by simp)
  rcases ho with rfl | ⟨hc, rfl⟩
  · have := (rd_part h hp t (zs.length - t) (by omega)).1
    rw [hl] at this; exact this
  · have := (rd_part0 h hp t (zs.length - t) (by omega) hc).1
    rw [hl] at this
    have e : cap - t = 0 := by omega
    rw [e]; exact this

/-- copy of bytes to the head of a row that the call owns, as many as there is room for. -/
theorem wpList_copy_bytes2 {P : Program} {w : World} {ops : Array Oper} {rest : List Oper} {o : Oper} {a : Act} {Q : Exit → Act → World → Prop} (d s : Operand) (t : TypeId)
    (hgd : o.guard = none) (ho : o.op = .call { callee := .builtin .copy, args := #[d, s], argTypes := #[t, t] })
    (hinfo : (P.info? 5).map (fun i => (i.zero, i.size, i.bytes)) = some (some (.int .u8 0), 1, 1)) (ht : P.underlying t = some (.slice 5))
    (base g n : Nat) (xs : List Value) (hd : a.eval d = .slice (some ⟨g, 0, none⟩) n n) (hown : w.ownsRow base 5 1 (.slice (some ⟨g, 0, none⟩) n n) n xs)
    (xv : Value) (ys : List Int) (hx : a.eval s = xv) (hr : Rd w xv ys)
    (h : ∀ w', w'.ownsRow base 5 1 (.slice (some ⟨g, 0, none⟩) n n) n (by8 (ys.take n) ++ xs.drop (ys.take n).length) → Below base w w' → wpList P ops Q rest (a.put o.dst (.int .i64 (ys.take n).length)) w') : wpList P ops Q (o :: rest) a w := by
  obtain ⟨i, hi, hz0, hz1, hz2⟩ := info_parts hinfo
  obtain ⟨ao, cap, rfl, h1, h2, h3, _, hc⟩ := hr
  obtain ⟨hh, hl, hg, hm⟩ := own_block hown
  have hlen : (ys.take n).length ≤ n := by rw [List.length_take]; omega
  refine wpList_copy_splice hgd d s t t ho 5 ht (by simp [hi, hz1]) (some ⟨g, 0, none⟩) ao n n ys.length cap hd hx g 0 xs 5 hh (by8 (ys.take n)) (by rw [by8_len, List.length_take]; exact Nat.min_comm _ _) ?_ (by rw [by8_len]; omega) (by8_one _) base w (Below.refl _ _) hg ?_
  · intro hp
    refine ⟨rfl, ?_⟩
    cases ao with
    | none => have := h3 rfl; rw [by8_len, List.length_take] at hp; omega
    | some ad =>
      refine ⟨ad, rfl, fun j u hu => ?_⟩
      have hj : j < (ys.take n).length := by
        have := (List.getElem?_eq_some_iff.1 hu).1
        simpa [by8_len] using this
      rw [by8_get _ j hj] at hu
      cases hu
      rw [List.length_take] at hj
      have e : (ys.take n).getD j 0 = ys.getD j 0 := by simp only [List.getD]; rw [List.getElem?_take_of_lt (by omega)]
      rw [e]
      exact hc ad rfl j (by omega)
  · intro w' hw' hb
    have e : splice xs 0 (by8 (ys.take n)) = by8 (ys.take n) ++ xs.drop (ys.take n).length := by simp [splice, by8_len]
    have h' := hw'.out
    rw [e] at h'
    have := h w' (own_of_block h' (by rw [List.length_append, by8_len, List.length_drop]; omega) hg hm) hb
    simpa [by8_len, goInt] using this

/-- So many bytes from a place on; behind the end zeros. -/
def cutZ (zs : List Int) (t n : Nat) : List Int := (zs.drop t).take n ++ List.replicate (n - (zs.length - t)) 0
theorem cutZ_len (zs : List Int) (t n : Nat) : (cutZ zs t n).length = n := by unfold cutZ; simp; omega
theorem cutZ_byt {zs : List Int} (h : Byt zs) (t n : Nat) : Byt (cutZ zs t n) := by
  refine ((h.drop t).take n).app fun z hz => ?_
  rw [List.eq_of_mem_replicate hz]; omega
theorem own_keepQ {w w' : World} {base : Nat} {e : TypeId} {size : Nat} {v : Value} {n : Nat} {xs : List Value} (h : w.ownsRow base e size v n xs) (hb : ∀ g, v.ownBlock = some g → w'.heap[g]? = w.heap[g]?) : w'.ownsRow base e size v n xs := by
  obtain ⟨h1, h2⟩ := h
  refine ⟨h1, ?_⟩
  rcases h2 with h2 | ⟨g, cap, cur, rfl, hg, hh, r⟩
  · exact .inl h2
  · exact .inr ⟨g, cap, cur, rfl, hg, by rw [hb g rfl]; exact hh, r⟩
/-- The closures' boxes: the bytes', the place's. -/
structure Cq (w0 w : World) (v : Value) (B A t : Nat) : Prop where
  bel : Below w0.heap.size w0 w
  loB : w0.heap.size ≤ B
  loA : w0.heap.size ≤ A
  ne : B ≠ A
  bx : w.heap[B]? = some (.cells #[v] 22 (0, 0))
  ax : w.heap[A]? = some (.cells #[.int .i64 (t : Int)] 3 (0, 0))
theorem Cq.cells {w0 w : World} {v : Value} {B A t : Nat} (h : Cq w0 w v B A t) : w.cell? ⟨B, 0, none⟩ = some v ∧ w.cell? ⟨A, 0, none⟩ = some (.int .i64 (t : Int)) ∧ w.frozen? ⟨A, 0, none⟩ = false ∧ A < w.heap.size ∧ B < w.heap.size :=
  ⟨(cell_of_row _ B 0 _ _ (0, 0) h.bx).trans rfl, (cell_of_row _ A 0 _ _ (0, 0) h.ax).trans rfl, by simp [World.frozen?, h.ax], blk_lt' h.ax, blk_lt' h.bx⟩
theorem Cq.keep {w0 w w' : World} {v : Value} {B A t : Nat} (h : Cq w0 w v B A t) (hb : Below w.heap.size w w') : Cq w0 w' v B A t :=
  ⟨h.bel.trans (hb.mono h.bel.size), h.loB, h.loA, h.ne, (hb.block B (blk_lt' h.bx)).trans h.bx, (hb.block A (blk_lt' h.ax)).trans h.ax⟩
theorem Cq.set {w0 w : World} {v : Value} {B A t : Nat} (h : Cq w0 w v B A t) (s : Nat) : Cq w0 (w.setCell ⟨A, 0, none⟩ (.int .i64 (s : Int))) v B A s := by
  refine ⟨h.bel.setCell (p := ⟨A, 0, none⟩) h.loA _, h.loB, h.loA, h.ne, ?_, ?_⟩
  · rw [Below.heap_setCell w ⟨A, 0, none⟩ _ B h.ne]; exact h.bx
  · have e := heap_setCell_same w A 0 _ 3 (.int .i64 (s : Int)) h.ax
    simpa using e

theorem rd_rest0 {w : World} {ao : Option Addr} {cap : Nat} {zs : List Int} (h : Rd w (.slice ao zs.length cap) zs) (hp : Plain (.slice ao zs.length cap)) (t : Nat) (ht : t ≤ zs.length) (hc : cap = t) : Rd w (.slice ao (zs.length - t) 0) (zs.drop t) := by
  have := rd_rest h hp t ht ao (.inr ⟨hc, rfl⟩)
  have e : cap - t = 0 := by omega
  rw [e] at this; exact this
theorem rd_if {w : World} {ao : Option Addr} {cap : Nat} {zs : List Int} (h : Rd w (.slice ao zs.length cap) zs) : Rd w (.slice (if cap = zs.length then ao else Option.map (fun x => x.add zs.length) ao) 0 (cap - zs.length)) (zs.drop zs.length) := by
  obtain ⟨ao', cap', e, h1, h2, h3, _⟩ := h
  simp only [Value.slice.injEq] at e
  obtain ⟨rfl, _, rfl⟩ := e
  rw [List.drop_of_length_le (Nat.le_refl _)]
  refine ⟨_, cap - zs.length, rfl, Nat.zero_le _, by omega, fun hn => ?_, Byt.nil, fun a _ j hj => by simp at hj⟩
  by_cases hc : cap = zs.length
  · omega
  · rw [if_neg hc] at hn
    cases ao with
    | none => have := h3 rfl; omega
    | some a => cases hn
theorem cut_below {w w1 w2 : World} (b1 : Below w.heap.size w w1) (b2 : Below w.heap.size w1 w2) : Below w.heap.size w w2 := b1.trans b2
theorem drop_zeros {zs : List Int} {t n : Nat} : (madeCells (Value.int .u8 0).cells (n * 1)).toList.drop ((zs.drop t).take n).length = by8 (List.replicate (n - (zs.length - t)) 0) := by
  have e : (madeCells (Value.int .u8 0).cells n).toList = List.replicate n (.int .u8 0) := toList_madeCells_one _ n
  rw [Nat.mul_one, e]
  simp [by8]
  omega
/-- What is left behind a cut. -/
theorem cut_end {w0 w w2 : World} {v : Value} {zs : List Int} {B A t n : Nat} (h : Cq w0 w v B A t) (h2 : Cq w0 w2 v B A t) (b2 : Below w.heap.size w w2)
    (o2 : w2.ownsRow w.heap.size 5 1 (.slice (some ⟨w.heap.size, 0, none⟩) n n) n (by8 ((zs.drop t).take n) ++ (madeCells (Value.int .u8 0).cells (n * 1)).toList.drop ((zs.drop t).take n).length)) :
    ∃ pv, Ending.returned (.slice (some ⟨w.heap.size, 0, none⟩) n n) = .returned pv ∧ (w2.setCell ⟨A, 0, none⟩ (.int .i64 ((t : Int) + (n : Int)))).ownsRow w.heap.size 5 1 pv n (by8 (cutZ zs t n)) ∧ Cq w0 (w2.setCell ⟨A, 0, none⟩ (.int .i64 ((t : Int) + (n : Int)))) v B A (t + n) ∧ But A w (w2.setCell ⟨A, 0, none⟩ (.int .i64 ((t : Int) + (n : Int)))) := by
  have hA := h.cells.2.2.2.1
  refine ⟨_, rfl, ?_, ?_, (But.of_below b2).trans (But.set _ _ _ _)⟩
  · rw [drop_zeros, ← by8_app] at o2
    refine own_keepQ o2 fun g hg => ?_
    have := (o2.lt g hg).1
    exact Below.heap_setCell _ _ _ _ (by simp; omega)
  · have := h2.set (t + n)
    rwa [Int.natCast_add] at this
set_option maxRecDepth 20000 in
set_option maxHeartbeats 4000000 in
theorem cut_any {w0 w : World} {v : Value} {zs : List Int} {B A t : Nat} (hr : Rd w0 v zs) (hp : Plain v) (hl : zs.length ≤ 100000) (h : Cq w0 w v B A t) (ht : t ≤ 100000) (n : Nat) (hn : n ≤ 1000) :
    Calls Try.prog 54 #[.int .i64 (n : Int), .pointer (some ⟨B, 0, none⟩), .pointer (some ⟨A, 0, none⟩)] w fun e w' => ∃ pv, e = .returned pv ∧ w'.ownsRow w.heap.size 5 1 pv n (by8 (cutZ zs t n)) ∧ Cq w0 w' v B A (t + n) ∧ But A w w' := by
  obtain ⟨c0, c1, cf, hA, hB⟩ := h.cells
  obtain ⟨i, hi, hz0, hz1, hz2⟩ := info_parts info5
  have hr0 := hr
  obtain ⟨ao, cap, rfl, hc1, hc2, _⟩ := hr
  have hcm : cap ≤ 9223372036854775807 := by unfold maxLen at hc2; omega
  have H := Lib.hid h
  have HRP := Lib.hid (And.intro hr0 hp)
  have ht' : (t : Int) ≤ 100000 := by omega
  have hn' : (n : Int) ≤ 1000 := by omega
  clear hr0 hp h hc2
  rcases Nat.lt_trichotomy t zs.length with hlt | rfl | hgt
  · have hlt' : (t : Int) < (zs.length : Int) := by omega
    go_enter Try.func54, Try.ntmps54
    go_wp2_with (first
      | (at_make; refine wpList_make_full _ rfl _ _ 22 rfl w.heap.size 5 i (.int .u8 0) 1 Try.underlying22 hi hz0 hz1 .i64 .i64 _ _ n rfl rfl (by simp) (by simp) (by rw [hz2]; omega) (by unfold maxLen; omega) (Nat.le_refl _) ?_; intro w1 hown1 hg1; have H1 := Lib.hid (H.out.keep (below_made hg1)); have B1 := Lib.hid (below_made hg1); obtain ⟨d0, d1, df, hA1, hB1⟩ := H1.out.cells)
      | ((with_reducible refine wpList_copy_bytes2 (.tmp 8) (.tmp 14) 22 rfl rfl info5 Try.underlying22 w.heap.size w.heap.size n _ rfl hown1 _ (zs.drop t) rfl ?_ ?_); (first  | exact (rd_rest HRP.out.1 HRP.out.2 t (by omega) _ (.inl rfl)).below H1.out.bel | exact (rd_rest HRP.out.1 HRP.out.2 t (by omega) _ (.inr ⟨by omega, rfl⟩)).below H1.out.bel | exact (rd_rest0 HRP.out.1 HRP.out.2 t (by omega) (by omega)).below H1.out.bel); intro w2 hown2 hb2; have B2 := Lib.hid (cut_below B1.out hb2); have H2 := Lib.hid (H.out.keep B2.out); obtain ⟨g0, g1, gf, hA2, hB2⟩ := H2.out.cells; have O2 := Lib.hid hown2; clear hown2 hown1))
    go_ret
    exact cut_end (H.out) H2.out B2.out O2.out
  · have hle : (zs.length : Int) ≤ (cap : Int) := by omega
    go_enter Try.func54, Try.ntmps54
    go_wp2_with (first
      | (at_make; refine wpList_make_full _ rfl _ _ 22 rfl w.heap.size 5 i (.int .u8 0) 1 Try.underlying22 hi hz0 hz1 .i64 .i64 _ _ n rfl rfl (by simp) (by simp) (by rw [hz2]; omega) (by unfold maxLen; omega) (Nat.le_refl _) ?_; intro w1 hown1 hg1; have H1 := Lib.hid (H.out.keep (below_made hg1)); have B1 := Lib.hid (below_made hg1); obtain ⟨d0, d1, df, hA1, hB1⟩ := H1.out.cells)
      | ((with_reducible refine wpList_copy_bytes2 (.tmp 8) (.tmp 14) 22 rfl rfl info5 Try.underlying22 w.heap.size w.heap.size n _ rfl hown1 _ (zs.drop zs.length) rfl ?_ ?_); (exact (rd_if HRP.out.1).below H1.out.bel); intro w2 hown2 hb2; have B2 := Lib.hid (cut_below B1.out hb2); have H2 := Lib.hid (H.out.keep B2.out); obtain ⟨g0, g1, gf, hA2, hB2⟩ := H2.out.cells; have O2 := Lib.hid hown2; clear hown2 hown1))
    all_goals go_ret
    all_goals first | exact cut_end (H.out) H2.out B2.out O2.out | (have e : cap = zs.length := (by assumption); subst e; exact cut_end (H.out) H2.out B2.out O2.out)
  · have hgt' : (zs.length : Int) < (t : Int) := by omega
    have hle : (zs.length : Int) ≤ (cap : Int) := by omega
    have HDR : Hid (zs.drop zs.length = zs.drop t) := Lib.hid (by rw [List.drop_of_length_le (Nat.le_refl _), List.drop_of_length_le (by omega)])
    go_enter Try.func54, Try.ntmps54
    go_wp2_with (first
      | (at_make; refine wpList_make_full _ rfl _ _ 22 rfl w.heap.size 5 i (.int .u8 0) 1 Try.underlying22 hi hz0 hz1 .i64 .i64 _ _ n rfl rfl (by simp) (by simp) (by rw [hz2]; omega) (by unfold maxLen; omega) (Nat.le_refl _) ?_; intro w1 hown1 hg1; have H1 := Lib.hid (H.out.keep (below_made hg1)); have B1 := Lib.hid (below_made hg1); obtain ⟨d0, d1, df, hA1, hB1⟩ := H1.out.cells)
      | ((with_reducible refine wpList_copy_bytes2 (.tmp 8) (.tmp 14) 22 rfl rfl info5 Try.underlying22 w.heap.size w.heap.size n _ rfl hown1 _ (zs.drop zs.length) rfl ?_ ?_); (exact (rd_if HRP.out.1).below H1.out.bel); intro w2 hown2 hb2; have B2 := Lib.hid (cut_below B1.out hb2); have H2 := Lib.hid (H.out.keep B2.out); obtain ⟨g0, g1, gf, hA2, hB2⟩ := H2.out.cells; have O2 := Lib.hid hown2; clear hown2 hown1))
    all_goals go_ret
    all_goals first | exact cut_end (H.out) H2.out B2.out (by rw [← HDR.out]; exact O2.out) | (have e : cap = zs.length := (by assumption); subst e; exact cut_end (H.out) H2.out B2.out (by rw [← HDR.out]; exact O2.out))
end Go.Proofs.Ytjdlmmbkppaenaa
