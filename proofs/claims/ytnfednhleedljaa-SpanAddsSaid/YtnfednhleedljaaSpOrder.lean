/- In whatever order fewer than 32 numbers are added, the set is the same. -/
import Derived.Test.YtnfednhleedljaaSpLaw
namespace Go.Proofs.Ytnfednhleedljaa
open Go Go.RowKit

theorem inS_cons {p : Sp} {r : List Sp} {m : Int} : inS (p :: r) m ↔ (p.1 ≤ m ∧ m ≤ p.2) ∨ inS r m := by
  unfold inS; simp
/-- Spans that hold the same numbers are the same. -/
theorem wf_ext : ∀ (S T : List Sp), WF S → WF T → (∀ m, inS S m ↔ inS T m) → S = T
  | [], [], _, _, _ => rfl
  | [], q :: r, _, hT, h => by
    have := hT.tail
    have hx := (h q.2).2 (inS_cons.2 (Or.inl ⟨by omega, by omega⟩))
    obtain ⟨_, hm, _⟩ := hx; cases hm
  | p :: r, [], hS, _, h => by
    have := hS.tail
    have hx := (h p.2).1 (inS_cons.2 (Or.inl ⟨by omega, by omega⟩))
    obtain ⟨_, hm, _⟩ := hx; cases hm
  | p :: r, q :: r', hS, hT, h => by
    have h1 := hS.tail
    have h2 := hT.tail
    have low1 : ∀ m, inS r m → m + 1 < p.1 := fun m ⟨x, hx, hm⟩ => by have := h1.2.1 x hx; omega
    have low2 : ∀ m, inS r' m → m + 1 < q.1 := fun m ⟨x, hx, hm⟩ => by have := h2.2.1 x hx; omega
    have e2 : p.2 = q.2 := by
      have a := (h p.2).1 (inS_cons.2 (Or.inl ⟨by omega, by omega⟩))
      have b := (h q.2).2 (inS_cons.2 (Or.inl ⟨by omega, by omega⟩))
      rcases inS_cons.1 a with a | a <;> rcases inS_cons.1 b with b | b
      · omega
      · have := low1 _ b; omega
      · have := low2 _ a; omega
      · have := low1 _ b; have := low2 _ a; omega
    have e1 : p.1 = q.1 := by
      rcases Int.lt_trichotomy p.1 q.1 with hlt | he | hlt
      · have a := (h (q.1 - 1)).1 (inS_cons.2 (Or.inl ⟨by omega, by omega⟩))
        rcases inS_cons.1 a with a | a
        · omega
        · have := low2 _ a; omega
      · exact he
      · have a := (h (p.1 - 1)).2 (inS_cons.2 (Or.inl ⟨by omega, by omega⟩))
        rcases inS_cons.1 a with a | a
        · omega
        · have := low1 _ a; omega
    have e : p = q := Prod.ext e1 e2
    subst e
    have ht : ∀ m, inS r m ↔ inS r' m := fun m => by
      constructor
      · intro hm
        have hl := low1 m hm
        rcases inS_cons.1 ((h m).1 (inS_cons.2 (Or.inr hm))) with a | a
        · omega
        · exact a
      · intro hm
        have hl := low2 m hm
        rcases inS_cons.1 ((h m).2 (inS_cons.2 (Or.inr hm))) with a | a
        · omega
        · exact a
    rw [wf_ext r r' h1.1 h2.1 ht]

/-- The set of fewer than 32 numbers. -/
def Few (L : List Int) (s : Set0) : Prop := OkS s ∧ s.2 = 0 ∧ s.1.length ≤ L.length ∧ ∀ m, inS s.1 m ↔ m ∈ L ∧ 0 ≤ m ∧ m ≤ 4611686018427387903
theorem few_nil : Few [] ([], 0) := ⟨OkS.nil, rfl, Nat.le_refl _, fun m => ⟨fun ⟨_, h, _⟩ => (by cases h), fun h => by cases h.1⟩⟩
theorem few_add {L M : List Int} {s : Set0} {n : Int} (h : Few L s) (hl : L.length < 31) (hM : M.length = L.length + 1) (hm : ∀ m, m ∈ M ↔ m ∈ L ∨ m = n) : Few M (addS s n) := by
  obtain ⟨h1, h2, h3, h4⟩ := h
  unfold addS
  cases hb : okB s n with
  | true =>
    have h5 := ok_mid h1 hb
    have hk : keepS (midS s.1 n) s.2 = (midS s.1 n, s.2) := by unfold keepS; rw [if_neg (by omega)]
    have h6 := okB_iff.1 hb
    rw [if_pos rfl, hk]
    refine ⟨⟨h5.1, by simp only; omega, h1.2.2⟩, h2, by simp only; omega, fun m => ?_⟩
    rw [h5.2.1 m, h4 m, hm m]
    constructor
    · rintro (⟨a, b⟩ | rfl)
      · exact ⟨Or.inl a, b⟩
      · exact ⟨Or.inr rfl, h6.1, h6.2.1⟩
    · rintro ⟨a | rfl, b⟩
      · exact Or.inl ⟨a, b⟩
      · exact Or.inr rfl
  | false =>
    rw [if_neg (by simp)]
    refine ⟨h1, h2, by omega, fun m => ?_⟩
    rw [h4 m, hm m]
    constructor
    · rintro ⟨a, b⟩; exact ⟨Or.inl a, b⟩
    · rintro ⟨a | rfl, b⟩
      · exact ⟨a, b⟩
      · cases hc : hasB s.1 m with
        | true => exact (h4 m).1 ((hasB_iff h1.1).1 hc)
        | false =>
          have := okB_iff.2 (⟨b.1, b.2, by omega, hc⟩ : 0 ≤ m ∧ m ≤ 4611686018427387903 ∧ s.2 ≤ m ∧ hasB s.1 m = false)
          rw [this] at hb; cases hb
theorem few_one {L : List Int} {s t : Set0} (h : Few L s) (h' : Few L t) : s.1 = t.1 :=
  wf_ext _ _ h.1.1 h'.1.1 fun m => (h.2.2.2 m).trans (h'.2.2.2 m).symm

/-- A row of spans lies in no set's own block. -/
theorem Rs.apart {w : World} {v x y : Value} {S : List Sp} {B : Nat} {T : TypeId} (h : Rs w v S) (hb : w.heap[B]? = some (.cells #[x, y] T (0, 0))) (hx : ∃ a n c, x = .slice a n c) : S ≠ [] → v.ownBlock ≠ some B := by
  intro hne e
  obtain ⟨a, n, c, rfl⟩ := hx
  rcases h.cases with ⟨h1, _⟩ | ⟨b, off, cap, rfl, h1, _, _, _, h5⟩
  · exact hne h1
  · simp only [Value.ownBlock, Option.some.injEq] at e
    subst e
    have h0 := h5 0 h1
    have e0 : w.cell? ⟨b, off + 0 * 2, none⟩ = #[Value.slice a n c, y][off + 0 * 2]? := cell_of_row _ b _ _ _ (0, 0) hb
    have e1 : w.cell? ⟨b, off + 0 * 2 + 1, none⟩ = #[Value.slice a n c, y][off + 0 * 2 + 1]? := cell_of_row _ b _ _ _ (0, 0) hb
    rw [e0, e1] at h0
    match off, h0 with
    | 0, h0 => simp at h0
    | off + 1, h0 => simp at h0
theorem Sn.other {w w' : World} {B T : Nat} {s t : Set0} (h : Sn w T t) (hB : Sn w B s) (hb : But B w w') (hn : T ≠ B) : Sn w' T t := by
  obtain ⟨v, h1, h2, h3, h4⟩ := h.box
  obtain ⟨v', g1, g2, _⟩ := hB.box
  obtain ⟨a, c, e⟩ := g2.out
  refine ⟨h.ok, v, by rw [hb.block T (blk_lt h1) hn]; exact h1, h2.but hb (h2.apart g1 ⟨a, _, c, e⟩), h3, h4⟩
/-- A slice that came in: empty, or its cells lie so. -/
def Came (w : World) (ao : Option Addr) (l : List Int) : Prop := l = [] ∨ ∃ b off, ao = some ⟨b, off, none⟩ ∧ ∀ j, j < l.length → w.cell? ⟨b, off + j, none⟩ = some (.int .i64 (l.getD j 0))
theorem came_of {w : World} {v : Value} {l : List Int} (h : Rd .i64 w v l) : ∃ ao cap, v = .slice ao l.length cap ∧ Came w ao l := by
  rcases h.cases with ⟨rfl, ao, cap, rfl, _⟩ | ⟨b, off, cap, rfl, _, _, _, _, h5⟩
  · exact ⟨ao, cap, rfl, Or.inl rfl⟩
  · exact ⟨_, cap, rfl, Or.inr ⟨b, off, rfl, h5⟩⟩
theorem cells_keep {w w' : World} {a : Addr} {x : Value} (h : w.cell? a = some x) (hb : Below w.heap.size w w') : w'.cell? a = some x := (hb.cell (cell_lt h)).trans h
/-- Both sets. -/
def Pair (w0 w : World) (s t : Set0) : Prop := Sn w w0.heap.size s ∧ Sn w (w0.heap.size + 1) t ∧ Below w0.heap.size w0 w
theorem pair_new (w0 : World) : Pair w0 ((w0.alloc (.cells #[.slice none 0 0, .int .i64 0] 26)).alloc (.cells #[.slice none 0 0, .int .i64 0] 26)) ([], 0) ([], 0) :=
  ⟨(set_new w0).below (below_alloc _ _), by have := set_new (w0.alloc (.cells #[.slice none 0 0, .int .i64 0] 26)); simpa using this, ((Below.refl _ _).alloc (Nat.le_refl _) _).alloc (by simp) _⟩
theorem pair_one {w0 w w1 : World} {s t u : Set0} (h : Pair w0 w s t) (h1 : Sn w1 w0.heap.size u) (hb : But w0.heap.size w w1) : Pair w0 w1 u t :=
  ⟨h1, h.2.1.other h.1 hb (by omega), hb.below h.2.2 (Nat.le_refl _) h.2.2.size⟩
theorem pair_two {w0 w w1 : World} {s t u : Set0} (h : Pair w0 w s t) (h1 : Sn w1 (w0.heap.size + 1) u) (hb : But (w0.heap.size + 1) w w1) : Pair w0 w1 s u :=
  ⟨h.1.other h.2.1 hb (by omega), h1, hb.below h.2.2 (by omega) h.2.2.size⟩
theorem take_mem {l : List Int} {k : Nat} (hk : k < l.length) : ∀ m, m ∈ l.take (k + 1) ↔ m ∈ l.take k ∨ m = l.getD k 0 := fun m => by
  rw [List.take_succ_eq_append_getElem hk, List.mem_append, List.mem_singleton]; simp [List.getD, hk]
theorem drop_mem {l : List Int} {k : Nat} (hk : k < l.length) : ∀ m, m ∈ l.drop (l.length - (k + 1)) ↔ m ∈ l.drop (l.length - k) ∨ m = l.getD (l.length - 1 - k) 0 := fun m => by
  have h1 : l.length - (k + 1) < l.length := by omega
  rw [List.drop_eq_getElem_cons h1, show l.length - (k + 1) + 1 = l.length - k by omega, show l.length - 1 - k = l.length - (k + 1) by omega]
  have h2 : l.getD (l.length - (k + 1)) 0 = l[l.length - (k + 1)] := by simp [List.getD, h1]
  rw [h2]
  simp only [List.mem_cons]
  exact Or.comm

set_option maxHeartbeats 4000000 in
theorem order_some {w0 : World} {ao : Option Addr} {cap : Nat} {l : List Int} (hl : l.length ≤ 31) (cl : Came w0 ao l) :
    Calls Try.prog 5 #[.slice ao l.length cap] w0 fun e w' => e = .returned (.bool true) ∧ Below w0.heap.size w0 w' := by
  have h0 := pair_new w0
  have hl' : (l.length : Int) ≤ 31 := by omega
  go_enter Try.func5, Try.ntmps5
  go_wp2_with fail
  go_loopw [5] (fun i wr => ∃ (k : Nat) (s t : Set0), i = .int .i64 k ∧ k ≤ l.length ∧ Pair w0 wr s t ∧ Few (l.take k) s ∧ Few (l.drop (l.length - k)) t) (fun i _ => l.length - (intOf i).toNat)
  case atStart => exact ⟨0, _, _, rfl, by omega, h0, few_nil, by simpa using few_nil⟩
  case round =>
    obtain ⟨k, s, t, rfl, hk, hP, hs, ht⟩ := hrel
    have hk' : (k : Int) ≤ (l.length : Int) := by omega
    clear h0
    by_cases hlt : k < l.length
    · have hlt' : (k : Int) < (l.length : Int) := by omega
      rcases cl with e | ⟨b, off, rfl, hcell⟩
      · rw [e] at hlt; simp at hlt
      obtain ⟨j, hj⟩ : ∃ j, l.length - 1 - k = j := ⟨_, rfl⟩
      have hji : (l.length : Int) - 1 - (k : Int) = (j : Int) := by omega
      have hjl : j < l.length := by omega
      have hjl' : (j : Int) < (l.length : Int) := by omega
      have hx := cells_keep (hcell k hlt) hP.2.2
      have hy0 := hcell j hjl
      have hs' := Lib.hid (few_add (M := l.take (k + 1)) (n := l.getD k 0) hs (by rw [List.length_take]; omega) (by rw [List.length_take, List.length_take]; omega) (take_mem hlt))
      have ht' := Lib.hid (few_add (M := l.drop (l.length - (k + 1))) (n := l.getD j 0) ht (by rw [List.length_drop]; omega) (by rw [List.length_drop, List.length_drop]; omega) (by have := drop_mem hlt; rwa [hj] at this))
      generalize l.getD k 0 = x at *
      generalize l.getD j 0 = y at *
      have HJ := Lib.hid hji
      have HP := Lib.hid hP
      have ha := add_any hP.1 x
      clear hcell hs ht hj hji hP
      go_wp2_with fail
      refine ha.mono ?_
      rintro e w1 ⟨rfl, hA1, hA2⟩
      have hP1 := Lib.hid (pair_one HP.out hA1 hA2)
      have hy := cells_keep hy0 hP1.out.2.2
      have hji := HJ.out
      have ha2 := add_any hP1.out.2.1 y
      clear ha hA1 hA2
      go_wp2_with fail
      refine ha2.mono ?_
      rintro e w2 ⟨rfl, hA1, hA2⟩
      have hP2 := Lib.hid (pair_two hP1.out hA1 hA2)
      clear ha2 hA1 hA2 hji
      go_wp2_with fail
      go_roundw
      case rel => exact ⟨k + 1, _, _, by go_num, by omega, hP2.out, hs'.out, ht'.out⟩
      case measure => simp [intOf]; omega
    · obtain rfl : k = l.length := by omega
      rw [List.take_of_length_le (Nat.le_refl _)] at hs
      rw [Nat.sub_self, List.drop_zero] at ht
      have he := few_one hs ht
      have hss := spans_any hP.1
      have hb0 := hP.2.2
      have HT := Lib.hid hP.2.1
      have hln : s.1.length ≤ 32 := hs.1.2.1
      clear hs ht hP hk hlt cl
      go_wp2_with fail
      refine hss.mono ?_
      rintro e w1 ⟨v1, rfl, ho1, hb1⟩
      have htt := spans_any (HT.out.below hb1)
      have H1 := Lib.hid (Rs.of_own ho1).1
      have hB1 := hb0.trans (hb1.mono hb0.size)
      clear hss ho1 hb1 hb0
      go_wp2_with fail
      refine htt.mono ?_
      rintro e w2 ⟨v2, rfl, ho2, hb2⟩
      have h2 := (Rs.of_own ho2).1
      have h1 := H1.out.below hb2
      have hB2 := hB1.trans (hb2.mono hB1.size)
      rw [← he] at h2
      clear htt ho2 hb2 H1 hB1 HT he
      generalize s.1 = S at *
      rcases h1.cases with ⟨rfl, bo, cp, rfl, _⟩ | ⟨b1, o1, c1, rfl, g1, _, _, _, h5⟩
      · obtain ⟨co, cp2, rfl⟩ := h2.out
        clear h1 h2
        go_wp2_with fail
        go_loop [8] (fun i => i = .int .i64 0) (fun _ => 0)
        case atStart => rfl
        case round =>
          subst hrel
          go_wp2_with (go_at_call 15; refine (awake_any _).mono ?_; rintro e w6 ⟨rfl, hb6⟩)
          go_ret
          exact ⟨rfl, hB2.trans (hb6.mono hB2.size)⟩
      · rcases h2.cases with ⟨rfl, _⟩ | ⟨b2, o2, c2, rfl, _, _, _, _, g5⟩
        · simp at g1
        have H5 := Lib.hid h5
        have G5 := Lib.hid g5
        have hln' : (S.length : Int) ≤ 32 := by omega
        clear h1 h2 h5 g5
        go_wp2_with fail
        go_loopw [8] (fun i wr => ∃ k m : Nat, i = .int .i64 k ∧ k ≤ S.length ∧ wr = w2.drewN m) (fun i _ => S.length - (intOf i).toNat)
        case atStart => exact ⟨0, 0, rfl, by omega, rfl⟩
        case round =>
          obtain ⟨k, m, rfl, hk, rfl⟩ := hrel
          have hk' : (k : Int) ≤ (S.length : Int) := by omega
          by_cases hlt : k < S.length
          · have hlt' : (k : Int) < (S.length : Int) := by omega
            obtain ⟨x1, x2⟩ := H5.out k hlt
            obtain ⟨y1, y2⟩ := G5.out k hlt
            generalize (S.getD k (0, 0)).1 = x at *
            generalize (S.getD k (0, 0)).2 = y at *
            go_wp2_with fail
            go_quiet (fail)
            go_wp2_with fail
            go_roundw
            case rel => exact ⟨k + 1, _, by go_num, by omega, rfl⟩
            case measure => simp [intOf]; omega
          · obtain rfl : k = S.length := by omega
            go_wp2_with (go_at_call 15; refine (awake_any _).mono ?_; rintro e w6 ⟨rfl, hb6⟩)
            go_ret
            exact ⟨rfl, (hB2.trans ((drewN_below _ _).mono hB2.size)).trans (hb6.mono (by simpa using hB2.size))⟩
theorem order_long {w0 : World} {ao : Option Addr} {n cap : Nat} (h : 31 < n) : Calls Try.prog 5 #[.slice ao n cap] w0 fun e w' => e = .returned (.bool true) ∧ Below w0.heap.size w0 w' := by
  have h' : (31 : Int) < (n : Int) := by omega
  clear h
  go_enter Try.func5, Try.ntmps5
  go_wp2_with fail
  go_ret
  exact ⟨rfl, Below.refl _ _⟩
theorem order_walk {w0 : World} {v : Value} {l : List Int} (hr : Rd .i64 w0 v l) : Calls Try.prog 5 #[v] w0 fun e w' => e = .returned (.bool true) ∧ Below w0.heap.size w0 w' := by
  obtain ⟨ao, cap, rfl, cl⟩ := came_of hr
  by_cases h : l.length ≤ 31
  · exact order_some h cl
  · exact order_long (by omega)
end Go.Proofs.Ytnfednhleedljaa
