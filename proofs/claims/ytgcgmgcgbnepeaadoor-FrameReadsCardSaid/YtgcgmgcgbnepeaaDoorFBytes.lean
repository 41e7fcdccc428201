/- fields: Bytes, Fixed, Number, Left, Taken, Of: what each tells, and where it panics. -/
import Derived.Test.YtgcgmgcgbnepeaaDoorFQ
import Derived.Laws.Cover3
namespace Go.Proofs.YtgcgmgcgbnepeaaDoor
open Go Go.RowKit

/-- The number that bytes are, the greatest first, behind what was there. -/
def bigv : List Int → Int → Int
  | [], a => a
  | x :: r, a => bigv r (256 * a + x)
theorem bigv_snoc (l : List Int) (x a : Int) : bigv (l ++ [x]) a = 256 * bigv l a + x := by
  induction l generalizing a with
  | nil => rfl
  | cons y r ih => simp only [List.cons_append, bigv]; exact ih _
theorem bigv_bd {l : List Int} (h : Byt l) : 0 ≤ bigv l 0 ∧ bigv l 0 < 256 ^ l.length := by
  have key : ∀ (l : List Int) (a : Int), Byt l → 0 ≤ a → a * 256 ^ l.length ≤ bigv l a ∧ bigv l a < (a + 1) * 256 ^ l.length := by
    intro l
    induction l with
    | nil => intro a _ h0; simp [bigv]; omega
    | cons y r ih =>
      intro a hb h0
      have hy := hb y List.mem_cons_self
      have := ih (256 * a + y) (fun z hz => hb z (List.mem_cons_of_mem _ hz)) (by omega)
      simp only [bigv, List.length_cons, Int.pow_succ]
      generalize (256 : Int) ^ r.length = P at *
      have hP : 0 ≤ P := by
        rcases Int.lt_or_le P 0 with h | h
        · have h2 : (256 * a + y) * P < (256 * a + y + 1) * P := by omega
          have h3 : (256 * a + y + 1) * P = (256 * a + y) * P + P := by rw [Int.add_mul]; omega
          omega
        · exact h
      have e1 : a * (P * 256) = 256 * a * P := by rw [← Int.mul_assoc, Int.mul_comm (a * P) 256, Int.mul_assoc]
      have e2 : (a + 1) * (P * 256) = 256 * a * P + 256 * P := by rw [Int.add_mul, e1]; omega
      have e3 : (256 * a + y) * P = 256 * a * P + y * P := by rw [Int.add_mul]
      have e4 : (256 * a + y + 1) * P = 256 * a * P + y * P + P := by rw [Int.add_mul, e3]; omega
      have e5 : 0 ≤ y * P := Int.mul_nonneg hy.1 hP
      have e6 : y * P ≤ 255 * P := Int.mul_le_mul_of_nonneg_right hy.2 hP
      omega
  have := key l 0 h (Int.le_refl _)
  simpa using this
theorem Rd.fits {w : World} {v : Value} {zs : List Int} (h : Rd w v zs) : ∃ ao cap, v = .slice ao zs.length cap ∧ zs.length ≤ 9223372036854775807 := by
  have h2 := h.len
  obtain ⟨ao, cap, rfl⟩ := h.shape
  exact ⟨ao, cap, rfl, h2⟩

theorem ra_own {w : World} {base : Nat} {v : Value} {n : Nat} {zs : List Int} (h : w.ownsRow base 5 1 v n (by8 zs)) (hz : Byt zs) : Ra base w v zs ∧ Plain v := by
  have hr := (Rd.of_own h hz).1
  rcases h.2 with ⟨rfl, _⟩ | ⟨g, cap, cur, rfl, hg, _⟩
  · exact ⟨⟨hr, fun a n cap e => by cases e⟩, .inl rfl⟩
  · exact ⟨⟨hr, fun a n cap e _ => by cases e; exact hg⟩, .inr ⟨_, _, _, _, rfl⟩⟩
set_option maxRecDepth 20000 in
set_option maxHeartbeats 2000000 in
theorem clone_any {w : World} {v : Value} {zs : List Int} (h : Rd w v zs) (hp : Plain v) (hl : zs.length ≤ 1000000) :
    Calls Tryd.prog 69 #[v] w fun e w' => ∃ v', e = .returned v' ∧ (Ra w.heap.size w' v' zs ∧ Plain v') ∧ Below w.heap.size w w' := by
  have hnil : ∀ (a : Option Addr) (l c : Nat) (w : World), (binOp .eql 26 (.slice a l c) (.slice none 0 0)).run Tryd.prog w = .ok (.bool a.isNone) w := fun a l c w => by
    simp [binOp, run_equal_slice_nil w 26 5 a l c Tryd.underlying26]
  rcases hp with rfl | ⟨b, off, n, cap, rfl⟩
  · have hz : zs = [] := by
      obtain ⟨_, _, e, _⟩ := h
      simp only [Value.slice.injEq] at e
      exact List.eq_nil_of_length_eq_zero e.2.1.symm
    subst hz
    go_enter Tryd.func69, Tryd.ntmps69
    go_wp2_with fail
    go_ret
    exact ⟨_, rfl, ⟨⟨Rd.nil w, fun _ _ _ h => by cases h⟩, .inl rfl⟩, Below.refl _ _⟩
  · obtain ⟨ao, c, e, h1, h2, h3, h4, h5⟩ := h
    simp only [Value.slice.injEq] at e
    obtain ⟨rfl, rfl, rfl⟩ := e
    have hr : Rd w (.slice (some ⟨b, off, none⟩) zs.length cap) zs := ⟨_, cap, rfl, h1, h2, h3, h4, h5⟩
    have hO := own_fresh w 5
    have hR := hr.alloc (.cells #[] 5)
    have hl' : 0 + zs.length ≤ 140737488355328 := by omega
    have hs : w.heap.size ≤ (w.alloc (.cells #[] 5)).heap.size := by simp
    have hB := below_alloc w (.cells #[] 5)
    clear h1 h2 h3 h4 h5 hr
    go_enter Tryd.func69, Tryd.ntmps69
    go_wp2_with (at_builtin; refine wpList_append_bytes (.tmp 5) (.tmp 6) 26 rfl rfl info5 Tryd.underlying26 w.heap.size _ 0 [] rfl hO _ zs rfl hR hl' hs ?_; intro v2 w2 hown2 hb2)
    go_ret
    simp only [List.nil_append, Nat.zero_add] at hown2
    refine ⟨_, rfl, ra_own hown2 hR.byt, hB.trans hb2⟩
theorem Fq.cells {w0 w : World} {B : Nat} {rest : List Int} {t : Nat} {short : Int} (h : Fq w0 w B rest t short) : ∃ ao cap, Rd w0 (.slice ao rest.length cap) rest ∧ w.cell? ⟨B, 0, none⟩ = some (.slice ao rest.length cap) ∧ w.cell? ⟨B, 1, none⟩ = some (.int .i64 (t : Int)) ∧ w.cell? ⟨B, 2, none⟩ = some (.int .i64 short) := by
  obtain ⟨rv, hb, hr, _⟩ := h.box
  obtain ⟨ao, cap, rfl⟩ := hr.shape
  exact ⟨ao, cap, hr, (cell_of_row _ B 0 _ _ (0, 0) hb).trans rfl, (cell_of_row _ B 1 _ _ (0, 0) hb).trans rfl, (cell_of_row _ B 2 _ _ (0, 0) hb).trans rfl⟩
set_option maxRecDepth 20000 in
theorem left_q {w0 w : World} {B : Nat} {rest : List Int} {t : Nat} {short : Int} (h : Fq w0 w B rest t short) :
    Calls Tryd.prog 45 #[.pointer (some ⟨B, 0, none⟩)] w fun e w' => e = .returned (.int .i64 (rest.length : Int)) ∧ w = w' := by
  obtain ⟨ao, cap, _, c0, _, _⟩ := h.cells
  clear h
  go_enter Tryd.func45, Tryd.ntmps45
  go_wp2_with fail
  go_ret
  exact ⟨rfl, rfl⟩
set_option maxRecDepth 20000 in
theorem of_q {w : World} {v : Value} {zs : List Int} {short : Int} (hr : Rd w v zs) (hp : Plain v) (hl : zs.length ≤ 1000000) :
    Calls Tryd.prog 30 #[v, .int .i64 short] w fun e w' => e = .returned (.pointer (some ⟨w.heap.size, 0, none⟩)) ∧ Fq w w' w.heap.size zs 0 short ∧ w' = w.alloc (.cells #[v, .int .i64 0, .int .i64 short] 78) := by
  have hF : Fq w (w.alloc (.cells #[v, .int .i64 0, .int .i64 short] 78)) w.heap.size zs 0 short := ⟨below_alloc _ _, Nat.le_refl _, by omega, v, heap_alloc_new _ _, hr, hp⟩
  obtain ⟨ao, cap, rfl⟩ := hr.shape
  clear hr hp hl
  go_enter Tryd.func30, Tryd.ntmps30
  go_wp2_with fail
  go_ret
  exact ⟨rfl, hF, rfl⟩
set_option maxRecDepth 20000 in
theorem bytes_q {w0 w : World} {B : Nat} {rest : List Int} {t : Nat} {short : Int} (h : Fq w0 w B rest t short) (k : Nat) (hk : k ≤ rest.length) :
    Calls Tryd.prog 64 #[.pointer (some ⟨B, 0, none⟩), .int .i64 (k : Int)] w fun e w' => ∃ v, e = .returned v ∧ (Ra w.heap.size w' v (rest.take k) ∧ Plain v) ∧ Fq w0 w' B (rest.drop k) (t + k) short ∧ But B w w' := by
  have hc := cut_q h k hk
  have hsum := h.sum
  have hl : (rest.take k).length ≤ 1000000 := by simp; omega
  clear h
  go_enter Tryd.func64, Tryd.ntmps64
  go_wp2_with fail
  refine hc.mono ?_
  rintro e w1 ⟨pv, rfl, ⟨hr, hp⟩, hF, hb⟩
  have hcl := clone_any (hr.below hF.bel) hp hl
  clear hr hp hl hc
  go_wp2_with fail
  refine hcl.mono ?_
  rintro e w2 ⟨v, rfl, ⟨hv, hp⟩, hb2⟩
  go_wp2_with fail
  go_ret
  exact ⟨_, rfl, ⟨hv.mono hb.size, hp⟩, hF.keep hb2, hb.trans (But.of_below hb2)⟩
set_option maxRecDepth 20000 in
theorem bytes_e {w0 w : World} {B : Nat} {rest : List Int} {t : Nat} {short : Int} (h : Fq w0 w B rest t short) (n : Int) (hn : (rest.length : Int) < n) :
    Calls Tryd.prog 64 #[.pointer (some ⟨B, 0, none⟩), .int .i64 n] w fun e w' => e = errPanic short ∧ But B w w' := by
  have hc := cut_e h n hn
  clear h hn
  go_enter Tryd.func64, Tryd.ntmps64
  go_wp2_with fail
  refine hc.mono ?_
  rintro e w1 ⟨he, hb⟩
  rw [errPanic] at he
  subst he
  go_wp2_with fail
  exact ⟨rfl, rfl, hb⟩
set_option maxRecDepth 20000 in
set_option maxHeartbeats 1000000 in
theorem fixed_q {w0 w : World} {B : Nat} {rest : List Int} {t : Nat} {short : Int} (h : Fq w0 w B rest t short) (k : Nat) (h1 : 1 ≤ k) (h7 : k ≤ 7) (hk : k ≤ rest.length) :
    Calls Tryd.prog 46 #[.pointer (some ⟨B, 0, none⟩), .int .i64 (k : Int)] w fun e w' => e = .returned (.int .i64 (bigv (rest.take k) 0)) ∧ Fq w0 w' B (rest.drop k) (t + k) short ∧ But B w w' := by
  have hc := cut_q h k hk
  have hlen : (rest.take k).length = k := by simp; omega
  clear h
  go_enter Tryd.func46, Tryd.ntmps46
  go_wp2_with fail
  refine hc.mono ?_
  rintro e w1 ⟨pv, rfl, ⟨hr, _⟩, hF, hb⟩
  have hr1 := hr.below hF.bel
  generalize hL : rest.take k = L at *
  have HLL := Lib.hid hL
  have HF := Lib.hid hF
  clear hL hc hr hF
  rcases hr1.cases with ⟨rfl, _⟩ | ⟨b, off, cap, rfl, _, hlc, hcap, _, hcell⟩
  · simp at hlen; omega
  have hbyt := hr1.byt
  rw [hlen]
  have HL := Lib.hid hlen
  have HC := Lib.hid hcell
  clear hr1 hlen hcell
  go_wp2_with fail
  go_loop [5, 12] (fun a i => ∃ j : Nat, j ≤ k ∧ i = .int .i64 j ∧ a = .int .i64 (bigv (L.take j) 0)) (fun _ i => k - (intOf i).toNat)
  case atStart => exact ⟨0, Nat.zero_le _, rfl, rfl⟩
  case round =>
    obtain ⟨j, hj, rfl, rfl⟩ := hrel
    by_cases hlt : j < k
    · have hjl : j < L.length := by have := HL.out; omega
      have hcx := HC.out j hjl
      have hx := Byt.get hbyt j
      have hbd := bigv_bd (hbyt.take j)
      have hl2 : (L.take j).length = j := by simp; omega
      rw [hl2] at hbd
      have hp := pow_le6 j (by omega)
      have HS : Hid (bigv (L.take (j + 1)) 0 = bigv (L.take j) 0 * 256 + L.getD j 0) := Lib.hid (by rw [take_snoc L j hjl, bigv_snoc, Int.mul_comm])
      obtain ⟨hbd0, hbd1⟩ := hbd
      have hbd2 : bigv (L.take j) 0 < 281474976710656 := by omega
      clear hbd1 hp hl2
      generalize bigv (L.take j) 0 = A at *
      have e1 : IntKind.i64.wrap (A * 256) = A * 256 := wraps_i64 _ (by omega) (by omega)
      generalize L.getD j 0 = X at *
      have e2 : bits BinOp.or IntKind.i64 (A * 256) X = A * 256 + X := or_i64 A X hbd0 (by omega) hx
      go_wp2
      go_round
      case rel => exact ⟨j + 1, by omega, by go_num, by rw [HS.out]⟩
      case measure => simp [intOf]; omega
    · go_wp2
      go_ret
      have e : L.take j = L := List.take_of_length_le (by have := HL.out; omega)
      exact ⟨ret_int (by rw [e, ← HLL.out]), HF.out, hb⟩
set_option maxRecDepth 20000 in
theorem fixed_e {w0 w : World} {B : Nat} {rest : List Int} {t : Nat} {short : Int} (h : Fq w0 w B rest t short) (n : Int) (hn : (rest.length : Int) < n) :
    Calls Tryd.prog 46 #[.pointer (some ⟨B, 0, none⟩), .int .i64 n] w fun e w' => e = errPanic short ∧ But B w w' := by
  have hc := cut_e h n hn
  clear h hn
  go_enter Tryd.func46, Tryd.ntmps46
  go_wp2_with fail
  refine hc.mono ?_
  rintro e w1 ⟨he, hb⟩
  rw [errPanic] at he
  subst he
  go_wp2_with fail
  exact ⟨rfl, rfl, hb⟩

theorem rd_cons (z : Int) (r : List Int) : rd (z :: r) = if (z :: r).length < fs z then (0, 0, 2) else if sz (val ((z :: r).take (fs z))) = (fs z : Int) then (val ((z :: r).take (fs z)), (fs z : Int), 0) else (0, 0, 3) := rfl
/-- What reading a number tells of its size. -/
theorem rd_size {zs : List Int} (hb : Byt zs) : (rd zs).2.2 = 0 ∧ (0 ≤ (rd zs).1 ∧ (rd zs).1 < 4611686018427387904) ∧ (∃ k : Nat, (rd zs).2.1 = (k : Int) ∧ 1 ≤ k ∧ k ≤ 8 ∧ k ≤ zs.length) ∨ (rd zs).1 = 0 ∧ (rd zs).2.1 = 0 ∧ ((rd zs).2.2 = 2 ∨ (rd zs).2.2 = 3) := by
  cases zs with
  | nil => exact .inr ⟨rfl, rfl, .inl rfl⟩
  | cons z r =>
    have hz := hb z List.mem_cons_self
    have hf : 1 ≤ fs z ∧ fs z ≤ 8 := by rcases fs_cases z hz with ⟨_, h⟩ | ⟨_, h⟩ | ⟨_, h⟩ | ⟨_, h⟩ <;> omega
    rw [rd_cons]
    by_cases h1 : (z :: r).length < fs z
    · rw [if_pos h1]; exact .inr ⟨rfl, rfl, .inl rfl⟩
    · rw [if_neg h1]
      by_cases h2 : sz (val ((z :: r).take (fs z))) = (fs z : Int)
      · rw [if_pos h2]
        refine .inl ⟨rfl, ?_, fs z, rfl, hf.1, hf.2, by omega⟩
        generalize val ((z :: r).take (fs z)) = n at *
        rcases sz_cases n with ⟨hs, _⟩ | ⟨hn0, hn1, k, hs, _, hnk⟩
        · omega
        · exact ⟨by omega, by omega⟩
      · rw [if_neg h2]; exact .inr ⟨rfl, rfl, .inr rfl⟩
/-- What is cut short of a number is too short; what is cut behind it tells the same. -/
theorem rd_take (zs : List Int) (v s : Int) (m : Nat) (h : rd zs = (v, s, 0)) : (m < s.toNat → rd (zs.take m) = (0, 0, 2)) ∧ (s.toNat ≤ m → rd (zs.take m) = rd zs) := by
  cases zs with
  | nil => simp [rd] at h
  | cons z r =>
    have hd : rd (z :: r) = if (z :: r).length < fs z then (0, 0, 2) else if sz (val ((z :: r).take (fs z))) = (fs z : Int) then (val ((z :: r).take (fs z)), (fs z : Int), 0) else (0, 0, 3) := rfl
    by_cases h1 : (z :: r).length < fs z
    · rw [hd, if_pos h1] at h; simp at h
    · by_cases h2 : sz (val ((z :: r).take (fs z))) = (fs z : Int)
      · rw [hd, if_neg h1, if_pos h2] at h
        simp only [Prod.mk.injEq] at h
        have hs : s.toNat = fs z := by omega
        rw [hs]
        have hp : 1 ≤ fs z := Nat.one_le_two_pow
        cases m with
        | zero => exact ⟨fun _ => rfl, fun h => by omega⟩
        | succ j =>
          have hl : (z :: r.take j).length = min (j + 1) (z :: r).length := by simp
          have hd2 : rd ((z :: r).take (j + 1)) = if (z :: r.take j).length < fs z then (0, 0, 2) else if sz (val ((z :: r.take j).take (fs z))) = (fs z : Int) then (val ((z :: r.take j).take (fs z)), (fs z : Int), 0) else (0, 0, 3) := rfl
          refine ⟨fun hm => ?_, fun hm => ?_⟩
          · rw [hd2, if_pos (by omega)]
          · have e : (z :: r.take j).take (fs z) = (z :: r).take (fs z) := by
              have : z :: r.take j = (z :: r).take (j + 1) := rfl
              rw [this, List.take_take, Nat.min_eq_left hm]
            rw [hd2, hd, e, if_neg (by omega), if_neg h1]
      · rw [hd, if_neg h1, if_neg h2] at h; simp at h
set_option maxRecDepth 20000 in
theorem number_q {w0 w : World} {B : Nat} {rest : List Int} {t : Nat} {short : Int} (h : Fq w0 w B rest t short) (n : Int) (k : Nat) (hn : rd rest = (n, (k : Int), 0)) (hk : k ≤ rest.length) :
    Calls Tryd.prog 62 #[.pointer (some ⟨B, 0, none⟩)] w fun e w' => e = .returned (.int .i64 n) ∧ Fq w0 w' B (rest.drop k) (t + k) short ∧ But B w w' := by
  have hc := cut_q h k hk
  obtain ⟨ao, cap, hr, c0, c1, c2⟩ := h.cells
  have hrd := read_any (hr.below h.bel)
  rw [hn] at hrd
  clear h hr hn
  go_enter Tryd.func62, Tryd.ntmps62
  go_wp2_with fail
  refine hrd.mono ?_
  rintro e w1 ⟨rfl, rfl⟩
  go_wp2_with fail
  refine (want_yes _ short).mono ?_
  rintro e w1 ⟨rfl, rfl⟩
  go_wp2_with fail
  refine (want_yes _ _).mono ?_
  rintro e w1 ⟨rfl, rfl⟩
  go_wp2_with fail
  refine hc.mono ?_
  rintro e w1 ⟨pv, rfl, _, hF, hb⟩
  go_wp2_with fail
  go_ret
  exact ⟨rfl, hF, hb⟩
set_option maxRecDepth 20000 in
theorem number_e {w0 w : World} {B : Nat} {rest : List Int} {t : Nat} {short : Int} (h : Fq w0 w B rest t short) (k : Int) (hn : rd rest = (0, 0, k)) (hk : k = 2 ∨ k = 3) :
    Calls Tryd.prog 62 #[.pointer (some ⟨B, 0, none⟩)] w fun e w' => e = errPanic (if k = 2 then short else k) ∧ But B w w' := by
  obtain ⟨ao, cap, hr, c0, c1, c2⟩ := h.cells
  have hrd := read_any (hr.below h.bel)
  rw [hn] at hrd
  clear h hr hn
  rcases hk with rfl | rfl
  · rw [if_pos rfl]
    go_enter Tryd.func62, Tryd.ntmps62
    go_wp2_with fail
    refine hrd.mono ?_
    rintro e w1 ⟨rfl, rfl⟩
    go_wp2_with fail
    refine (want_no _ short).mono ?_
    rintro e w1 ⟨he, rfl⟩
    rw [errPanic] at he
    subst he
    go_wp2_with fail
    exact ⟨rfl, rfl, But.refl _ _⟩
  · rw [if_neg (by decide)]
    go_enter Tryd.func62, Tryd.ntmps62
    go_wp2_with fail
    refine hrd.mono ?_
    rintro e w1 ⟨rfl, rfl⟩
    go_wp2_with fail
    refine (want_yes _ short).mono ?_
    rintro e w1 ⟨rfl, rfl⟩
    go_wp2_with fail
    refine (want_no _ _).mono ?_
    rintro e w1 ⟨he, rfl⟩
    rw [errPanic] at he
    subst he
    go_wp2_with fail
    exact ⟨rfl, rfl, But.refl _ _⟩
#print axioms clone_any
#print axioms number_q
end Go.Proofs.YtgcgmgcgbnepeaaDoor
