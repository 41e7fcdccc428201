/- The three statements of choose: the walks. -/
import Derived.Test.YtallpkchhkdanaaChRef
namespace Go.Proofs.Ytallpkchhkdanaa
open Go Go.RowKit

theorem big2 {w : World} {a b : Option Addr} {n0 c0 n1 c1 : Nat} {n : Int} (h : 30 < n0 ∨ 30 < n1) :
    Calls Try.prog 6 #[.slice a n0 c0, .slice b n1 c1, .int .i64 n] w fun e w' => e = .returned (.bool true) ∧ Below w.heap.size w w' := by
  by_cases h2 : 30 < n0
  · have t2 : decide ((30 : Int) < (n0 : Int)) = true := decide_eq_true (by omega)
    clear h h2
    go_enter Try.func6, Try.ntmps6
    go_wp2_with fail
    go_ret
    exact ⟨rfl, Below.refl _ _⟩
  · have t2 : decide ((30 : Int) < (n0 : Int)) = false := decide_eq_false (by omega)
    have t3 : decide ((30 : Int) < (n1 : Int)) = true := decide_eq_true (by omega)
    clear h h2
    go_enter Try.func6, Try.ntmps6
    go_wp2_with fail
    go_ret
    exact ⟨rfl, Below.refl _ _⟩
set_option maxHeartbeats 2000000 in
theorem picks_walk {w : World} {v m : Value} {vs ms : List Int} (h : Rd .i64 w v vs) (hm : Rd .i64 w m ms) (n : Int) :
    Calls Try.prog 6 #[v, m, .int .i64 n] w fun e w' => e = .returned (.bool true) ∧ Below w.heap.size w w' := by
  by_cases hbig : 30 < vs.length ∨ 30 < ms.length
  · obtain ⟨ao, cap, rfl, _⟩ := h
    obtain ⟨ao', cap', rfl, _⟩ := hm
    exact big2 hbig
  have l1 : vs.length ≤ 30 := by omega
  have l2 : ms.length ≤ 30 := by omega
  have t1 : decide ((30 : Int) < (vs.length : Int)) = false := decide_eq_false (by omega)
  have t2 : decide ((30 : Int) < (ms.length : Int)) = false := decide_eq_false (by omega)
  have c1 := rfirst_any h (by omega) hm (by omega)
  have c2 := react_any hm (by omega) h (by omega) n
  have c3 := fun (w1 : World) (hb : Below w.heap.size w w1) => rreact_any (hm.below hb) (by omega) (h.below hb) (by omega) n
  have c4 := fun (w1 : World) (hb : Below w.heap.size w w1) => verify_any (h.below hb) (by omega) (hm.below hb) (by omega) n
  have c5 := fun (w1 : World) (hb : Below w.heap.size w w1) => pick_any (h.below hb) (by omega) (hm.below hb) (by omega)
  have C2 := Lib.hid c2
  have C3 := Lib.hid c3
  have C4 := Lib.hid c4
  have C5 := Lib.hid c5
  obtain ⟨ao, cap, rfl, _⟩ := h
  obtain ⟨ao', cap', rfl, _⟩ := hm
  clear hbig l1 l2 c2 c3 c4 c5
  generalize reactN vs ms n = r at *
  generalize reactE vs ms n = er at *
  generalize fstI vs ms = x at *
  generalize fstB vs ms = y at *
  have key : ∀ b1 b2 g : Bool, (n != 0) = b1 → (n == x) = b2 → (b1 = true → (verE x n = if b2 = true then 0 else 13)) → (b1 = false → verE x n = 13) → Calls Try.prog 6 #[.slice ao vs.length cap, .slice ao' ms.length cap', .int .i64 n] w fun e w' => e = .returned (.bool true) ∧ Below w.heap.size w w' := by
    intro b1 b2 _ e1 e2 e3 e4
    cases b1
    · have e5 := e4 rfl
      rw [e5] at C4
      clear e3 e4 e5 e2
      go_enter Try.func6, Try.ntmps6
      go_wp2_with (first
        | (go_at_call 15; refine c1.mono ?_; rintro e w' ⟨rfl, rfl⟩)
        | (go_at_call 16; refine C2.out.mono ?_; rintro e w1 ⟨rfl, hb1⟩)
        | (go_at_call 17; refine (C3.out _ hb1).mono ?_; rintro e w' ⟨rfl, rfl⟩)
        | (go_at_call 18; refine (C4.out _ hb1).mono ?_; rintro e w2 ⟨rfl, hb2⟩; have hb3 := hb1.trans (hb2.mono hb1.size))
        | (go_at_call 19; refine (C5.out _ hb3).mono ?_; rintro e w3 ⟨rfl, hb4⟩; have hb5 := hb3.trans (hb4.mono hb3.size))
        | (go_at_call 20; refine (cawake_any _).mono ?_; rintro e w4 ⟨rfl, hb6⟩))
      go_ret
      exact ⟨rfl, hb5.trans (hb6.mono hb5.size)⟩
    · have e5 := e3 rfl
      cases b2
      · rw [e5, if_neg (by decide)] at C4
        clear e3 e4 e5
        go_enter Try.func6, Try.ntmps6
        go_wp2_with (first
          | (go_at_call 15; refine c1.mono ?_; rintro e w' ⟨rfl, rfl⟩)
          | (go_at_call 16; refine C2.out.mono ?_; rintro e w1 ⟨rfl, hb1⟩)
          | (go_at_call 17; refine (C3.out _ hb1).mono ?_; rintro e w' ⟨rfl, rfl⟩)
          | (go_at_call 18; refine (C4.out _ hb1).mono ?_; rintro e w2 ⟨rfl, hb2⟩; have hb3 := hb1.trans (hb2.mono hb1.size))
          | (go_at_call 19; refine (C5.out _ hb3).mono ?_; rintro e w3 ⟨rfl, hb4⟩; have hb5 := hb3.trans (hb4.mono hb3.size))
          | (go_at_call 20; refine (cawake_any _).mono ?_; rintro e w4 ⟨rfl, hb6⟩))
        go_ret
        exact ⟨rfl, hb5.trans (hb6.mono hb5.size)⟩
      · rw [e5, if_pos rfl] at C4
        clear e3 e4 e5
        go_enter Try.func6, Try.ntmps6
        go_wp2_with (first
          | (go_at_call 15; refine c1.mono ?_; rintro e w' ⟨rfl, rfl⟩)
          | (go_at_call 16; refine C2.out.mono ?_; rintro e w1 ⟨rfl, hb1⟩)
          | (go_at_call 17; refine (C3.out _ hb1).mono ?_; rintro e w' ⟨rfl, rfl⟩)
          | (go_at_call 18; refine (C4.out _ hb1).mono ?_; rintro e w2 ⟨rfl, hb2⟩; have hb3 := hb1.trans (hb2.mono hb1.size))
          | (go_at_call 19; refine (C5.out _ hb3).mono ?_; rintro e w3 ⟨rfl, hb4⟩; have hb5 := hb3.trans (hb4.mono hb3.size))
          | (go_at_call 20; refine (cawake_any _).mono ?_; rintro e w4 ⟨rfl, hb6⟩))
        go_ret
        exact ⟨rfl, hb5.trans (hb6.mono hb5.size)⟩
  refine key _ _ false rfl rfl ?_ ?_
  · intro h0
    have h0' : n ≠ 0 := by simpa using h0
    unfold verE
    by_cases h1 : n = x
    · rw [if_neg (by rintro (h | h); exact h0' h; exact h h1), if_pos (by simpa using h1)]
    · rw [if_pos (Or.inr h1), if_neg (by simpa using h1)]
  · intro h0
    have h0' : n = 0 := by simpa using h0
    unfold verE
    rw [if_pos (Or.inl h0')]

theorem react_zero {told offered : List Int} {n : Int} (h : reactE told offered n ≠ 0) : reactN told offered n = 0 := by
  unfold reactE at h; unfold reactN
  split
  · rfl
  · rename_i h1
    rw [if_neg h1] at h
    cases hf : fstB offered told with
    | true => rw [hf] at h; simp at h
    | false => exact fst_none hf
theorem fst_mem {l m : List Int} (h : fstB l m = true) : fstI l m ∈ l ∧ fstI l m ∈ m := by
  unfold fstB at h; unfold fstI
  cases hf : l.find? (inB m) with
  | none => rw [hf] at h; cases h
  | some x => exact ⟨List.mem_of_find?_eq_some hf, by have := List.find?_some hf; simpa [inB] using this⟩
theorem react_in {told offered : List Int} {n : Int} (h : reactE told offered n = 0) : inB offered (reactN told offered n) = true := by
  unfold reactE at h; unfold reactN
  split at h
  · cases h
  · rename_i h1
    rw [if_neg h1]
    cases hf : fstB offered told with
    | true => unfold inB; exact decide_eq_true (fst_mem hf).1
    | false => rw [hf] at h; simp at h
theorem bl_drewN {b : Nat} {w0 w : World} (h : Below b w0 w) : ∀ n, Below b w0 (w.drewN n)
  | 0 => h
  | n + 1 => (bl_drewN h n).drew
theorem in_take {l : List Int} {k : Nat} (h : k < l.length) (n : Int) : inB (l.take (k + 1)) n = (inB (l.take k) n || (l.getD k 0 == n)) := by
  have e : l.getD k 0 = l[k] := by simp [h]
  unfold inB
  rw [List.take_succ_eq_append_getElem h, e, Bool.eq_iff_iff]
  simp only [decide_eq_true_eq, List.mem_append, List.mem_singleton, Bool.or_eq_true, beq_iff_eq]
  exact or_congr Iff.rfl ⟨Eq.symm, Eq.symm⟩
theorem vf_big {w : World} {a b d : Option Addr} {n0 c0 n1 c1 n2 c2 : Nat} {n : Int} (h : 30 < n0 ∨ 30 < n1 ∨ 30 < n2) :
    Calls Try.prog 7 #[.agg #[.slice a n0 c0, .slice b n1 c1, .slice d n2 c2, .int .i64 n]] w fun e w' => e = .returned (.bool true) ∧ Below w.heap.size w w' := by
  have HB := Lib.hid (below_alloc w (.cells #[.slice a n0 c0, .slice b n1 c1, .slice d n2 c2, .int .i64 n] 55))
  by_cases h2 : 30 < n0
  · have t2 : decide ((30 : Int) < (n0 : Int)) = true := decide_eq_true (by omega)
    clear h h2
    go_enter Try.func7, Try.ntmps7
    go_wp2_with fail
    go_quiet (fail)
    go_wp2_with fail
    go_ret
    exact ⟨rfl, bl_drewN HB.out _⟩
  · have t2 : decide ((30 : Int) < (n0 : Int)) = false := decide_eq_false (by omega)
    by_cases h3 : 30 < n1
    · have t3 : decide ((30 : Int) < (n1 : Int)) = true := decide_eq_true (by omega)
      clear h h2 h3
      go_enter Try.func7, Try.ntmps7
      go_wp2_with fail
      go_quiet (fail)
      go_wp2_with fail
      go_ret
      exact ⟨rfl, bl_drewN HB.out _⟩
    · have t3 : decide ((30 : Int) < (n1 : Int)) = false := decide_eq_false (by omega)
      have t4 : decide ((30 : Int) < (n2 : Int)) = true := decide_eq_true (by omega)
      clear h h2 h3
      go_enter Try.func7, Try.ntmps7
      go_wp2_with fail
      go_quiet (fail)
      go_wp2_with fail
      go_ret
      exact ⟨rfl, bl_drewN HB.out _⟩
set_option maxRecDepth 20000 in
set_option maxHeartbeats 2000000 in
theorem verifies_walk {w : World} {sv ov tv : Value} {ss os ts : List Int} (hs : Rd .i64 w sv ss) (ho : Rd .i64 w ov os) (ht : Rd .i64 w tv ts) (n : Int) :
    Calls Try.prog 7 #[.agg #[sv, ov, tv, .int .i64 n]] w fun e w' => e = .returned (.bool true) ∧ Below w.heap.size w w' := by
  by_cases hbig : 30 < ss.length ∨ 30 < os.length ∨ 30 < ts.length
  · obtain ⟨ao, cap, rfl, _⟩ := hs
    obtain ⟨ao', cap', rfl, _⟩ := ho
    obtain ⟨ao'', cap'', rfl, _⟩ := ht
    exact vf_big hbig
  have t1 : decide ((30 : Int) < (ss.length : Int)) = false := decide_eq_false (by omega)
  have t2 : decide ((30 : Int) < (os.length : Int)) = false := decide_eq_false (by omega)
  have t3 : decide ((30 : Int) < (ts.length : Int)) = false := decide_eq_false (by omega)
  have l1 : ss.length ≤ 30 := by omega
  have l2 : os.length ≤ 30 := by omega
  have l3 : ts.length ≤ 30 := by omega
  have hl : (os.length : Int) ≤ 30 := by omega
  have C1 := Lib.hid (fun (w1 : World) (hb : Below w.heap.size w w1) => react_any (ho.below hb) (by omega) (ht.below hb) (by omega) n)
  have C2 := Lib.hid (fun (w1 : World) (hb : Below w.heap.size w w1) (x : Int) => verify_any (hs.below hb) (by omega) (ho.below hb) (by omega) x)
  have C3 := Lib.hid (fun (w1 : World) (hb : Below w.heap.size w w1) => pick_any (hs.below hb) (by omega) (ho.below hb) (by omega))
  have HZ := Lib.hid (@react_zero ts os n)
  have HI := Lib.hid (@react_in ts os n)
  have HO := Lib.hid ho
  obtain ⟨ao, cap, rfl, _⟩ := hs
  have ho' := ho
  obtain ⟨ao', cap', rfl, _⟩ := ho'
  obtain ⟨ao'', cap'', rfl, _⟩ := ht
  have HB := Lib.hid (below_alloc w (.cells #[.slice ao ss.length cap, .slice ao' os.length cap', .slice ao'' ts.length cap'', .int .i64 n] 55))
  clear hbig l1 l2 l3 ho
  generalize reactN ts os n = r at *
  generalize reactE ts os n = er at *
  generalize fstI ss os = p at *
  go_enter Try.func7, Try.ntmps7
  go_wp2_with fail
  go_quiet (fail)
  have HB := Lib.hid (bl_drewN HB.out nq)
  by_cases he : er = 0
  · subst he
    have hin := HI.out rfl
    clear HZ HI
    go_wp2_with (go_at_call 16; refine (C1.out _ HB.out).mono ?_; rintro e w1 ⟨rfl, hb1⟩)
    have B1 := Lib.hid (HB.out.trans (hb1.mono HB.out.size))
    clear hb1 HB
    go_loopw [9, 10] (fun s i wr => ∃ k : Nat, k ≤ os.length ∧ i = .int .i64 k ∧ s = .bool (inB (os.take k) r) ∧ w1 = wr) (fun _ i _ => os.length - (intOf i).toNat)
    case atStart => exact ⟨0, by omega, rfl, by simp [inB], rfl⟩
    case round =>
      obtain ⟨k, hk, rfl, rfl, rfl⟩ := hrel
      have hk' : (k : Int) ≤ (os.length : Int) := by omega
      by_cases hlt : k < os.length
      · have hlt' : (k : Int) < (os.length : Int) := by omega
        rcases HO.out.cases with ⟨h0, _⟩ | ⟨b, off, cap2, hv, _, _, _, _, h5⟩
        · rw [h0] at hlt; simp at hlt
        · simp only [Value.slice.injEq, true_and] at hv
          obtain ⟨rfl, rfl⟩ := hv
          have hx := h5 k hlt
          rw [← B1.out.cell (p := ⟨b, off + k, none⟩) (cell_lt hx)] at hx
          have HT := Lib.hid (in_take hlt r)
          generalize os.getD k 0 = x at hx HT
          clear h5 HO
          cases hq : inB (os.take k) r with
          | true =>
            rw [hq] at HT
            clear hq
            go_wp2_with fail
            go_roundw
            case rel => exact ⟨k + 1, by omega, by go_num, by rw [HT.out]; rfl, trivial⟩
            case measure => simp [intOf]; omega
          | false =>
            rw [hq] at HT
            clear hq
            obtain ⟨c, hc⟩ : ∃ c, (x == r) = c := ⟨_, rfl⟩
            rw [hc] at HT
            go_wp2_with fail
            go_roundw
            case rel => exact ⟨k + 1, by omega, by go_num, by rw [HT.out]; rfl, trivial⟩
            case measure => simp [intOf]; omega
      · obtain rfl : k = os.length := by omega
        rw [List.take_of_length_le (Nat.le_refl _), hin]
        have c2 := C2.out _ B1.out r
        have c3 := fun (w2 : World) (hb : Below w1.heap.size w1 w2) => C3.out w2 (B1.out.trans (hb.mono B1.out.size))
        clear hin hlt
        by_cases hv : verE p r = 0
        · have hrp : r = p := by
            unfold verE at hv
            split at hv
            · cases hv
            · rename_i h; exact Classical.byContradiction fun h2 => h (Or.inr h2)
          rw [hv] at c2
          subst hrp
          clear hv
          go_wp2_with (first
            | (go_at_call 18; refine c2.mono ?_; rintro e w2 ⟨rfl, hb2⟩)
            | (go_at_call 19; refine (c3 _ hb2).mono ?_; rintro e w3 ⟨rfl, hb3⟩)
            | (go_at_call 20; refine (cawake_any _).mono ?_; rintro e w4 ⟨rfl, hb6⟩))
          go_ret
          have B2 := B1.out.trans (hb2.mono B1.out.size)
          have B3 := B2.trans (hb3.mono B2.size)
          exact ⟨rfl, B3.trans (hb6.mono B3.size)⟩
        · have hv' : (verE p r != 0) = true := by simpa using hv
          clear hv
          generalize verE p r = q at *
          go_wp2_with (first
            | (go_at_call 18; refine c2.mono ?_; rintro e w2 ⟨rfl, hb2⟩)
            | (go_at_call 20; refine (cawake_any _).mono ?_; rintro e w4 ⟨rfl, hb6⟩))
          go_ret
          have B2 := B1.out.trans (hb2.mono B1.out.size)
          exact ⟨rfl, B2.trans (hb6.mono B2.size)⟩
  · have he' : (er != 0) = true := by simpa using he
    have hr := HZ.out he
    subst hr
    clear HZ HI he
    go_wp2_with (first | (go_at_call 16; refine (C1.out _ HB.out).mono ?_; rintro e w1 ⟨rfl, hb1⟩) | (go_at_call 20; refine (cawake_any _).mono ?_; rintro e w4 ⟨rfl, hb6⟩))
    go_ret
    have B1 := HB.out.trans (hb1.mono HB.out.size)
    exact ⟨rfl, B1.trans (hb6.mono B1.size)⟩

theorem both_big {w : World} {a b : Option Addr} {n0 c0 n1 c1 : Nat} (h : 30 < n0 ∨ 30 < n1) :
    Calls Try.prog 8 #[.slice a n0 c0, .slice b n1 c1] w fun e w' => e = .returned (.bool true) ∧ Below w.heap.size w w' := by
  by_cases h2 : 30 < n0
  · have t2 : decide ((30 : Int) < (n0 : Int)) = true := decide_eq_true (by omega)
    clear h h2
    go_enter Try.func8, Try.ntmps8
    go_wp2_with fail
    go_ret
    exact ⟨rfl, Below.refl _ _⟩
  · have t2 : decide ((30 : Int) < (n0 : Int)) = false := decide_eq_false (by omega)
    have t3 : decide ((30 : Int) < (n1 : Int)) = true := decide_eq_true (by omega)
    clear h h2
    go_enter Try.func8, Try.ntmps8
    go_wp2_with fail
    go_ret
    exact ⟨rfl, Below.refl _ _⟩
theorem fst_at {l m : List Int} {k : Nat} (h : NoneB (inB m) l k) (hk : k < l.length) (hx : l.getD k 0 ∈ m) : fstI l m = l.getD k 0 := by
  unfold fstI
  rw [h.find hk (by unfold inB; exact decide_eq_true hx)]; rfl
set_option maxRecDepth 20000 in
set_option maxHeartbeats 2000000 in
theorem both_walk {w : World} {sv cv : Value} {ss cs' : List Int} (hs : Rd .i64 w sv ss) (hc : Rd .i64 w cv cs') :
    Calls Try.prog 8 #[sv, cv] w fun e w' => e = .returned (.bool true) ∧ Below w.heap.size w w' := by
  by_cases hbig : 30 < ss.length ∨ 30 < cs'.length
  · obtain ⟨ao, cap, rfl, _⟩ := hs
    obtain ⟨ao', cap', rfl, _⟩ := hc
    exact both_big hbig
  have t1 : decide ((30 : Int) < (ss.length : Int)) = false := decide_eq_false (by omega)
  have t2 : decide ((30 : Int) < (cs'.length : Int)) = false := decide_eq_false (by omega)
  have l1 : ss.length ≤ 30 := by omega
  have l2 : cs'.length ≤ 30 := by omega
  have m1 : (ss.length : Int) ≤ 30 := by omega
  have m2 : (cs'.length : Int) ≤ 30 := by omega
  have C1 := Lib.hid (pick_any hs (by omega) hc (by omega))
  have HS := Lib.hid hs
  have HC := Lib.hid hc
  have HF := Lib.hid (fun (k : Nat) (h : NoneB (inB cs') ss k) => fst_at h)
  have HN := Lib.hid (fun (h : NoneB (inB cs') ss ss.length) => (show fstI ss cs' = 0 by unfold fstI; rw [h.all]; rfl))
  obtain ⟨ao, cap, rfl, _⟩ := hs
  obtain ⟨ao', cap', rfl, _⟩ := hc
  clear hbig l1 l2
  generalize fstI ss cs' = p at *
  go_enter Try.func8, Try.ntmps8
  go_wp2_with (go_at_call 19; refine C1.out.mono ?_; rintro e w1 ⟨rfl, hb1⟩)
  have B1 := Lib.hid hb1
  clear hb1
  go_loopw [6, 7] (fun i q wr => ∃ (k m : Nat), k ≤ ss.length ∧ i = .int .i64 k ∧ NoneB (inB cs') ss k ∧ w1.drewN m = wr) (fun i _ _ => ss.length - (intOf i).toNat)
  case atStart => exact ⟨0, 0, by omega, rfl, NoneB.zero _ _, rfl⟩
  case round =>
    obtain ⟨k, m, hk, rfl, hn, rfl⟩ := hrel
    have hk' : (k : Int) ≤ (ss.length : Int) := by omega
    by_cases hlt : k < ss.length
    · have hlt' : (k : Int) < (ss.length : Int) := by omega
      rcases HS.out.cases with ⟨h0, _⟩ | ⟨b, off, cap2, hv, _, _, _, _, h5⟩
      · rw [h0] at hlt; simp at hlt
      simp only [Value.slice.injEq, true_and] at hv
      obtain ⟨rfl, rfl⟩ := hv
      have hx := h5 k hlt
      rw [← B1.out.cell (p := ⟨b, off + k, none⟩) (cell_lt hx)] at hx
      clear h5
      have HF' := Lib.hid (HF.out k hn hlt)
      have HS' := Lib.hid (fun h => hn.succ hlt h)
      clear hn
      generalize ss.getD k 0 = x at *
      go_wp2_with fail
      go_loopw [7] (fun q wr => ∃ (j m : Nat), j ≤ cs'.length ∧ q = .int .i64 j ∧ NoneB (fun y => decide (x = y)) cs' j ∧ w1.drewN m = wr) (fun q _ => cs'.length - (intOf q).toNat)
      case atStart => exact ⟨0, m, by omega, rfl, NoneB.zero _ _, rfl⟩
      case round =>
        obtain ⟨j, m', hj, rfl, hnj, rfl⟩ := hrel
        have hj' : (j : Int) ≤ (cs'.length : Int) := by omega
        by_cases hjt : j < cs'.length
        · have hjt' : (j : Int) < (cs'.length : Int) := by omega
          rcases HC.out.cases with ⟨h0, _⟩ | ⟨b2, off2, cap3, hv, _, _, _, _, h6⟩
          · rw [h0] at hjt; simp at hjt
          simp only [Value.slice.injEq, true_and] at hv
          obtain ⟨rfl, rfl⟩ := hv
          have hy := h6 j hjt
          rw [← B1.out.cell (p := ⟨b2, off2 + j, none⟩) (cell_lt hy)] at hy
          clear h6
          have HJ := Lib.hid (fun h => hnj.succ hjt h)
          have HM := Lib.hid (getD_mem hjt)
          clear hnj
          generalize cs'.getD j 0 = y at *
          by_cases hxy : x = y
          · subst hxy
            obtain rfl := HF'.out HM.out
            go_wp2_with fail
            go_quiet (fail)
            go_wp2_with (go_at_call 20; refine (cawake_any _).mono ?_; rintro e w4 ⟨rfl, hb6⟩)
            go_ret
            have B2 := bl_drewN B1.out (m' + nq)
            exact ⟨rfl, B2.trans (hb6.mono B2.size)⟩
          · have hxy' : (x == y) = false := beq_eq_false_iff_ne.2 hxy
            have HJ' := Lib.hid (HJ.out (decide_eq_false hxy))
            clear hxy HJ
            go_wp2_with fail
            go_quiet (fail)
            go_wp2_with fail
            go_roundw
            case rel => exact ⟨j + 1, _, by omega, by go_num, HJ'.out, rfl⟩
            case measure => simp [intOf]; omega
        · obtain rfl : j = cs'.length := by omega
          have HX := Lib.hid (HS'.out (eq_none hnj))
          clear hnj
          go_wp2_with fail
          go_roundw
          case rel => exact ⟨k + 1, m', by omega, by go_num, HX.out, rfl⟩
          case measure => simp [intOf]; omega
    · obtain rfl : k = ss.length := by omega
      obtain rfl := HN.out hn
      clear hn HF HN
      go_wp2_with (go_at_call 20; refine (cawake_any _).mono ?_; rintro e w4 ⟨rfl, hb6⟩)
      go_ret
      have B2 := bl_drewN B1.out m
      exact ⟨rfl, B2.trans (hb6.mono B2.size)⟩
end Go.Proofs.Ytallpkchhkdanaa
