/- The document's set in memory: Add. -/
import Derived.Test.YtnfednhleedljaaSpRef
import Derived.StillTailTactics
namespace Go.Proofs.Ytnfednhleedljaa
open Go Go.RowKit

theorem info3 : (Try.prog.info? 3).map (fun i => (i.zero, i.size, i.bytes)) = some (some (.int .i64 0), 1, 8) := by kernel_rfl
theorem radd_no {lo : Nat} {w : World} {B : Nat} {s : Set0} (h : Rm lo w B (nums s.1) s.2) (hk : OkS s) (n : Int) (hb : okB s n = false) : Calls Try.prog 8 #[.pointer (some ⟨B, 0, none⟩), .int .i64 n] w fun e w' => e = .returned (.bool false) ∧ w = w' := by
  have hh := rhas_any h n
  rw [← nums_has hk.1 n] at hh
  have c1 := h.shape.1
  by_cases h0 : n < 0
  · clear hb h hh
    go_enter Try.func8, Try.ntmps8
    go_wp2_with fail
    go_ret
    exact ⟨rfl, rfl⟩
  by_cases h1 : 4611686018427387903 < n
  · clear hb h hh
    go_enter Try.func8, Try.ntmps8
    go_wp2_with fail
    go_ret
    exact ⟨rfl, rfl⟩
  by_cases h2 : n < s.2
  · clear hb h hh
    go_enter Try.func8, Try.ntmps8
    go_wp2_with fail
    go_ret
    exact ⟨rfl, rfl⟩
  · have h3 : hasB s.1 n = true := by
      cases hc : hasB s.1 n with
      | true => rfl
      | false => have := okB_iff.2 (⟨by omega, by omega, by omega, hc⟩ : 0 ≤ n ∧ n ≤ 4611686018427387903 ∧ s.2 ≤ n ∧ hasB s.1 n = false); rw [this] at hb; cases hb
    rw [h3] at hh
    clear hb h h3
    go_enter Try.func8, Try.ntmps8
    go_wp2_with (go_at_call 14; refine hh.mono ?_; rintro e w' ⟨rfl, rfl⟩)
    go_ret
    exact ⟨rfl, rfl⟩
/-- Behind Add: the document's set as the plain function has it; nothing else has changed. -/
def RAdded (lo : Nat) (w : World) (B : Nat) (s : Set0) (n : Int) (w' : World) : Prop := Rm lo w' B (nums (addS s n).1) (addS s n).2 ∧ But B w w'
/-- A row stored in the set. -/
theorem rstore {lo : Nat} {w w1 : World} {B : Nat} {L : List Int} {F : Int} {v0 v : Value} {n : Nat} (hbx : w.heap[B]? = some (.cells #[v0, .int .i64 F] 29 (0, 0))) (hb : Below w.heap.size w w1) (hlo : lo ≤ w.heap.size) (hB : B < lo) (hl : L.length ≤ 400) (hbn : ∀ x ∈ L, 0 ≤ x ∧ x ≤ 4611686018427387903) (h0 : L ≠ [])
    (ho : w1.ownsRow w.heap.size 3 1 v n (cs .i64 L)) : Rm lo (w1.setCell ⟨B, 0, none⟩ v) B L F ∧ But B w (w1.setCell ⟨B, 0, none⟩ v) ∧ (w1.setCell ⟨B, 0, none⟩ v).heap[B]? = some (.cells #[v, .int .i64 F] 29 (0, 0)) := by
  have hbut := (But.of_below (B := B) hb).trans (But.set w1 B 0 v)
  have hbx1 : w1.heap[B]? = some (.cells #[v0, .int .i64 F] 29 (0, 0)) := by rw [hb.block B (blk_lt hbx)]; exact hbx
  have hlt : ∀ g, v.ownBlock = some g → w.heap.size ≤ g := fun g hg => (ho.lt g hg).1
  have hBw := blk_lt hbx
  refine ⟨⟨hl, hB, hbn, v, set_zero hbx1 v, (Rd.of_own ho).1.but (But.set w1 B 0 v) fun g hg => by have := hlt g hg; omega, fun g hg => Nat.le_trans hlo (hlt g hg), fun e => absurd e h0⟩, hbut, set_zero hbx1 v⟩
theorem own_zero1 (w : World) : (w.alloc (.cells #[] 3)).ownsRow w.heap.size 3 1 (.slice (some ⟨w.heap.size, 0, none⟩) 0 0) 0 (cs .i64 []) :=
  ⟨rfl, .inr ⟨w.heap.size, 0, #[], rfl, Nat.le_refl _, heap_alloc_new _ _, Nat.le_refl _, by simp [maxLen], by simp, by simp [cs]⟩⟩
theorem low_take {L : List Int} {n : Int} {j k : Nat} (hi : L.Pairwise (· < ·)) (hk : k = j + 1) (hj : j < L.length) (hx : L.getD j 0 ≤ n) : ∀ x ∈ L.take k, x ≤ n := by
  intro x hm
  obtain ⟨i, hi1, rfl⟩ := List.mem_iff_getElem.1 hm
  have hi2 : i < k := by rw [List.length_take] at hi1; omega
  rw [List.getElem_take]
  have e : L.getD j 0 = L[j] := by simp [hj]
  rw [e] at hx
  rcases Nat.lt_or_ge i j with h | h
  · have := (List.pairwise_iff_getElem.1 hi) i j (by omega) hj h
    omega
  · obtain rfl : i = j := by omega
    exact hx
theorem rd_take {w : World} {b off cap k : Nat} {L : List Int} (hcell : ∀ j, j < L.length → w.cell? ⟨b, off + j, none⟩ = some (.int .i64 (L.getD j 0))) (hk : k ≤ L.length) (hc : L.length ≤ cap) (hm : cap ≤ maxLen) : Rd .i64 w (.slice (some ⟨b, off, none⟩) k cap) (L.take k) := by
  have hl : (L.take k).length = k := by simp; omega
  refine ⟨some ⟨b, off, none⟩, cap, by rw [hl], by omega, hm, (fun h => by cases h), fun a ha j hj => ?_⟩
  cases ha
  rw [hl] at hj
  have e : (L.take k).getD j 0 = L.getD j 0 := by simp [List.getD, hj]
  rw [e, Addr.add_lit]
  exact hcell j (by omega)
theorem rd_drop {w : World} {b off o m c k : Nat} {L : List Int} (hcell : ∀ j, j < L.length → w.cell? ⟨b, off + j, none⟩ = some (.int .i64 (L.getD j 0))) (hk : k ≤ L.length) (hm : m = L.length - k) (ho : o = off + k ∨ k = L.length) (hc : m ≤ c) (hmx : c ≤ maxLen) : Rd .i64 w (.slice (some ⟨b, o, none⟩) m c) (L.drop k) := by
  have hl : (L.drop k).length = m := by simp; omega
  refine ⟨some ⟨b, o, none⟩, c, by rw [hl], by omega, hmx, (fun h => by cases h), fun a ha j hj => ?_⟩
  cases ha
  rw [hl] at hj
  rcases ho with rfl | rfl
  · have e : (L.drop k).getD j 0 = L.getD (k + j) 0 := by simp [List.getD]
    rw [e, Addr.add_lit, show off + k + j = off + (k + j) by omega]
    exact hcell (k + j) (by omega)
  · omega
theorem wf_at {S : List Sp} (h : WF S) {k : Nat} (hk : k < S.length) : 0 ≤ (S.getD k (0, 0)).1 ∧ (S.getD k (0, 0)).1 ≤ (S.getD k (0, 0)).2 ∧ (S.getD k (0, 0)).2 ≤ 4611686018427387903 := by
  have : S.getD k (0, 0) = S[k] := by simp [hk]
  rw [this]; exact h.2 _ (List.getElem_mem hk)
theorem own_len {w : World} {base e n : Nat} {k : IntKind} {v : Value} {L : List Int} (h : w.ownsRow base e 1 v n (cs k L)) : w.ownsRow base e 1 v L.length (cs k L) := by
  have := (Rd.of_own h).2
  subst this; exact h
theorem own_open1 {w : World} {base : Nat} {v : Value} {n : Nat} {L : List Int} (h : w.ownsRow base 3 1 v n (cs .i64 L)) (h0 : 0 < L.length) : ∃ g cap, v = .slice (some ⟨g, 0, none⟩) L.length cap ∧ base ≤ g ∧ g < w.heap.size ∧ L.length ≤ cap ∧ cap ≤ maxLen ∧ ∀ j, j < L.length → w.cell? ⟨g, 0 + j, none⟩ = some (.int .i64 (L.getD j 0)) := by
  have hr := (Rd.of_own h).1
  have hn := (Rd.of_own h).2
  rcases h.2 with ⟨rfl, h1⟩ | ⟨g, cap, cur, rfl, hg, hh, h1, h2, h3, h4⟩
  · omega
  · rcases hr.cases with ⟨rfl, _⟩ | ⟨b, off, c, e, _, hc, _, _, h5⟩
    · simp at h0
    · cases e
      exact ⟨g, _, rfl, hg, blk_lt hh, hc, h2, h5⟩
/-- The lowest span has gone: what the set is then. -/
theorem rlow {lo : Nat} {w4 : World} {B g3 c3 d : Nat} {M : List Sp} {f t : Int} (hM : WF M) (h33 : M.length = 33) (hp : M.getD 32 (0, 0) = (f, t)) (hd : t - f = (d : Int)) (hB : B < lo) (hg : lo ≤ g3) (hc : (nums M).length ≤ c3) (hmx : c3 ≤ maxLen) (hl : (nums M).length ≤ 400)
    (hcell : ∀ j, j < (nums M).length → w4.cell? ⟨g3, 0 + j, none⟩ = some (.int .i64 ((nums M).getD j 0))) (q : Nat) (hq : q = d + 1) (W : World) (hW : But B w4 W) (hbW : W.heap[B]? = some (.cells #[.slice (some ⟨g3, q, none⟩) ((nums M).length - q) (c3 - q), .int .i64 (t + 1)] 29 (0, 0))) :
    Rm lo W B (nums (M.take 32)) (t + 1) := by
  have hn := nums_drop hM h33 hp
  have hq2 : (t - f + 1).toNat = q := by omega
  simp only at hn
  rw [hq2] at hn
  have hr : Rd .i64 w4 (.slice (some ⟨g3, q, none⟩) ((nums M).length - q) (c3 - q)) ((nums M).drop q) := rd_drop hcell hn.2.1 rfl (Or.inl (by omega)) (by omega) (by omega)
  have hwf : WF (M.take 32) := ⟨hM.1.sublist (List.take_sublist _ _), fun p hp => hM.2 p (List.mem_of_mem_take hp)⟩
  refine ⟨by rw [hn.1, List.length_drop]; omega, hB, nums_bound hwf, _, hbW, ?_, ?_, ?_⟩
  · rw [hn.1]
    exact hr.but hW fun g e => by simp only [Value.ownBlock, Option.some.injEq] at e; omega
  · intro g e; simp only [Value.ownBlock, Option.some.injEq] at e; omega
  · intro e
    exfalso
    have h0 : 0 < (M.take 32).length := by simp; omega
    have hm : (M.take 32)[0] ∈ M.take 32 := List.getElem_mem h0
    have hx := hwf.2 _ hm
    have : (M.take 32)[0].1 ∈ nums (M.take 32) := nums_mem.2 ⟨_, hm, Int.le_refl _, hx.2.1⟩
    rw [e] at this; cases this
theorem low_end {lo : Nat} {w w4 W5 : World} {B g3 c3 d N : Nat} {M : List Sp} {f t : Int} (hM : WF M) (h33 : M.length = 33) (hp : M.getD 32 (0, 0) = (f, t)) (hd : t - f = (d : Int)) (hB : B < lo) (hg : lo ≤ g3) (hN : (nums M).length = N) (hc : N ≤ c3) (hmx : c3 ≤ maxLen) (hl : N ≤ 400)
    (hcell : ∀ j, j < N → w4.cell? ⟨g3, 0 + j, none⟩ = some (.int .i64 ((nums M).getD j 0))) (hW : But B w4 W5) (hbW : W5.heap[B]? = some (.cells #[.slice (some ⟨g3, 0, none⟩) N c3, .int .i64 (t + 1)] 29 (0, 0))) (k : Nat) (hw : But B w w4) :
    Rm lo ((W5.drewN k).setCell ⟨B, 0, none⟩ (.slice (some ⟨g3, d + 1, none⟩) (N - (d + 1)) (c3 - (d + 1)))) B (nums (M.take 32)) (t + 1) ∧ But B w ((W5.drewN k).setCell ⟨B, 0, none⟩ (.slice (some ⟨g3, d + 1, none⟩) (N - (d + 1)) (c3 - (d + 1)))) := by
  have h1 : But B w4 ((W5.drewN k).setCell ⟨B, 0, none⟩ (.slice (some ⟨g3, d + 1, none⟩) (N - (d + 1)) (c3 - (d + 1)))) := (hW.trans (But.of_below (drewN_below W5 k))).trans (But.set _ _ _ _)
  subst hN
  exact ⟨rlow hM h33 hp hd hB hg hc hmx hl hcell (d + 1) rfl _ h1 (set_zero (w := W5.drewN k) hbW _), hw.trans h1⟩
/-- More numbers than those of the lowest span. -/
theorem low_less {M : List Sp} {f t : Int} {d : Nat} (hM : WF M) (h33 : M.length = 33) (hp : M.getD 32 (0, 0) = (f, t)) (hd : t - f = (d : Int)) : d + 1 < (nums M).length := by
  have hn := nums_drop hM h33 hp
  simp only at hn
  have hq2 : (t - f + 1).toNat = d + 1 := by omega
  rw [hq2] at hn
  have hwf : WF (M.take 32) := ⟨hM.1.sublist (List.take_sublist _ _), fun p hp => hM.2 p (List.mem_of_mem_take hp)⟩
  have h0 : 0 < (M.take 32).length := by simp; omega
  have hm : (M.take 32)[0] ∈ M.take 32 := List.getElem_mem h0
  have hx := hwf.2 _ hm
  have h1 : (M.take 32)[0].1 ∈ nums (M.take 32) := nums_mem.2 ⟨_, hm, Int.le_refl _, hx.2.1⟩
  rw [hn.1] at h1
  have h2 := List.length_pos_of_mem h1
  rw [List.length_drop] at h2
  omega
set_option maxHeartbeats 4000000 in
theorem radd_some {lo : Nat} {w : World} {B : Nat} {s : Set0} (h : Rm lo w B (nums s.1) s.2) (hok : OkS s) (n : Int) (hb : okB s n = true) (hlo : lo ≤ w.heap.size) (hl : (nums s.1).length ≤ 200) (hne : nums s.1 ≠ []) : Calls Try.prog 8 #[.pointer (some ⟨B, 0, none⟩), .int .i64 n] w fun e w' => e = .returned (.bool true) ∧ RAdded lo w B s n w' := by
  have hh := rhas_any h n
  rw [← nums_has hok.1 n] at hh
  have hb' := okB_iff.1 hb
  rw [hb'.2.2.2] at hh
  have hm := ok_mid hok hb
  have hnm : n ∉ nums s.1 := fun e => by have := (hasB_iff hok.1).2 (nums_mem.1 e); rw [hb'.2.2.2] at this; cases this
  have HMID := Lib.hid (fun k => nums_mid (n := n) (k := k) hok.1 ⟨hm.1, hm.2.1⟩ hnm)
  obtain ⟨hc1, hfz, hsh⟩ := h.shape
  obtain ⟨v0, hbx, hrd, hlow, _⟩ := h.box
  rcases hsh with ⟨e, _⟩ | ⟨b, off, cap, hc, h0, hcl, hcap, hbl, hblo, h5⟩
  · exact absurd e hne
  have hmx : cap ≤ maxLen := by
    obtain ⟨ao, cp, rfl, _, hm2, _⟩ := hrd
    have hc' : w.cell? ⟨B, 0, none⟩ = some (.slice ao (nums s.1).length cp) := (cell_of_row _ B 0 _ _ (0, 0) hbx).trans rfl
    rw [hc] at hc'; cases hc'; exact hm2
  have HMX := Lib.hid hmx
  have HX := Lib.hid h5
  have HBX := Lib.hid hbx
  have HBN := Lib.hid h.bnd
  have hBw := h.lt
  have hn0 : ¬ n < 0 := by omega
  have hn1 : ¬ 4611686018427387903 < n := by omega
  have hn2 : ¬ n < s.2 := by omega
  have hBlo := h.low
  have HM := Lib.hid hm
  have HOK := Lib.hid hok
  have HINC := Lib.hid (nums_inc hok.1)
  have HB := Lib.hid hb
  have hfz0 := hfz 0
  have hfz1 := hfz 1
  clear hb' hb h hm hnm hbx hrd hlow h5 hne hmx hfz
  generalize hL : nums s.1 = L at *
  have HL := Lib.hid hL
  clear hL hok
  have hl' : (L.length : Int) ≤ 200 := by omega
  have hcl' : (L.length : Int) ≤ (cap : Int) := by omega
  go_enter Try.func8, Try.ntmps8
  go_wp2_with (go_at_call 14; refine hh.mono ?_; rintro e w' ⟨rfl, rfl⟩)
  clear hh
  go_loop [5] (fun i => ∃ k : Nat, i = .int .i64 k ∧ k ≤ L.length ∧ ∀ x ∈ L.drop k, n < x) (fun i => (intOf i).toNat)
  case atStart => exact ⟨L.length, rfl, Nat.le_refl _, fun x hx => by simp at hx⟩
  case round =>
    obtain ⟨k, rfl, hk, hdr⟩ := hrel
    have hk' : (k : Int) ≤ (L.length : Int) := by omega
    by_cases hgo : 0 < k ∧ n < L.getD (k - 1) 0
    · obtain ⟨hk0, hgt⟩ := hgo
      obtain ⟨j, hj⟩ : ∃ j, k - 1 = j := ⟨_, rfl⟩
      have hji : (k : Int) - 1 = (j : Int) := by omega
      rw [hj] at hgt
      have hx := HX.out j (by omega)
      have hjl : (j : Int) < (L.length : Int) := by omega
      have hd0 : decide ((0 : Int) < (k : Int)) = true := decide_eq_true (by omega)
      have hdn : ∀ x ∈ L.drop j, n < x := fun x hm => by
        rw [List.drop_eq_getElem_cons (by omega)] at hm
        rcases List.mem_cons.1 hm with rfl | hm
        · have e : L.getD j 0 = L[j] := by simp [show j < L.length by omega]
          rw [← e]; exact hgt
        · rw [show j + 1 = k by omega] at hm
          exact hdr x hm
      have HD := Lib.hid hdn
      have HK : Hid (j < k) := Lib.hid (by omega)
      generalize L.getD j 0 = x at *
      have hd1 : decide (n < x) = true := decide_eq_true hgt
      clear hdr hj hgt hdn hk0
      go_wp2_with fail
      clear hji
      go_round
      case rel => exact ⟨j, rfl, by omega, HD.out⟩
      case measure => simp [intOf]; have := HK.out; omega
    · have htk : ∀ x ∈ L.take k, x ≤ n := by
        by_cases hk0 : 0 < k
        · exact low_take HINC.out (j := k - 1) (by omega) (by omega) (by omega)
        · obtain rfl : k = 0 := by omega
          intro x hx; simp at hx
      have HMI := Lib.hid (HMID.out k htk hdr)
      have hlen : (L.take k).length ≤ 200 := by rw [List.length_take]; omega
      clear hdr htk
      have hM33 : (midS s.1 n).length ≤ 33 := by have := HM.out.2.2.1; have := HOK.out.2.1; omega
      by_cases hk0 : 0 < k
      · obtain ⟨j, hj⟩ : ∃ j, k - 1 = j := ⟨_, rfl⟩
        have hji : (k : Int) - 1 = (j : Int) := by omega
        have hx := HX.out j (by omega)
        have hjl : (j : Int) < (L.length : Int) := by omega
        have hd0 : decide ((0 : Int) < (k : Int)) = true := decide_eq_true (by omega)
        have hd1 : decide (n < L.getD j 0) = false := decide_eq_false (by rw [← hj]; omega)
        generalize L.getD j 0 = x at hx hd1
        have hk00 : (0 : Int) ≤ (k : Int) := by omega
        have hkc : (k : Int) ≤ (cap : Int) := by omega
        clear hgo hj
        by_cases hck : cap = k
        · obtain rfl : k = cap := hck.symm
          by_cases h33 : (midS s.1 n).length = 33
          · have H33 := Lib.hid h33
            clear h33
            go_wp2_with (first
              | (at_builtin; refine wpList_append_ints .i64 3 8 (.tmp 49) (.tmp 55) 22 rfl rfl info3 Try.underlying22 w.heap.size _ 0 [] rfl (own_zero1 w) _ (L.take k) rfl ((rd_take HX.out hk hcl HMX.out).below (below_alloc w _)) (by simp; omega) (by simp; omega) (by simp) ?_; intro v1 w1 hown1 hb1 _; have hown1 := Lib.hid hown1; have hb1 := Lib.hid ((below_alloc w _).trans (hb1.mono (Nat.le_refl _))); have hz1 := hb1.out.size; obtain ⟨a1, m1, c1', rfl⟩ := own_shape hown1.out; have hcB1 : w1.cell? ⟨B, 0, none⟩ = _ := (hb1.out.cell (p := ⟨B, 0, none⟩) hBw).trans hc)
              | (at_builtin; refine wpList_append_ints .i64 3 8 (.tmp 56) (.tmp 58) 22 rfl rfl info3 Try.underlying22 w.heap.size _ _ _ rfl (own_alloc hown1.out _) _ [n] rfl (Rd.lit .i64 3 w1 [n] (by simp)) (by simp; omega) (by simp; omega) (by simp; omega) ?_; intro v2 w2 hown2 hb2 _; have hown2 := Lib.hid hown2; have hb2 := Lib.hid ((hb1.out.alloc hz1 _).trans hb2); have hz2 := hb2.out.size; obtain ⟨a2, m2, c2', rfl⟩ := own_shape hown2.out; have hcB2 : w2.cell? ⟨B, 0, none⟩ = _ := (hb2.out.cell (p := ⟨B, 0, none⟩) hBw).trans hc)
              | (at_builtin; refine wpList_append_ints .i64 3 8 (.tmp 61) (.tmp 67) 22 rfl rfl info3 Try.underlying22 w.heap.size _ _ _ rfl hown2.out _ (L.drop k) rfl ((rd_drop (m := 0) (c := 0) HX.out hk (by omega) (Or.inr (by omega)) (by omega) (by have := HMX.out; omega)).below hb2.out) (by simp; omega) (by simp; omega) hz2 ?_; intro v3 w3 hown3 hb3 _; have hst := Lib.hid (rstore HBX.out (hb2.out.trans hb3) hlo hBlo (L := nums (midS s.1 n)) (by rw [← HMI.out]; simp; omega) (nums_bound HM.out.1) (by rw [← HMI.out]; simp) (by rw [← HMI.out]; exact hown3)); have hown3' : w3.ownsRow w.heap.size 3 1 v3 (nums (midS s.1 n)).length (cs .i64 (nums (midS s.1 n))) := (by rw [← HMI.out]; exact own_len hown3); obtain ⟨g3, c3, rfl, hg3, hg3l, hlc3, hmc3, hce3⟩ := own_open1 hown3' (by rw [← HMI.out]; simp; omega); have hB3 := Lib.hid (hb2.out.trans hb3); have hfz3 : w3.frozen? ⟨B, 0, none⟩ = false := (hB3.out.frozen (p := ⟨B, 0, none⟩) hBw).trans hfz0; have hcB3 : w3.cell? ⟨B, 0, none⟩ = _ := (hB3.out.cell (p := ⟨B, 0, none⟩) hBw).trans hc))
            refine (rspans_any hst.out.1).mono ?_
            rintro e w4 ⟨v4, rfl, ho4, hb4⟩
            rw [spans_nums HM.out.1] at ho4
            obtain ⟨g, cp, e4, hg, hgl, hfg, hat⟩ := rown_open ho4 HM.out.2.2.2
            rw [H33.out] at e4
            subst e4
            obtain ⟨ft, hft⟩ : ∃ ft, (midS s.1 n).getD 32 (0, 0) = ft := ⟨_, rfl⟩
            obtain ⟨f, t⟩ := ft
            have hcc := hat 32 (by rw [H33.out]; decide)
            rw [hft] at hcc
            have hz64 : w4.cell? ⟨g, 64, none⟩ = some (.int .i64 f) := hcc.1
            have hz65 : w4.cell? ⟨g, 65, none⟩ = some (.int .i64 t) := hcc.2
            have hftm := wf_at HM.out.1 (k := 32) (by rw [H33.out]; decide)
            rw [hft] at hftm
            obtain ⟨hf0, hft1, ht2⟩ := hftm
            simp only at hf0 hft1 ht2
            obtain ⟨d, hd⟩ : ∃ d : Nat, t - f = (d : Int) := ⟨(t - f).toNat, by omega⟩
            have hless := low_less HM.out.1 H33.out hft hd
            have HFT := Lib.hid hft
            have hBw3 : B < (w3.setCell ⟨B, 0, none⟩ (.slice (some ⟨g3, 0, none⟩) (nums (midS s.1 n)).length c3)).heap.size := blk_lt hst.out.2.2
            have hbx4 : w4.heap[B]? = some (.cells #[.slice (some ⟨g3, 0, none⟩) (nums (midS s.1 n)).length c3, .int .i64 s.2] 29 (0, 0)) := (hb4.block B hBw3).trans hst.out.2.2
            have c40 : w4.cell? ⟨B, 0, none⟩ = some (.slice (some ⟨g3, 0, none⟩) (nums (midS s.1 n)).length c3) := (cell_of_row _ B 0 _ _ (0, 0) hbx4).trans rfl
            have c41 : w4.cell? ⟨B, 1, none⟩ = some (.int .i64 s.2) := (cell_of_row _ B 1 _ _ (0, 0) hbx4).trans rfl
            have f40 : w4.frozen? ⟨B, 0, none⟩ = false := by simp [World.frozen?, hbx4]
            have f41 : w4.frozen? ⟨B, 1, none⟩ = false := by simp [World.frozen?, hbx4]
            have hce4 : ∀ j, j < (nums (midS s.1 n)).length → w4.cell? ⟨g3, 0 + j, none⟩ = some (.int .i64 ((nums (midS s.1 n)).getD j 0)) := fun j hj => by
              have h1 : (w3.setCell ⟨B, 0, none⟩ (.slice (some ⟨g3, 0, none⟩) (nums (midS s.1 n)).length c3)).cell? ⟨g3, 0 + j, none⟩ = w3.cell? ⟨g3, 0 + j, none⟩ := by
                unfold World.cell?
                rw [Below.heap_setCell _ _ _ _ (by simp; omega)]
              have h2 := h1.trans (hce3 j hj)
              exact (hb4.cell (cell_lt h2)).trans h2
            have HCE := Lib.hid hce4
            have HBX4 := Lib.hid hbx4
            have HB4 := Lib.hid hb4
            have HD := Lib.hid hd
            have hNl : (nums (midS s.1 n)).length ≤ 201 := by rw [← HMI.out]; simp; omega
            have hN := Lib.hid hNl
            generalize hNN : (nums (midS s.1 n)).length = N at *
            have HNN := Lib.hid hNN
            have hq1 : (d : Int) + 1 ≤ (N : Int) := by omega
            have hq0 : (0 : Int) ≤ (d : Int) + 1 := by omega
            have hq2 : ¬ c3 = d + 1 := by omega
            have hNc : (N : Int) ≤ (c3 : Int) := by omega
            have hB4w : B < w4.heap.size := blk_lt HBX4.out
            clear hcc hat ho4 hft hbx4 hce4 hce3 hcB1 hcB2 hcB3 hz1 hz2 hb4 hNN hNl hless
            go_wp2_with fail
            have hW1 : ((w4.setCell ⟨B, 1, none⟩ (.int .i64 (t + 1))).alloc (.cells #[.int .i64 f, .int .i64 t] 52)).heap[B]? = some (.cells #[.slice (some ⟨g3, 0, none⟩) N c3, .int .i64 (t + 1)] 29 (0, 0)) := by
              rw [(below_alloc _ _).block B (by simpa [World.setCell] using hB4w)]
              exact set_one HBX4.out _
            have hW2 : But B w4 ((w4.setCell ⟨B, 1, none⟩ (.int .i64 (t + 1))).alloc (.cells #[.int .i64 f, .int .i64 t] 52)) := (But.set _ _ _ _).trans (But.of_below (below_alloc _ _))
            have hW3 : ((w4.setCell ⟨B, 1, none⟩ (.int .i64 (t + 1))).alloc (.cells #[.int .i64 f, .int .i64 t] 52)).cell? ⟨w4.heap.size, 0, none⟩ = some (.int .i64 f) ∧ ((w4.setCell ⟨B, 1, none⟩ (.int .i64 (t + 1))).alloc (.cells #[.int .i64 f, .int .i64 t] 52)).cell? ⟨w4.heap.size, 1, none⟩ = some (.int .i64 t) := by
              have hz : (w4.setCell ⟨B, 1, none⟩ (.int .i64 (t + 1))).heap.size = w4.heap.size := by simp [World.setCell]
              rw [← hz]
              exact ⟨by simp [go_sem], by simp [go_sem]⟩
            generalize (w4.setCell ⟨B, 1, none⟩ (.int .i64 (t + 1))).alloc (.cells #[.int .i64 f, .int .i64 t] 52) = W5 at *
            have c50 : W5.cell? ⟨B, 0, none⟩ = some (.slice (some ⟨g3, 0, none⟩) N c3) := (cell_of_row _ B 0 _ _ (0, 0) hW1).trans rfl
            have f50 : W5.frozen? ⟨B, 0, none⟩ = false := by simp [World.frozen?, hW1]
            have c51 := hW3.1
            have c52 := hW3.2
            have HW1 := Lib.hid hW1
            have HW2 := Lib.hid hW2
            have e1 : IntKind.i64.wrap (d : Int) = (d : Int) := IntWalk.i64_in _ (by omega)
            have e2 : IntKind.i64.wrap ((d : Int) + 1) = (d : Int) + 1 := IntWalk.i64_in _ (by omega)
            have hdd := HD.out
            clear hW1 hW2 hW3 c40 c41 f40 f41 hz64 hz65
            go_still_tail 12, (by kernel_rfl)
            clear e1 e2 hdd
            go_wp2_with fail
            go_ret
            refine ⟨rfl, ?_⟩
            have e : addS s n = ((midS s.1 n).take 32, t + 1) := by
              unfold addS
              rw [if_pos HB.out]
              unfold keepS
              rw [if_pos (by have := H33.out; omega), HFT.out]
            unfold RAdded
            rw [e]
            refine low_end HM.out.1 H33.out HFT.out HD.out hBlo (Nat.le_trans hlo hg3) HNN.out hlc3 hmc3 (by have := hN.out; omega) HCE.out HW2.out HW1.out _ (hst.out.2.1.trans (But.of_below HB4.out))
          · have h32 : ((midS s.1 n).length : Int) ≤ 32 := by omega
            go_wp2_with (first
              | (at_builtin; refine wpList_append_ints .i64 3 8 (.tmp 49) (.tmp 55) 22 rfl rfl info3 Try.underlying22 w.heap.size _ 0 [] rfl (own_zero1 w) _ (L.take k) rfl ((rd_take HX.out hk hcl HMX.out).below (below_alloc w _)) (by simp; omega) (by simp; omega) (by simp) ?_; intro v1 w1 hown1 hb1 _; have hown1 := Lib.hid hown1; have hb1 := Lib.hid ((below_alloc w _).trans (hb1.mono (Nat.le_refl _))); have hz1 := hb1.out.size; obtain ⟨a1, m1, c1', rfl⟩ := own_shape hown1.out; have hcB1 : w1.cell? ⟨B, 0, none⟩ = _ := (hb1.out.cell (p := ⟨B, 0, none⟩) hBw).trans hc)
              | (at_builtin; refine wpList_append_ints .i64 3 8 (.tmp 56) (.tmp 58) 22 rfl rfl info3 Try.underlying22 w.heap.size _ _ _ rfl (own_alloc hown1.out _) _ [n] rfl (Rd.lit .i64 3 w1 [n] (by simp)) (by simp; omega) (by simp; omega) (by simp; omega) ?_; intro v2 w2 hown2 hb2 _; have hown2 := Lib.hid hown2; have hb2 := Lib.hid ((hb1.out.alloc hz1 _).trans hb2); have hz2 := hb2.out.size; obtain ⟨a2, m2, c2', rfl⟩ := own_shape hown2.out; have hcB2 : w2.cell? ⟨B, 0, none⟩ = _ := (hb2.out.cell (p := ⟨B, 0, none⟩) hBw).trans hc)
              | (at_builtin; refine wpList_append_ints .i64 3 8 (.tmp 61) (.tmp 67) 22 rfl rfl info3 Try.underlying22 w.heap.size _ _ _ rfl hown2.out _ (L.drop k) rfl ((rd_drop (m := 0) (c := 0) HX.out hk (by omega) (Or.inr (by omega)) (by omega) (by have := HMX.out; omega)).below hb2.out) (by simp; omega) (by simp; omega) hz2 ?_; intro v3 w3 hown3 hb3 _; have hst := Lib.hid (rstore HBX.out (hb2.out.trans hb3) hlo hBlo (L := nums (midS s.1 n)) (by rw [← HMI.out]; simp; omega) (nums_bound HM.out.1) (by rw [← HMI.out]; simp) (by rw [← HMI.out]; exact hown3)); obtain ⟨a3, m3, c3', rfl⟩ := own_shape hown3; have hB3 := Lib.hid (hb2.out.trans hb3); have hfz3 : w3.frozen? ⟨B, 0, none⟩ = false := (hB3.out.frozen (p := ⟨B, 0, none⟩) hBw).trans hfz0; have hcB3 : w3.cell? ⟨B, 0, none⟩ = _ := (hB3.out.cell (p := ⟨B, 0, none⟩) hBw).trans hc)
              | (go_at_call 11; refine (rspans_any hst.out.1).mono ?_; rintro e w4 ⟨v4, rfl, ho4, hb4⟩; rw [spans_nums HM.out.1] at ho4; obtain ⟨g, cp, rfl, hg, hgl, hfg, hat⟩ := rown_open ho4 HM.out.2.2.2; have h4 := Lib.hid hb4; clear hat ho4))
            go_ret
            refine ⟨rfl, ?_⟩
            have e : addS s n = (midS s.1 n, s.2) := by unfold addS; rw [if_pos HB.out]; unfold keepS; rw [if_neg (by omega)]
            unfold RAdded; rw [e]
            exact ⟨hst.out.1.below h4.out, hst.out.2.1.trans (But.of_below h4.out)⟩
        · by_cases h33 : (midS s.1 n).length = 33
          · have H33 := Lib.hid h33
            clear h33
            go_wp2_with (first
              | (at_builtin; refine wpList_append_ints .i64 3 8 (.tmp 49) (.tmp 55) 22 rfl rfl info3 Try.underlying22 w.heap.size _ 0 [] rfl (own_zero1 w) _ (L.take k) rfl ((rd_take HX.out hk hcl HMX.out).below (below_alloc w _)) (by simp; omega) (by simp; omega) (by simp) ?_; intro v1 w1 hown1 hb1 _; have hown1 := Lib.hid hown1; have hb1 := Lib.hid ((below_alloc w _).trans (hb1.mono (Nat.le_refl _))); have hz1 := hb1.out.size; obtain ⟨a1, m1, c1', rfl⟩ := own_shape hown1.out; have hcB1 : w1.cell? ⟨B, 0, none⟩ = _ := (hb1.out.cell (p := ⟨B, 0, none⟩) hBw).trans hc)
              | (at_builtin; refine wpList_append_ints .i64 3 8 (.tmp 56) (.tmp 58) 22 rfl rfl info3 Try.underlying22 w.heap.size _ _ _ rfl (own_alloc hown1.out _) _ [n] rfl (Rd.lit .i64 3 w1 [n] (by simp)) (by simp; omega) (by simp; omega) (by simp; omega) ?_; intro v2 w2 hown2 hb2 _; have hown2 := Lib.hid hown2; have hb2 := Lib.hid ((hb1.out.alloc hz1 _).trans hb2); have hz2 := hb2.out.size; obtain ⟨a2, m2, c2', rfl⟩ := own_shape hown2.out; have hcB2 : w2.cell? ⟨B, 0, none⟩ = _ := (hb2.out.cell (p := ⟨B, 0, none⟩) hBw).trans hc)
              | (at_builtin; refine wpList_append_ints .i64 3 8 (.tmp 61) (.tmp 67) 22 rfl rfl info3 Try.underlying22 w.heap.size _ _ _ rfl hown2.out _ (L.drop k) rfl ((rd_drop HX.out hk rfl (Or.inl rfl) (by omega) (by have := HMX.out; omega)).below hb2.out) (by simp; omega) (by simp; omega) hz2 ?_; intro v3 w3 hown3 hb3 _; have hst := Lib.hid (rstore HBX.out (hb2.out.trans hb3) hlo hBlo (L := nums (midS s.1 n)) (by rw [← HMI.out]; simp; omega) (nums_bound HM.out.1) (by rw [← HMI.out]; simp) (by rw [← HMI.out]; exact hown3)); have hown3' : w3.ownsRow w.heap.size 3 1 v3 (nums (midS s.1 n)).length (cs .i64 (nums (midS s.1 n))) := (by rw [← HMI.out]; exact own_len hown3); obtain ⟨g3, c3, rfl, hg3, hg3l, hlc3, hmc3, hce3⟩ := own_open1 hown3' (by rw [← HMI.out]; simp; omega); have hB3 := Lib.hid (hb2.out.trans hb3); have hfz3 : w3.frozen? ⟨B, 0, none⟩ = false := (hB3.out.frozen (p := ⟨B, 0, none⟩) hBw).trans hfz0; have hcB3 : w3.cell? ⟨B, 0, none⟩ = _ := (hB3.out.cell (p := ⟨B, 0, none⟩) hBw).trans hc))
            refine (rspans_any hst.out.1).mono ?_
            rintro e w4 ⟨v4, rfl, ho4, hb4⟩
            rw [spans_nums HM.out.1] at ho4
            obtain ⟨g, cp, e4, hg, hgl, hfg, hat⟩ := rown_open ho4 HM.out.2.2.2
            rw [H33.out] at e4
            subst e4
            obtain ⟨ft, hft⟩ : ∃ ft, (midS s.1 n).getD 32 (0, 0) = ft := ⟨_, rfl⟩
            obtain ⟨f, t⟩ := ft
            have hcc := hat 32 (by rw [H33.out]; decide)
            rw [hft] at hcc
            have hz64 : w4.cell? ⟨g, 64, none⟩ = some (.int .i64 f) := hcc.1
            have hz65 : w4.cell? ⟨g, 65, none⟩ = some (.int .i64 t) := hcc.2
            have hftm := wf_at HM.out.1 (k := 32) (by rw [H33.out]; decide)
            rw [hft] at hftm
            obtain ⟨hf0, hft1, ht2⟩ := hftm
            simp only at hf0 hft1 ht2
            obtain ⟨d, hd⟩ : ∃ d : Nat, t - f = (d : Int) := ⟨(t - f).toNat, by omega⟩
            have hless := low_less HM.out.1 H33.out hft hd
            have HFT := Lib.hid hft
            have hBw3 : B < (w3.setCell ⟨B, 0, none⟩ (.slice (some ⟨g3, 0, none⟩) (nums (midS s.1 n)).length c3)).heap.size := blk_lt hst.out.2.2
            have hbx4 : w4.heap[B]? = some (.cells #[.slice (some ⟨g3, 0, none⟩) (nums (midS s.1 n)).length c3, .int .i64 s.2] 29 (0, 0)) := (hb4.block B hBw3).trans hst.out.2.2
            have c40 : w4.cell? ⟨B, 0, none⟩ = some (.slice (some ⟨g3, 0, none⟩) (nums (midS s.1 n)).length c3) := (cell_of_row _ B 0 _ _ (0, 0) hbx4).trans rfl
            have c41 : w4.cell? ⟨B, 1, none⟩ = some (.int .i64 s.2) := (cell_of_row _ B 1 _ _ (0, 0) hbx4).trans rfl
            have f40 : w4.frozen? ⟨B, 0, none⟩ = false := by simp [World.frozen?, hbx4]
            have f41 : w4.frozen? ⟨B, 1, none⟩ = false := by simp [World.frozen?, hbx4]
            have hce4 : ∀ j, j < (nums (midS s.1 n)).length → w4.cell? ⟨g3, 0 + j, none⟩ = some (.int .i64 ((nums (midS s.1 n)).getD j 0)) := fun j hj => by
              have h1 : (w3.setCell ⟨B, 0, none⟩ (.slice (some ⟨g3, 0, none⟩) (nums (midS s.1 n)).length c3)).cell? ⟨g3, 0 + j, none⟩ = w3.cell? ⟨g3, 0 + j, none⟩ := by
                unfold World.cell?
                rw [Below.heap_setCell _ _ _ _ (by simp; omega)]
              have h2 := h1.trans (hce3 j hj)
              exact (hb4.cell (cell_lt h2)).trans h2
            have HCE := Lib.hid hce4
            have HBX4 := Lib.hid hbx4
            have HB4 := Lib.hid hb4
            have HD := Lib.hid hd
            have hNl : (nums (midS s.1 n)).length ≤ 201 := by rw [← HMI.out]; simp; omega
            have hN := Lib.hid hNl
            generalize hNN : (nums (midS s.1 n)).length = N at *
            have HNN := Lib.hid hNN
            have hq1 : (d : Int) + 1 ≤ (N : Int) := by omega
            have hq0 : (0 : Int) ≤ (d : Int) + 1 := by omega
            have hq2 : ¬ c3 = d + 1 := by omega
            have hNc : (N : Int) ≤ (c3 : Int) := by omega
            have hB4w : B < w4.heap.size := blk_lt HBX4.out
            clear hcc hat ho4 hft hbx4 hce4 hce3 hcB1 hcB2 hcB3 hz1 hz2 hb4 hNN hNl hless
            go_wp2_with fail
            have hW1 : ((w4.setCell ⟨B, 1, none⟩ (.int .i64 (t + 1))).alloc (.cells #[.int .i64 f, .int .i64 t] 52)).heap[B]? = some (.cells #[.slice (some ⟨g3, 0, none⟩) N c3, .int .i64 (t + 1)] 29 (0, 0)) := by
              rw [(below_alloc _ _).block B (by simpa [World.setCell] using hB4w)]
              exact set_one HBX4.out _
            have hW2 : But B w4 ((w4.setCell ⟨B, 1, none⟩ (.int .i64 (t + 1))).alloc (.cells #[.int .i64 f, .int .i64 t] 52)) := (But.set _ _ _ _).trans (But.of_below (below_alloc _ _))
            have hW3 : ((w4.setCell ⟨B, 1, none⟩ (.int .i64 (t + 1))).alloc (.cells #[.int .i64 f, .int .i64 t] 52)).cell? ⟨w4.heap.size, 0, none⟩ = some (.int .i64 f) ∧ ((w4.setCell ⟨B, 1, none⟩ (.int .i64 (t + 1))).alloc (.cells #[.int .i64 f, .int .i64 t] 52)).cell? ⟨w4.heap.size, 1, none⟩ = some (.int .i64 t) := by
              have hz : (w4.setCell ⟨B, 1, none⟩ (.int .i64 (t + 1))).heap.size = w4.heap.size := by simp [World.setCell]
              rw [← hz]
              exact ⟨by simp [go_sem], by simp [go_sem]⟩
            generalize (w4.setCell ⟨B, 1, none⟩ (.int .i64 (t + 1))).alloc (.cells #[.int .i64 f, .int .i64 t] 52) = W5 at *
            have c50 : W5.cell? ⟨B, 0, none⟩ = some (.slice (some ⟨g3, 0, none⟩) N c3) := (cell_of_row _ B 0 _ _ (0, 0) hW1).trans rfl
            have f50 : W5.frozen? ⟨B, 0, none⟩ = false := by simp [World.frozen?, hW1]
            have c51 := hW3.1
            have c52 := hW3.2
            have HW1 := Lib.hid hW1
            have HW2 := Lib.hid hW2
            have e1 : IntKind.i64.wrap (d : Int) = (d : Int) := IntWalk.i64_in _ (by omega)
            have e2 : IntKind.i64.wrap ((d : Int) + 1) = (d : Int) + 1 := IntWalk.i64_in _ (by omega)
            have hdd := HD.out
            clear hW1 hW2 hW3 c40 c41 f40 f41 hz64 hz65
            go_still_tail 12, (by kernel_rfl)
            clear e1 e2 hdd
            go_wp2_with fail
            go_ret
            refine ⟨rfl, ?_⟩
            have e : addS s n = ((midS s.1 n).take 32, t + 1) := by
              unfold addS
              rw [if_pos HB.out]
              unfold keepS
              rw [if_pos (by have := H33.out; omega), HFT.out]
            unfold RAdded
            rw [e]
            refine low_end HM.out.1 H33.out HFT.out HD.out hBlo (Nat.le_trans hlo hg3) HNN.out hlc3 hmc3 (by have := hN.out; omega) HCE.out HW2.out HW1.out _ (hst.out.2.1.trans (But.of_below HB4.out))
          · have h32 : ((midS s.1 n).length : Int) ≤ 32 := by omega
            go_wp2_with (first
              | (at_builtin; refine wpList_append_ints .i64 3 8 (.tmp 49) (.tmp 55) 22 rfl rfl info3 Try.underlying22 w.heap.size _ 0 [] rfl (own_zero1 w) _ (L.take k) rfl ((rd_take HX.out hk hcl HMX.out).below (below_alloc w _)) (by simp; omega) (by simp; omega) (by simp) ?_; intro v1 w1 hown1 hb1 _; have hown1 := Lib.hid hown1; have hb1 := Lib.hid ((below_alloc w _).trans (hb1.mono (Nat.le_refl _))); have hz1 := hb1.out.size; obtain ⟨a1, m1, c1', rfl⟩ := own_shape hown1.out; have hcB1 : w1.cell? ⟨B, 0, none⟩ = _ := (hb1.out.cell (p := ⟨B, 0, none⟩) hBw).trans hc)
              | (at_builtin; refine wpList_append_ints .i64 3 8 (.tmp 56) (.tmp 58) 22 rfl rfl info3 Try.underlying22 w.heap.size _ _ _ rfl (own_alloc hown1.out _) _ [n] rfl (Rd.lit .i64 3 w1 [n] (by simp)) (by simp; omega) (by simp; omega) (by simp; omega) ?_; intro v2 w2 hown2 hb2 _; have hown2 := Lib.hid hown2; have hb2 := Lib.hid ((hb1.out.alloc hz1 _).trans hb2); have hz2 := hb2.out.size; obtain ⟨a2, m2, c2', rfl⟩ := own_shape hown2.out; have hcB2 : w2.cell? ⟨B, 0, none⟩ = _ := (hb2.out.cell (p := ⟨B, 0, none⟩) hBw).trans hc)
              | (at_builtin; refine wpList_append_ints .i64 3 8 (.tmp 61) (.tmp 67) 22 rfl rfl info3 Try.underlying22 w.heap.size _ _ _ rfl hown2.out _ (L.drop k) rfl ((rd_drop HX.out hk rfl (Or.inl rfl) (by omega) (by have := HMX.out; omega)).below hb2.out) (by simp; omega) (by simp; omega) hz2 ?_; intro v3 w3 hown3 hb3 _; have hst := Lib.hid (rstore HBX.out (hb2.out.trans hb3) hlo hBlo (L := nums (midS s.1 n)) (by rw [← HMI.out]; simp; omega) (nums_bound HM.out.1) (by rw [← HMI.out]; simp) (by rw [← HMI.out]; exact hown3)); obtain ⟨a3, m3, c3', rfl⟩ := own_shape hown3; have hB3 := Lib.hid (hb2.out.trans hb3); have hfz3 : w3.frozen? ⟨B, 0, none⟩ = false := (hB3.out.frozen (p := ⟨B, 0, none⟩) hBw).trans hfz0; have hcB3 : w3.cell? ⟨B, 0, none⟩ = _ := (hB3.out.cell (p := ⟨B, 0, none⟩) hBw).trans hc)
              | (go_at_call 11; refine (rspans_any hst.out.1).mono ?_; rintro e w4 ⟨v4, rfl, ho4, hb4⟩; rw [spans_nums HM.out.1] at ho4; obtain ⟨g, cp, rfl, hg, hgl, hfg, hat⟩ := rown_open ho4 HM.out.2.2.2; have h4 := Lib.hid hb4; clear hat ho4))
            go_ret
            refine ⟨rfl, ?_⟩
            have e : addS s n = (midS s.1 n, s.2) := by unfold addS; rw [if_pos HB.out]; unfold keepS; rw [if_neg (by omega)]
            unfold RAdded; rw [e]
            exact ⟨hst.out.1.below h4.out, hst.out.2.1.trans (But.of_below h4.out)⟩
      · have hd0 : decide ((0 : Int) < (k : Int)) = false := decide_eq_false (by omega)
        have hk00 : (0 : Int) ≤ (k : Int) := by omega
        have hkc : (k : Int) ≤ (cap : Int) := by omega
        clear hgo
        by_cases hck : cap = k
        · omega
        · by_cases h33 : (midS s.1 n).length = 33
          · have H33 := Lib.hid h33
            clear h33
            go_wp2_with (first
              | (at_builtin; refine wpList_append_ints .i64 3 8 (.tmp 49) (.tmp 55) 22 rfl rfl info3 Try.underlying22 w.heap.size _ 0 [] rfl (own_zero1 w) _ (L.take k) rfl ((rd_take HX.out hk hcl HMX.out).below (below_alloc w _)) (by simp; omega) (by simp; omega) (by simp) ?_; intro v1 w1 hown1 hb1 _; have hown1 := Lib.hid hown1; have hb1 := Lib.hid ((below_alloc w _).trans (hb1.mono (Nat.le_refl _))); have hz1 := hb1.out.size; obtain ⟨a1, m1, c1', rfl⟩ := own_shape hown1.out; have hcB1 : w1.cell? ⟨B, 0, none⟩ = _ := (hb1.out.cell (p := ⟨B, 0, none⟩) hBw).trans hc)
              | (at_builtin; refine wpList_append_ints .i64 3 8 (.tmp 56) (.tmp 58) 22 rfl rfl info3 Try.underlying22 w.heap.size _ _ _ rfl (own_alloc hown1.out _) _ [n] rfl (Rd.lit .i64 3 w1 [n] (by simp)) (by simp; omega) (by simp; omega) (by simp; omega) ?_; intro v2 w2 hown2 hb2 _; have hown2 := Lib.hid hown2; have hb2 := Lib.hid ((hb1.out.alloc hz1 _).trans hb2); have hz2 := hb2.out.size; obtain ⟨a2, m2, c2', rfl⟩ := own_shape hown2.out; have hcB2 : w2.cell? ⟨B, 0, none⟩ = _ := (hb2.out.cell (p := ⟨B, 0, none⟩) hBw).trans hc)
              | (at_builtin; refine wpList_append_ints .i64 3 8 (.tmp 61) (.tmp 67) 22 rfl rfl info3 Try.underlying22 w.heap.size _ _ _ rfl hown2.out _ (L.drop k) rfl ((rd_drop HX.out hk rfl (Or.inl rfl) (by omega) (by have := HMX.out; omega)).below hb2.out) (by simp; omega) (by simp; omega) hz2 ?_; intro v3 w3 hown3 hb3 _; have hst := Lib.hid (rstore HBX.out (hb2.out.trans hb3) hlo hBlo (L := nums (midS s.1 n)) (by rw [← HMI.out]; simp; omega) (nums_bound HM.out.1) (by rw [← HMI.out]; simp) (by rw [← HMI.out]; exact hown3)); have hown3' : w3.ownsRow w.heap.size 3 1 v3 (nums (midS s.1 n)).length (cs .i64 (nums (midS s.1 n))) := (by rw [← HMI.out]; exact own_len hown3); obtain ⟨g3, c3, rfl, hg3, hg3l, hlc3, hmc3, hce3⟩ := own_open1 hown3' (by rw [← HMI.out]; simp; omega); have hB3 := Lib.hid (hb2.out.trans hb3); have hfz3 : w3.frozen? ⟨B, 0, none⟩ = false := (hB3.out.frozen (p := ⟨B, 0, none⟩) hBw).trans hfz0; have hcB3 : w3.cell? ⟨B, 0, none⟩ = _ := (hB3.out.cell (p := ⟨B, 0, none⟩) hBw).trans hc))
            refine (rspans_any hst.out.1).mono ?_
            rintro e w4 ⟨v4, rfl, ho4, hb4⟩
            rw [spans_nums HM.out.1] at ho4
            obtain ⟨g, cp, e4, hg, hgl, hfg, hat⟩ := rown_open ho4 HM.out.2.2.2
            rw [H33.out] at e4
            subst e4
            obtain ⟨ft, hft⟩ : ∃ ft, (midS s.1 n).getD 32 (0, 0) = ft := ⟨_, rfl⟩
            obtain ⟨f, t⟩ := ft
            have hcc := hat 32 (by rw [H33.out]; decide)
            rw [hft] at hcc
            have hz64 : w4.cell? ⟨g, 64, none⟩ = some (.int .i64 f) := hcc.1
            have hz65 : w4.cell? ⟨g, 65, none⟩ = some (.int .i64 t) := hcc.2
            have hftm := wf_at HM.out.1 (k := 32) (by rw [H33.out]; decide)
            rw [hft] at hftm
            obtain ⟨hf0, hft1, ht2⟩ := hftm
            simp only at hf0 hft1 ht2
            obtain ⟨d, hd⟩ : ∃ d : Nat, t - f = (d : Int) := ⟨(t - f).toNat, by omega⟩
            have hless := low_less HM.out.1 H33.out hft hd
            have HFT := Lib.hid hft
            have hBw3 : B < (w3.setCell ⟨B, 0, none⟩ (.slice (some ⟨g3, 0, none⟩) (nums (midS s.1 n)).length c3)).heap.size := blk_lt hst.out.2.2
            have hbx4 : w4.heap[B]? = some (.cells #[.slice (some ⟨g3, 0, none⟩) (nums (midS s.1 n)).length c3, .int .i64 s.2] 29 (0, 0)) := (hb4.block B hBw3).trans hst.out.2.2
            have c40 : w4.cell? ⟨B, 0, none⟩ = some (.slice (some ⟨g3, 0, none⟩) (nums (midS s.1 n)).length c3) := (cell_of_row _ B 0 _ _ (0, 0) hbx4).trans rfl
            have c41 : w4.cell? ⟨B, 1, none⟩ = some (.int .i64 s.2) := (cell_of_row _ B 1 _ _ (0, 0) hbx4).trans rfl
            have f40 : w4.frozen? ⟨B, 0, none⟩ = false := by simp [World.frozen?, hbx4]
            have f41 : w4.frozen? ⟨B, 1, none⟩ = false := by simp [World.frozen?, hbx4]
            have hce4 : ∀ j, j < (nums (midS s.1 n)).length → w4.cell? ⟨g3, 0 + j, none⟩ = some (.int .i64 ((nums (midS s.1 n)).getD j 0)) := fun j hj => by
              have h1 : (w3.setCell ⟨B, 0, none⟩ (.slice (some ⟨g3, 0, none⟩) (nums (midS s.1 n)).length c3)).cell? ⟨g3, 0 + j, none⟩ = w3.cell? ⟨g3, 0 + j, none⟩ := by
                unfold World.cell?
                rw [Below.heap_setCell _ _ _ _ (by simp; omega)]
              have h2 := h1.trans (hce3 j hj)
              exact (hb4.cell (cell_lt h2)).trans h2
            have HCE := Lib.hid hce4
            have HBX4 := Lib.hid hbx4
            have HB4 := Lib.hid hb4
            have HD := Lib.hid hd
            have hNl : (nums (midS s.1 n)).length ≤ 201 := by rw [← HMI.out]; simp; omega
            have hN := Lib.hid hNl
            generalize hNN : (nums (midS s.1 n)).length = N at *
            have HNN := Lib.hid hNN
            have hq1 : (d : Int) + 1 ≤ (N : Int) := by omega
            have hq0 : (0 : Int) ≤ (d : Int) + 1 := by omega
            have hq2 : ¬ c3 = d + 1 := by omega
            have hNc : (N : Int) ≤ (c3 : Int) := by omega
            have hB4w : B < w4.heap.size := blk_lt HBX4.out
            clear hcc hat ho4 hft hbx4 hce4 hce3 hcB1 hcB2 hcB3 hz1 hz2 hb4 hNN hNl hless
            go_wp2_with fail
            have hW1 : ((w4.setCell ⟨B, 1, none⟩ (.int .i64 (t + 1))).alloc (.cells #[.int .i64 f, .int .i64 t] 52)).heap[B]? = some (.cells #[.slice (some ⟨g3, 0, none⟩) N c3, .int .i64 (t + 1)] 29 (0, 0)) := by
              rw [(below_alloc _ _).block B (by simpa [World.setCell] using hB4w)]
              exact set_one HBX4.out _
            have hW2 : But B w4 ((w4.setCell ⟨B, 1, none⟩ (.int .i64 (t + 1))).alloc (.cells #[.int .i64 f, .int .i64 t] 52)) := (But.set _ _ _ _).trans (But.of_below (below_alloc _ _))
            have hW3 : ((w4.setCell ⟨B, 1, none⟩ (.int .i64 (t + 1))).alloc (.cells #[.int .i64 f, .int .i64 t] 52)).cell? ⟨w4.heap.size, 0, none⟩ = some (.int .i64 f) ∧ ((w4.setCell ⟨B, 1, none⟩ (.int .i64 (t + 1))).alloc (.cells #[.int .i64 f, .int .i64 t] 52)).cell? ⟨w4.heap.size, 1, none⟩ = some (.int .i64 t) := by
              have hz : (w4.setCell ⟨B, 1, none⟩ (.int .i64 (t + 1))).heap.size = w4.heap.size := by simp [World.setCell]
              rw [← hz]
              exact ⟨by simp [go_sem], by simp [go_sem]⟩
            generalize (w4.setCell ⟨B, 1, none⟩ (.int .i64 (t + 1))).alloc (.cells #[.int .i64 f, .int .i64 t] 52) = W5 at *
            have c50 : W5.cell? ⟨B, 0, none⟩ = some (.slice (some ⟨g3, 0, none⟩) N c3) := (cell_of_row _ B 0 _ _ (0, 0) hW1).trans rfl
            have f50 : W5.frozen? ⟨B, 0, none⟩ = false := by simp [World.frozen?, hW1]
            have c51 := hW3.1
            have c52 := hW3.2
            have HW1 := Lib.hid hW1
            have HW2 := Lib.hid hW2
            have e1 : IntKind.i64.wrap (d : Int) = (d : Int) := IntWalk.i64_in _ (by omega)
            have e2 : IntKind.i64.wrap ((d : Int) + 1) = (d : Int) + 1 := IntWalk.i64_in _ (by omega)
            have hdd := HD.out
            clear hW1 hW2 hW3 c40 c41 f40 f41 hz64 hz65
            go_still_tail 12, (by kernel_rfl)
            clear e1 e2 hdd
            go_wp2_with fail
            go_ret
            refine ⟨rfl, ?_⟩
            have e : addS s n = ((midS s.1 n).take 32, t + 1) := by
              unfold addS
              rw [if_pos HB.out]
              unfold keepS
              rw [if_pos (by have := H33.out; omega), HFT.out]
            unfold RAdded
            rw [e]
            refine low_end HM.out.1 H33.out HFT.out HD.out hBlo (Nat.le_trans hlo hg3) HNN.out hlc3 hmc3 (by have := hN.out; omega) HCE.out HW2.out HW1.out _ (hst.out.2.1.trans (But.of_below HB4.out))
          · have h32 : ((midS s.1 n).length : Int) ≤ 32 := by omega
            go_wp2_with (first
              | (at_builtin; refine wpList_append_ints .i64 3 8 (.tmp 49) (.tmp 55) 22 rfl rfl info3 Try.underlying22 w.heap.size _ 0 [] rfl (own_zero1 w) _ (L.take k) rfl ((rd_take HX.out hk hcl HMX.out).below (below_alloc w _)) (by simp; omega) (by simp; omega) (by simp) ?_; intro v1 w1 hown1 hb1 _; have hown1 := Lib.hid hown1; have hb1 := Lib.hid ((below_alloc w _).trans (hb1.mono (Nat.le_refl _))); have hz1 := hb1.out.size; obtain ⟨a1, m1, c1', rfl⟩ := own_shape hown1.out; have hcB1 : w1.cell? ⟨B, 0, none⟩ = _ := (hb1.out.cell (p := ⟨B, 0, none⟩) hBw).trans hc)
              | (at_builtin; refine wpList_append_ints .i64 3 8 (.tmp 56) (.tmp 58) 22 rfl rfl info3 Try.underlying22 w.heap.size _ _ _ rfl (own_alloc hown1.out _) _ [n] rfl (Rd.lit .i64 3 w1 [n] (by simp)) (by simp; omega) (by simp; omega) (by simp; omega) ?_; intro v2 w2 hown2 hb2 _; have hown2 := Lib.hid hown2; have hb2 := Lib.hid ((hb1.out.alloc hz1 _).trans hb2); have hz2 := hb2.out.size; obtain ⟨a2, m2, c2', rfl⟩ := own_shape hown2.out; have hcB2 : w2.cell? ⟨B, 0, none⟩ = _ := (hb2.out.cell (p := ⟨B, 0, none⟩) hBw).trans hc)
              | (at_builtin; refine wpList_append_ints .i64 3 8 (.tmp 61) (.tmp 67) 22 rfl rfl info3 Try.underlying22 w.heap.size _ _ _ rfl hown2.out _ (L.drop k) rfl ((rd_drop HX.out hk rfl (Or.inl rfl) (by omega) (by have := HMX.out; omega)).below hb2.out) (by simp; omega) (by simp; omega) hz2 ?_; intro v3 w3 hown3 hb3 _; have hst := Lib.hid (rstore HBX.out (hb2.out.trans hb3) hlo hBlo (L := nums (midS s.1 n)) (by rw [← HMI.out]; simp; omega) (nums_bound HM.out.1) (by rw [← HMI.out]; simp) (by rw [← HMI.out]; exact hown3)); obtain ⟨a3, m3, c3', rfl⟩ := own_shape hown3; have hB3 := Lib.hid (hb2.out.trans hb3); have hfz3 : w3.frozen? ⟨B, 0, none⟩ = false := (hB3.out.frozen (p := ⟨B, 0, none⟩) hBw).trans hfz0; have hcB3 : w3.cell? ⟨B, 0, none⟩ = _ := (hB3.out.cell (p := ⟨B, 0, none⟩) hBw).trans hc)
              | (go_at_call 11; refine (rspans_any hst.out.1).mono ?_; rintro e w4 ⟨v4, rfl, ho4, hb4⟩; rw [spans_nums HM.out.1] at ho4; obtain ⟨g, cp, rfl, hg, hgl, hfg, hat⟩ := rown_open ho4 HM.out.2.2.2; have h4 := Lib.hid hb4; clear hat ho4))
            go_ret
            refine ⟨rfl, ?_⟩
            have e : addS s n = (midS s.1 n, s.2) := by unfold addS; rw [if_pos HB.out]; unfold keepS; rw [if_neg (by omega)]
            unfold RAdded; rw [e]
            exact ⟨hst.out.1.below h4.out, hst.out.2.1.trans (But.of_below h4.out)⟩

end Go.Proofs.Ytnfednhleedljaa
