/- IdealWraps' walk: what was wrapped is unwrapped; one byte that is not 0, or one less, spoils it. -/
import Derived.Test.YthgegjdmmjjffaaIdBytes
namespace Go.Proofs.Ythgegjdmmjjffaa
open Go Go.RowKit

theorem numB_byts {h : Int} (h1 : 1 ≤ h ∧ h ≤ 65536) : Byts (numB h) := by
  rw [numB_yes h1]
  intro z hz
  simp only [List.mem_cons, List.not_mem_nil, or_false] at hz
  omega
theorem wrapB_byts {h : Int} {m : Nat} (h1 : 1 ≤ h ∧ h ≤ 65536) (hm : m ≤ 1200) : wrapB h m = numB h ++ List.replicate (12 + m) 0 ∧ Byts (wrapB h m) ∧ (wrapB h m).length = m + 16 := by
  have e := wrapB_yes (h := h) (n := m) ⟨h1, by omega, by omega⟩
  rw [Int.toNat_natCast] at e
  refine ⟨e, ?_, ?_⟩
  · rw [e]
    intro z hz
    rcases List.mem_append.1 hz with hz | hz
    · exact numB_byts h1 z hz
    · rw [List.eq_of_mem_replicate hz]; omega
  · rw [e, numB_yes h1]; simp; omega
theorem numd_numB {h : Int} (h1 : 1 ≤ h ∧ h ≤ 65536) : numd (numB h) = h := by
  rw [numB_yes h1]
  have e : say4 [0, h / 65536, h / 256 % 256, h % 256] = h := by
    show ((0 * 256 + h / 65536) * 256 + h / 256 % 256) * 256 + h % 256 = h
    omega
  have hl : [0, h / 65536, h / 256 % 256, h % 256].length = 4 := rfl
  generalize [0, h / 65536, h / 256 % 256, h % 256] = L at *
  unfold numd
  rw [e, if_pos ⟨hl, h1⟩]
/-- What was wrapped is unwrapped. -/
theorem unwd_wrapB {h : Int} {m : Nat} (h1 : 1 ≤ h ∧ h ≤ 65536) (hm : m ≤ 1200) : unwd (wrapB h m) = (h, (m : Int)) := by
  obtain ⟨e, _, hl⟩ := wrapB_byts h1 hm
  have h4 : (numB h).length = 4 := by rw [numB_yes h1]; rfl
  have ht : (wrapB h m).take 4 = numB h := by rw [e, List.take_append_of_le_length (by omega), List.take_of_length_le (by omega)]
  have hd : (wrapB h m).drop 4 = List.replicate (12 + m) 0 := by
    rw [e, List.drop_append_of_le_length (by omega), List.drop_of_length_le (by omega)]; rfl
  rw [unwd_yes ⟨by omega, by omega, by rw [ht, numd_numB h1]; omega, by rw [hd]; simp [allZero]⟩, ht, numd_numB h1, hl]
  exact Prod.ext rfl (by simp)
/-- One byte less. -/
theorem unwd_less {h : Int} {m : Nat} (h1 : 1 ≤ h ∧ h ≤ 65536) (hm : m ≤ 1200) : unwd ((wrapB h m).take (m + 15)) = if m = 0 then (0, 0) else (h, (m : Int) - 1) := by
  obtain ⟨e, _, hl⟩ := wrapB_byts h1 hm
  by_cases h0 : m = 0
  · rw [if_pos h0]
    exact unwd_no fun g => by have := g.1; simp [hl] at this; omega
  · rw [if_neg h0]
    have e2 : (wrapB h m).take (m + 15) = wrapB h ((m - 1 : Nat) : Int) := by
      obtain ⟨e', _, _⟩ := wrapB_byts (h := h) (m := m - 1) h1 (by omega)
      have h4 : (numB h).length = 4 := by rw [numB_yes h1]; rfl
      rw [e, e', List.take_append, List.take_of_length_le (by omega), List.take_replicate]
      congr 2
      omega
    rw [e2, unwd_wrapB h1 (by omega)]
    exact Prod.ext rfl (by simp; omega)
/-- A byte behind the number that is not 0. -/
theorem unwd_spoilt {zs : List Int} {q : Nat} (hq : 4 ≤ q) (hz : q < zs.length) : unwd (zs.set q 1) = (0, 0) := by
  refine unwd_no fun g => ?_
  have h4 := g.2.2.2
  unfold allZero at h4
  rw [List.all_eq_true] at h4
  have := h4 1 (List.mem_drop_iff_getElem.2 ⟨q - 4, by simp; omega, by simp [show 4 + (q - 4) = q by omega]⟩)
  simp at this

theorem set_byts {zs : List Int} (h : Byts zs) (q : Nat) : Byts (zs.set q 1) := fun z hz => by
  rcases List.mem_or_eq_of_mem_set hz with hz | rfl
  · exact h z hz
  · omega
theorem own_none5 (W : World) : (W.alloc (.cells #[] 5)).ownsRow W.heap.size 5 1 (.slice (some ⟨W.heap.size, 0, none⟩) 0 0) 0 (cs .u8 []) :=
  ⟨rfl, .inr ⟨_, 0, #[], rfl, Nat.le_refl _, heap_alloc_new W _, Nat.le_refl _, Nat.zero_le _, rfl, rfl⟩⟩
/-- Where a row of bytes of the call's own lies. -/
theorem own_bytes {w : World} {base n : Nat} {v : Value} {xs : List Int} (h : w.ownsRow base 5 1 v n (cs .u8 xs)) (hn : 0 < n) :
    ∃ g cap, v = .slice (some ⟨g, 0, none⟩) n cap ∧ base ≤ g ∧ n ≤ cap ∧ cap ≤ 9223372036854775807 ∧ g < w.heap.size := by
  rcases h.2 with ⟨_, h0⟩ | ⟨g, cap, cur, rfl, hg, hh, h1, h2, h3, h4⟩
  · omega
  · unfold maxLen at h2
    exact ⟨g, cap, rfl, hg, h1, by omega, blk_lt hh⟩
theorem rest_num (q : Int) (m : Nat) (hq : 0 ≤ q) : ∃ r : Nat, r < m + 12 ∧ q.tmod ((m : Int) + 12) = (r : Int) := by
  have tm : q.tmod ((m : Int) + 12) = q % ((m : Int) + 12) := Int.tmod_eq_emod_of_nonneg hq
  have hr0 : 0 ≤ q % ((m : Int) + 12) := Int.emod_nonneg _ (by omega)
  have hr1 : q % ((m : Int) + 12) < (m : Int) + 12 := Int.emod_lt_of_pos _ (by omega)
  rw [tm]
  generalize q % ((m : Int) + 12) = x at *
  exact ⟨x.toNat, by omega, by omega⟩
theorem wr (x : Int) (h : 0 ≤ x) (h1 : x ≤ 1000000) : wrap64 x = x := by unfold wrap64; omega
theorem idx_num {r m : Nat} (h : r < m + 12) : 0 ≤ 4 + (r : Int) ∧ 4 + (r : Int) < (m : Int) + 16 := by omega
theorem k_num {h : Int} (hh : 0 ≤ h ∧ h ≤ 65535) : 1 ≤ wrap64 (h + 1) ∧ wrap64 (h + 1) ≤ 65536 := by rw [wr (h + 1) (by omega) (by omega)]; omega
theorem own3 {w : World} {base L : Nat} {v : Value} {zs : List Int} (h : w.ownsRow base 5 1 v (0 + zs.length) (cs .u8 ([] ++ zs))) (hl : zs.length = L) : w.ownsRow base 5 1 v L (cs .u8 zs) := by
  rw [hl] at h; simpa using h
/-- A cell of such a row. -/
theorem own_spot {w : World} {base g n cap : Nat} {zs : List Int} (h : w.ownsRow base 5 1 (.slice (some ⟨g, 0, none⟩) n cap) n (cs .u8 zs)) (j : Nat) (hj : j < n) : (∃ z, w.cell? ⟨g, j, none⟩ = some (.int .u8 z)) ∧ w.frozen? ⟨g, j, none⟩ = false := by
  refine ⟨?_, h.frozenAt j⟩
  have hl := h.1
  rw [cs_len] at hl
  obtain ⟨hr, _⟩ := Rd.of_own h
  obtain ⟨ao, cp, hv, _, _, _, hc⟩ := hr
  cases hv
  have := hc _ rfl j (by omega)
  rw [Addr.add_lit, Nat.zero_add] at this
  exact ⟨_, this⟩
/-- Behind the store. -/
theorem spoil {w3 : World} {base g m r cap : Nat} {zs : List Int} (h : w3.ownsRow base 5 1 (.slice (some ⟨g, 0, none⟩) (m + 16) cap) (m + 16) (cs .u8 zs)) (hl : zs.length = m + 16) (hb : ∀ z ∈ zs, 0 ≤ z ∧ z ≤ 255) (hr : r < m + 12) :
    Calls Try.prog 42 #[.slice (some ⟨g, 0, none⟩) (m + 16) cap] (w3.setCell ⟨g, 4 + r, none⟩ (.int .u8 1)) (fun e w' => e = .returned (.tuple #[.int .i64 0, .int .i64 0, .bool false]) ∧ w3.setCell ⟨g, 4 + r, none⟩ (.int .u8 1) = w') ∧
    Below base w3 (w3.setCell ⟨g, 4 + r, none⟩ (.int .u8 1)) ∧ True := by
  obtain ⟨ho, hg⟩ := h.stored (4 + r) (.int .u8 1)
  have e : (cs .u8 zs).set (4 + r) (.int .u8 1) = cs .u8 (zs.set (4 + r) 1) := by simp [cs, List.map_set]
  rw [e] at ho
  have hc := unwrap_any (Rd.of_own ho).1 (set_byts hb (4 + r))
  rw [unwd_spoilt (q := 4 + r) (by omega) (by omega)] at hc
  exact ⟨hc, (Below.refl base w3).setCell (h.lt g rfl).1 _, trivial⟩
/-- One byte less, behind it all. -/
theorem less {w1 w4 : World} {base g m cap : Nat} {zs : List Int} {k : Int} (hb : Below w1.heap.size w1 w4) (h : w1.ownsRow base 5 1 (.slice (some ⟨g, 0, none⟩) (m + 16) cap) (m + 16) (cs .u8 zs)) (hl : zs.length = m + 16) (hby : Byts zs)
    (hle : unwd (zs.take (m + 15)) = if m = 0 then (0, 0) else (k, (m : Int) - 1)) :
    Calls Try.prog 42 #[.slice (some ⟨g, 0, none⟩) (m + 15) cap] w4 (fun e w' => e = .returned (.tuple #[.int .i64 (if m = 0 then ((0 : Int), (0 : Int)) else (k, (m : Int) - 1)).1, .int .i64 (if m = 0 then ((0 : Int), (0 : Int)) else (k, (m : Int) - 1)).2, .bool (decide ((if m = 0 then ((0 : Int), (0 : Int)) else (k, (m : Int) - 1)).1 ≠ 0))]) ∧ w4 = w') := by
  obtain ⟨g', cap', e, _, hc, _, _⟩ := own_bytes h (by omega)
  cases e
  have hr := ((Rd.of_own h).1.below hb).sub 0 (m + 15) (by omega) (by omega) (by omega)
  simp only [Nat.add_zero, Nat.sub_zero, List.drop_zero] at hr
  have hc := unwrap_any hr (hby.take _)
  rw [hle] at hc
  exact hc
set_option maxRecDepth 20000 in
set_option maxHeartbeats 2000000 in
theorem wraps_walk {h n q : Int} (hh : 0 ≤ h ∧ h ≤ 65535) (hn : 0 ≤ n ∧ n ≤ 65535) (hq : 0 ≤ q ∧ q ≤ 65535) (w : World) :
    Calls Try.prog 16 #[.int .u16 h, .int .u16 n, .int .u16 q] w fun e w' => e = .returned (.bool true) ∧ Below w.heap.size w w' := by
  obtain ⟨m, hm⟩ : ∃ m : Nat, n % 1201 = (m : Int) := ⟨(n % 1201).toNat, by omega⟩
  have hm2 : m ≤ 1200 := by omega
  obtain ⟨r, hr1, tm⟩ := rest_num q m hq.1
  have v4 : n.tmod 1201 = (m : Int) := by rw [Int.tmod_eq_emod_of_nonneg hn.1, hm]
  have w4 : wrap64 (4 + (r : Int)) = 4 + (r : Int) := wr _ (by omega) (by clear tm v4 hm; omega)
  have w12 : wrap64 ((m : Int) + 12) = (m : Int) + 12 := wr _ (by omega) (by clear tm v4 hm; omega)
  have w16 : wrap64 ((m : Int) + 16) = (m : Int) + 16 := wr _ (by omega) (by clear tm v4 hm; omega)
  have v0 : wrap64 h = h := wr _ hh.1 (Int.le_trans hh.2 (by decide))
  have v1 : wrap64 n = n := wr _ hn.1 (Int.le_trans hn.2 (by decide))
  have v2 : wrap64 q = q := wr _ hq.1 (Int.le_trans hq.2 (by decide))
  have hk : 1 ≤ wrap64 (h + 1) ∧ wrap64 (h + 1) ≤ 65536 := k_num hh
  have HK := Lib.hid hk
  have HM := Lib.hid hm2
  have HR := Lib.hid hr1
  clear hh hn hq hk hm2 hm hr1
  go_enter Try.func16, Try.ntmps16
  go_wp2_with fail
  generalize wrap64 (h + 1) = k at *
  obtain ⟨_, hby, hlen⟩ := wrapB_byts HK.out HM.out
  have hun := unwd_wrapB HK.out HM.out
  have hle := unwd_less HK.out HM.out
  have HBY := Lib.hid hby
  have HLEN := Lib.hid hlen
  have HLE := Lib.hid hle
  refine (wrap_any k m w).mono ?_
  rintro e w1 ⟨v, rfl, ho, b1⟩
  generalize wrapB k m = zs at *
  rw [hlen] at ho
  have c1 := unwrap_any (Rd.of_own ho).1 hby
  rw [hun] at c1
  rw [show decide ((k, (m : Int)).1 ≠ 0) = true from decide_eq_true (by have := HK.out; show k ≠ 0; omega)] at c1
  obtain ⟨g, cap, rfl, hg, hc1, hc2, hg2⟩ := own_bytes ho (by omega)
  clear hby hlen hle hun
  have t1 : (k != k) = false := by simp
  have t2 : ((m : Int) != (m : Int)) = false := by simp
  have t3 : ((m : Int) + 16 != (m : Int) + 16) = false := by simp
  have HO := Lib.hid ho
  clear ho
  go_wp2_with fail
  refine c1.mono ?_
  rintro e w' ⟨rfl, rfl⟩
  clear c1
  have hE := own_none5 w1
  have hR1 := ((Rd.of_own HO.out).1).alloc (.cells #[] 5)
  have hBE := below_alloc w1 (.cells #[] 5)
  have hidx : 0 ≤ 4 + (r : Int) ∧ 4 + (r : Int) < (m : Int) + 16 := idx_num HR.out
  have HLB : Hid (0 + zs.length ≤ 140737488355328) := Lib.hid (by have := HLEN.out; have := HM.out; omega)
  go_wp2_with (at_builtin; refine wpList_append_ints .u8 5 1 (.tmp 54) (.tmp 55) 48 rfl rfl info5' Try.underlying48 w1.heap.size _ 0 [] rfl hE _ zs rfl hR1 (by have := HLB.out; omega) HLB.out hBE.size ?_; intro v3 w3 hown3 hb3 _; have HO3 := Lib.hid (own3 hown3 HLEN.out); clear hown3 hE hR1; obtain ⟨g3, cap3, rfl, hg3, hc31, hc32, hg32⟩ := own_bytes HO3.out (by omega); obtain ⟨⟨z3, hc3⟩, hf3⟩ := own_spot HO3.out (4 + r) (by have := HR.out; omega))
  obtain ⟨hS, hB4, hun4⟩ := spoil (r := r) HO3.out HLEN.out HBY.out HR.out
  generalize w3.setCell ⟨g3, 4 + r, none⟩ (.int .u8 1) = w4 at *
  refine hS.mono ?_
  rintro e w' ⟨rfl, rfl⟩
  have w15 : wrap64 ((m : Int) + 16 - 1) = (m : Int) + 15 := by rw [wr _ (by omega) (by have := HM.out; omega)]; omega
  have HB : Hid (Below w1.heap.size w1 w4) := Lib.hid (hBE.trans (hb3.trans hB4))
  have c5 := less HB.out HO.out HLEN.out HBY.out HLE.out
  have HBW : Hid (Below w.heap.size w w4) := Lib.hid (b1.trans (HB.out.mono b1.size))
  clear hS hb3 hB4 hun4 hBE
  by_cases h0 : m = 0
  · subst h0
    have p1 : decide ((0 : Int) < ((0 : Nat) : Int)) = false := rfl
    have p2 : (((0 : Nat) : Int) == 0) = true := rfl
    have p3 : (false == false) = true := rfl
    rw [if_pos rfl, show decide (((0 : Int), (0 : Int)).1 ≠ 0) = false from rfl] at c5
    go_wp2_with fail
    refine c5.mono ?_
    rintro e w' ⟨rfl, rfl⟩
    clear c5
    go_wp2_with fail
    refine (iawake_any w4).mono ?_
    rintro e w5 ⟨rfl, b5⟩
    go_wp2_with fail
    go_ret
    exact ⟨rfl, HBW.out.trans (b5.mono HBW.out.size)⟩
  · have p0 : 0 < m := by omega
    have p1 : decide ((0 : Int) < (m : Int)) = true := decide_eq_true (by omega)
    have p2 : ((m : Int) == 0) = false := beq_eq_false_iff_ne.2 (by omega)
    have p3 : (true == true) = true := rfl
    have p4 : wrap64 ((m : Int) - 1) = (m : Int) - 1 := wr _ (by omega) (by have := HM.out; omega)
    have p5 : ((m : Int) - 1 == (m : Int) - 1) = true := by simp
    rw [if_neg h0, show decide ((k, (m : Int) - 1).1 ≠ 0) = true from decide_eq_true (by have := HK.out; show k ≠ 0; omega)] at c5
    clear h0
    go_wp2_with fail
    refine c5.mono ?_
    rintro e w' ⟨rfl, rfl⟩
    clear c5
    go_wp2_with fail
    refine (iawake_any w4).mono ?_
    rintro e w5 ⟨rfl, b5⟩
    go_wp2_with fail
    go_ret
    exact ⟨rfl, HBW.out.trans (b5.mono HBW.out.size)⟩
#print axioms wraps_walk
end Go.Proofs.Ythgegjdmmjjffaa
