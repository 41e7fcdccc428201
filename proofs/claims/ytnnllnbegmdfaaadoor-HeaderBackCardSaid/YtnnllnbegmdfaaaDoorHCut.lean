/- HeaderCut: a header that is cut short is too short. -/
import Derived.Test.YtnnllnbegmdfaaaDoorHReads
import Derived.Test.YtnnllnbegmdfaaaDoorHWrites
namespace Go.Proofs.YtnnllnbegmdfaaaDoor
open Go Go.RowKit

theorem wrB_pos (h : Hv) (n : Int) : 0 < (wrB h n).length := by
  unfold wrB
  split <;> simp <;> omega
theorem right_w {h : Hv} (hX : rightB h = true) : h.w ≤ 4 := by
  unfold rightB at hX
  split at hX
  · simp [longB, numB] at hX; omega
  · split at hX
    · simp [longB, numB] at hX; omega
    · split at hX
      · simp [shortB, numB] at hX; omega
      · cases hX
theorem wrB_le {h : Hv} {n : Int} (hX : rightB h = true) (l2 : h.to.length ≤ 1000) (l3 : h.fr.length ≤ 1000) (l4 : h.tk.length ≤ 1000) : (wrB h n).length ≤ 5000 := by
  have hw := right_w hX
  have e1 := enc_len (h.tk.length : Int)
  have e2 := enc_len (h.w + n)
  unfold wrB
  split
  · simp [big_len]; omega
  · split
    · simp only [List.length_append, big_len, List.length_singleton]; omega
    · simp only [List.length_append, big_len, List.length_singleton, List.length_nil]; omega
theorem read_wrB (h : Hv) (n : Int) (body : List Int) (hX : rightB h = true) (hn : 0 ≤ n ∧ n ≤ 16384) (hb : n ≤ body.length) : ∃ s, readP (wrB h n ++ body) = .ok s ∧ s.h = h ∧ s.t = (wrB h n).length ∧ s.e = if h.k = 3 then ((wrB h n ++ body).length : Int) else ((wrB h n).length : Int) + n := by
  by_cases hk : h.k = 3
  · exact ⟨_, read_short h n body hX hk, rfl, rfl, by rw [if_pos hk]⟩
  · exact ⟨_, read_long h n body hX hk hn hb, rfl, rfl, by rw [if_neg hk]⟩
theorem cut_short {h : Hv} (hX : rightB h = true) {k : Nat} (hk : k < (wrB h 0).length) : readP ((wrB h 0).take k) = .error 2 := by
  obtain ⟨s, hs, _, ht, _⟩ := read_wrB h 0 [] hX (by decide) (by simp)
  rw [List.append_nil] at hs
  exact read_cut hs (by omega) (by omega)
theorem Rd.pos {w : World} {base : Nat} {v : Value} {zs : List Int} (h : w.ownsRow base 5 1 v zs.length (by8 zs)) (hp : 0 < zs.length) : ∃ g cap, v = .slice (some ⟨g, 0, none⟩) zs.length cap ∧ zs.length ≤ cap ∧ cap ≤ maxLen := by
  rcases h.2 with ⟨_, h0⟩ | ⟨g, cap, cur, rfl, _, _, h1, h2, _⟩
  · omega
  · exact ⟨g, cap, rfl, h1, h2⟩

set_option maxRecDepth 20000 in
set_option maxHeartbeats 4000000 in
theorem hcut_walk {w : World} (h : Hv) (a : Nat) (ha : a ≤ 65535) (a2 : Option Addr) (c2 : Nat) (a3 : Option Addr) (c3 : Nat) (a4 : Option Addr) (c4 : Nat) (hr : Hr w h (.slice a2 h.to.length c2) (.slice a3 h.fr.length c3) (.slice a4 h.tk.length c4)) (ht : Tab w) (hw : 1 < w.heap.size) :
    Calls Tryd.prog 8 #[.agg #[.int .i64 h.k, .int .i64 h.v, .slice a2 h.to.length c2, .slice a3 h.fr.length c3, .slice a4 h.tk.length c4, .int .i64 h.p, .int .i64 h.n, .int .i64 h.w], .int .u16 (a : Int)] w fun e w' => e = .returned (.bool true) ∧ Below w.heap.size w w' := by
  have hB := below_alloc w (.cells #[.int .i64 h.k, .int .i64 h.v, .slice a2 h.to.length c2, .slice a3 h.fr.length c3, .slice a4 h.tk.length c4, .int .i64 h.p, .int .i64 h.n, .int .i64 h.w] 24)
  have hbx : (w.alloc (.cells #[.int .i64 h.k, .int .i64 h.v, .slice a2 h.to.length c2, .slice a3 h.fr.length c3, .slice a4 h.tk.length c4, .int .i64 h.p, .int .i64 h.n, .int .i64 h.w] 24)).heap[w.heap.size]? = some (.cells #[.int .i64 h.k, .int .i64 h.v, .slice a2 h.to.length c2, .slice a3 h.fr.length c3, .slice a4 h.tk.length c4, .int .i64 h.p, .int .i64 h.n, .int .i64 h.w] 24 (0, 0)) := heap_alloc_new _ _
  have hL := light_any (w.alloc (.cells #[.int .i64 h.k, .int .i64 h.v, .slice a2 h.to.length c2, .slice a3 h.fr.length c3, .slice a4 h.tk.length c4, .int .i64 h.p, .int .i64 h.n, .int .i64 h.w] 24)) h a2 c2 a3 c3 a4 c4 hr.to.len hr.fr.len hr.tk.len
  by_cases hl : lightB h = true
  · obtain ⟨l2, l3, l4⟩ := light_len hl
    rw [hl] at hL
    have HR := Lib.hid hr
    have HTB := Lib.hid ht
    have HSW := Lib.hid hw
    clear hl hr ht hw
    go_enter Tryd.func8, Tryd.ntmps8
    go_wp2_with fail
    refine hL.mono ?_
    rintro e w1 ⟨rfl, hb1⟩
    have HX1 := Lib.hid (row_below hb1 hbx)
    obtain ⟨x0, x1, x2, x3, x4, x5, x6, x7⟩ := cells8 HX1.out
    have HB1 := Lib.hid (hB.trans (hb1.mono hB.size))
    clear hL hb1 hB hbx
    go_wp2_with fail
    refine (of_any h (HR.out.below HB1.out) l2 l3 l4).mono ?_
    rintro e w2 ⟨ut, uf, uk, rfl, hr2, hb2⟩
    obtain ⟨b2, d2, rfl⟩ := Rd.shape hr2.to
    obtain ⟨b3, d3, rfl⟩ := Rd.shape hr2.fr
    obtain ⟨b4, d4, rfl⟩ := Rd.shape hr2.tk
    unfold hcells
    have HB2 := Lib.hid (HB1.out.trans (hb2.mono HB1.out.size))
    have HS1 : Hid (1 < w2.heap.size) := Lib.hid (by have := HSW.out; have := HB2.out.size; omega)
    have HR2 := Lib.hid hr2
    clear x0 x1 x2 x3 x4 x5 x6 x7 hb2 hr2
    by_cases hX : rightB h = true
    · have hW := write_yes w2 h 0 b2 d2 b3 d3 b4 d4 HR2.out hX (by decide) (HTB.out.below HB2.out) HS1.out
      have HBY := Lib.hid (wrB_byt (n := 0) HR.out hX)
      have HX := Lib.hid hX
      have hpos := wrB_pos h 0
      have hle := wrB_le (n := 0) hX l2 l3 l4
      clear hX
      go_wp2_with fail
      refine hW.mono ?_
      rintro e w4 ⟨v4, rfl, hown4, hb4⟩
      have HB4 := Lib.hid (HB2.out.trans (hb4.mono HB2.out.size))
      obtain ⟨g, cap, rfl, hlc, hcm⟩ := Rd.pos hown4 hpos
      have hrd := (Rd.of_own hown4 HBY.out).1
      obtain ⟨k, hkm⟩ : ∃ k : Nat, k = a % (wrB h 0).length := ⟨_, rfl⟩
      have hkl : k < (wrB h 0).length := by rw [hkm]; exact Nat.mod_lt _ hpos
      have hkt := hrd.take k (by omega)
      have hc := read_errW hkt (.inr ⟨_, _, _, _, rfl⟩) (by rw [List.length_take]; omega) 2 (cut_short HX.out hkl)
      have hmi : (a : Int) % ((wrB h 0).length : Int) = (k : Int) := by rw [hkm]; omega
      have hmt : (a : Int).tmod ((wrB h 0).length : Int) = (k : Int) := by rw [Int.tmod_eq_emod_of_nonneg (by omega)]; exact hmi
      unfold maxLen at hcm
      generalize (wrB h 0).length = N at *
      clear hW hown4 hb4 hrd hkt hkm
      unfold zcells at hc
      go_wp2_with fail
      refine hc.mono ?_
      rintro e w5 ⟨rfl, hb5⟩
      have HB5 := Lib.hid (HB4.out.trans (hb5.mono HB4.out.size))
      have HB6 := Lib.hid (HB5.out.trans ((below_alloc w5 (.cells #[.int .i64 0, .int .i64 0, .slice none 0 0, .slice none 0 0, .slice none 0 0, .int .i64 0, .int .i64 0, .int .i64 0] 26)).mono HB5.out.size))
      clear hc hb5
      go_wp2_with fail
      refine (hawake_any _).mono ?_
      rintro e w8 ⟨rfl, hb8⟩
      go_wp2_with fail
      go_ret
      exact ⟨rfl, HB6.out.trans (hb8.mono HB6.out.size)⟩
    · have hX' : rightB h = false := by simpa using hX
      have hW := write_none w2 h 0 b2 d2 b3 d3 b4 d4 l2 l3 l4 (.inl hX')
      clear hX hX'
      go_wp2_with fail
      refine hW.mono ?_
      rintro e w4 ⟨rfl, hb4⟩
      have HB4 := Lib.hid (HB2.out.trans (hb4.mono HB2.out.size))
      clear hW hb4
      go_wp2_with fail
      refine (hawake_any _).mono ?_
      rintro e w8 ⟨rfl, hb8⟩
      go_wp2_with fail
      go_ret
      exact ⟨rfl, HB4.out.trans (hb8.mono HB4.out.size)⟩
  · have hl' : lightB h = false := by simpa using hl
    rw [hl'] at hL
    clear hl hl' hr ht hw hbx
    go_enter Tryd.func8, Tryd.ntmps8
    go_wp2_with fail
    refine hL.mono ?_
    rintro e w1 ⟨rfl, hb1⟩
    go_wp2_with fail
    go_ret
    exact ⟨rfl, hB.trans (hb1.mono hB.size)⟩
#print axioms hcut_walk
end Go.Proofs.YtnnllnbegmdfaaaDoor
