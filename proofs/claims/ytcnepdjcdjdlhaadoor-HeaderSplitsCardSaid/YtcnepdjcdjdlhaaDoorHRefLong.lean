/- The document's own Read of a long header tells what refP says. -/
import Derived.Test.YtcnepdjcdjdlhaaDoorHRefRd
namespace Go.Proofs.YtcnepdjcdjdlhaaDoor
open Go Go.RowKit

theorem inBytes_zs (n : Nat) (s : In) : (inBytes n s).2.zs = s.zs := by
  unfold inBytes
  split
  · split <;> rfl
  · rfl
theorem inNumber_zs (n : Nat) (s : In) : (inNumber n s).2.zs = s.zs := inBytes_zs n s
theorem inNeed_zs (b : Bool) (k : Int) (s : In) : (inNeed b k s).zs = s.zs := by
  unfold inNeed
  split <;> rfl
theorem inMost_zs (n : Nat) (m : Int) (s : In) : (inMost n m s).2.zs = s.zs := (inBytes_zs n _).trans (inNeed_zs _ _ s)
theorem inVarint_zs (s : In) : (inVarint s).2.zs = s.zs := by
  unfold inVarint
  split <;> rfl
theorem inVarint_bd {s : In} (hb : Byt s.zs) : 0 ≤ (inVarint s).1 ∧ (inVarint s).1 < 4611686018427387904 := by
  unfold inVarint
  split
  · rcases rd_size (hb.drop s.t) with ⟨_, h, _⟩ | ⟨h, _⟩
    · exact h
    · simp only [h]; omega
  · simp only; omega
theorem hq_newk {w0 w : World} (hb : w0.heap.size ≤ w.heap.size) (k x : Int) : Hq w0 (w.alloc (.cells #[.int .i64 k, .int .i64 0, .slice none 0 0, .slice none 0 0, .slice none 0 0, .int .i64 0, .int .i64 0, .int .i64 x] 24)) w.heap.size ⟨k, 0, [], [], [], 0, 0, x⟩ :=
  ⟨hb, _, _, _, heap_alloc_new _ _, Rd.nil _, Rd.nil _, Rd.nil _⟩
theorem in1_bdS {s : In} (hb : Byt s.zs) : 0 ≤ (inNumber 1 s).1 ∧ (inNumber 1 s).1 ≤ 255 := by
  obtain ⟨zs, t, e⟩ := s
  exact in1_bd hb t e

set_option maxRecDepth 20000 in
set_option maxHeartbeats 8000000 in
theorem reflong0W {w : World} {vv : Value} {zs : List Int} (hr : Rd w vv zs) (hp : Plain vv) (hl : zs.length ≤ 1000000) (f v a c n num : Int × In) (r1 r2 r3 r4 : In) (to fr : List Int × In) (g : Int × In) (tk : List Int × In) (x : Bool) (hx : (f.1 % 16 < 4 ∧ decide ((f.1 - 192) / 16 < 3) = x) ∨ (4 ≤ f.1 % 16 ∧ x = false)) (hf : inNumber 1 ⟨zs, 0, 0⟩ = f) (h1 : inNeed x 3 f.2 = r1) (hv : inNumber 4 r1 = v) (h2 : inNeed (decide (0 < v.1)) 3 v.2 = r2) (ha : inNumber 1 r2 = a) (hto : inMost a.1.toNat 20 a.2 = to) (hc : inNumber 1 to.2 = c) (hfr : inMost c.1.toNat 20 c.2 = fr) (hg : inVarint fr.2 = g) (htk : inMost g.1.toNat 64 g.2 = tk) (hn : inVarint tk.2 = n) (h3 : inNeed (decide (f.1 % 4 + 1 ≤ n.1)) 3 n.2 = r3) (h4 : inNeed (decide (n.1 ≤ (zs.length : Int) - r3.t)) 2 r3 = r4) (hnum : inNumber (f.1 % 4 + 1).toNat r4 = num) (hlt : 192 ≤ f.1) (hK : (f.1 - 192) / 16 = 0) :
    Calls Tryd.prog 18 #[vv] w fun e w' => ∃ vt vf vk, e = .returned (.tuple #[.agg (hcells (if num.2.e = 0 then (⟨(f.1 - 192) / 16, v.1, to.1, fr.1, tk.1, 0, num.1, f.1 % 4 + 1⟩ : Hv) else Hv.empty) vt vf vk), .int .i64 (if num.2.e = 0 then (num.2.t : Int) else 0), .int .i64 (if num.2.e = 0 then ((r4.t : Int) + n.1) else 0), .int .i64 (if num.2.e = 0 then 0 else num.2.e)]) ∧ Hr w' (if num.2.e = 0 then (⟨(f.1 - 192) / 16, v.1, to.1, fr.1, tk.1, 0, num.1, f.1 % 4 + 1⟩ : Hv) else Hv.empty) vt vf vk ∧ Below w.heap.size w w' := by
  have hz := hr.byt
  have hbd := in1_bd hz 0 0
  rw [hf] at hbd
  have z1 : r2.zs = zs := by rw [← h2, inNeed_zs, ← hv, inNumber_zs, ← h1, inNeed_zs, ← hf, inNumber_zs]
  have z2 : to.2.zs = zs := by rw [← hto, inMost_zs, ← ha, inNumber_zs, z1]
  have z3 : fr.2.zs = zs := by rw [← hfr, inMost_zs, ← hc, inNumber_zs, z2]
  have z4 : tk.2.zs = zs := by rw [← htk, inMost_zs, ← hg, inVarint_zs, z3]
  have ba : 0 ≤ a.1 ∧ a.1 ≤ 255 := by rw [← ha]; exact in1_bdS (by rw [z1]; exact hz)
  have bc : 0 ≤ c.1 ∧ c.1 ≤ 255 := by rw [← hc]; exact in1_bdS (by rw [z2]; exact hz)
  have bn : 0 ≤ n.1 ∧ n.1 < 4611686018427387904 := by rw [← hn]; exact inVarint_bd (by rw [z4]; exact hz)
  have bg : 0 ≤ g.1 ∧ g.1 < 4611686018427387904 := by rw [← hg]; exact inVarint_bd (by rw [z3]; exact hz)
  have Z3 := Lib.hid (show Byt fr.2.zs by rw [z3]; exact hz)
  have Z4 := Lib.hid (show Byt tk.2.zs by rw [z4]; exact hz)
  have z5 : r3.zs = zs := by rw [← h3, inNeed_zs, ← hn, inVarint_zs, z4]
  have z6 : r4.zs = zs := by rw [← h4, inNeed_zs, z5]
  have Z5 := Lib.hid z5
  have Z6 := Lib.hid z6
  obtain ⟨ao, n0, cap, rfl⟩ : ∃ ao n cap, vv = .slice ao n cap := by obtain ⟨ao, cap, hv, _⟩ := hr; exact ⟨ao, _, cap, hv⟩
  have hI := iq_start hr hp hl (.cells #[.int .i64 0, .int .i64 0, .slice none 0 0, .slice none 0 0, .slice none 0 0, .int .i64 0, .int .i64 0, .int .i64 0] 24)
  have hM := (hq_new (w0 := w) (w := w) (Nat.le_refl _) 0).alloc (.cells #[.slice ao n0 cap, .int .i64 0, .int .i64 0] 69)
  have hcF := inumber_q hI 1 (by decide)
  rw [hf] at hcF
  have hlen : n0 = zs.length := by obtain ⟨_, _, e, _⟩ := hr; simp only [Value.slice.injEq] at e; exact e.2.1
  have hn0 : (n0 : Int) ≤ 1000000 := by omega
  have HLEN := Lib.hid hlen
  have HM := Lib.hid hM
  have H1 := Lib.hid h1
  have HV := Lib.hid hv
  have H2 := Lib.hid h2
  have HA := Lib.hid ha
  have HTO := Lib.hid hto
  have HC := Lib.hid hc
  have HFR := Lib.hid hfr
  have HGG := Lib.hid hg
  have HTK := Lib.hid htk
  have HN := Lib.hid hn
  have H3 := Lib.hid h3
  have H4 := Lib.hid h4
  have HNUM := Lib.hid hnum
  have hkk : ((f.1 - 192) / 16 == 0) = true := by rw [beq_iff_eq]; exact hK
  obtain ⟨m, hm⟩ : ∃ m : Nat, f.1 % 4 + 1 = (m : Int) := ⟨(f.1 % 4 + 1).toNat, by omega⟩
  have HMM := Lib.hid hm
  obtain ⟨f0, f9⟩ := hbd
  obtain ⟨ba0, ba1⟩ := ba
  obtain ⟨bc0, bc1⟩ := bc
  obtain ⟨bn0, bn1⟩ := bn
  obtain ⟨bg0, bg1⟩ := bg
  have hm7 : m ≤ 7 := by omega
  clear hI hM h1 hv h2 ha hto hc hfr hg htk hn h3 h4 hnum hlen hm hf hr hp hl hK z1 z2 z3 z4 z5 z6 hz
  rcases hx with ⟨g1, d2⟩ | ⟨g1, rfl⟩
  all_goals
    go_enter Tryd.func18, Tryd.ntmps18
    go_wp2_with fail
    refine hcF.mono ?_
    rintro e w1 ⟨rfl, hI1, hb1⟩
    have hM1 := HM.out.but hb1 (Nat.ne_of_lt (Nat.lt_succ_self _))
    have hG2 := hq_newk (w0 := w) hI1.bel.size ((f.1 - 192) / 16) (f.1 % 4 + 1)
    have hI2 := hI1.alloc (.cells #[.int .i64 ((f.1 - 192) / 16), .int .i64 0, .slice none 0 0, .slice none 0 0, .slice none 0 0, .int .i64 0, .int .i64 0, .int .i64 (f.1 % 4 + 1)] 24)
    have hM2 := hM1.alloc (.cells #[.int .i64 ((f.1 - 192) / 16), .int .i64 0, .slice none 0 0, .slice none 0 0, .slice none 0 0, .int .i64 0, .int .i64 0, .int .i64 (f.1 % 4 + 1)] 24)
    have hIG : w.heap.size + 1 ≠ w1.heap.size := Nat.ne_of_lt hI1.lt
    have hMI : w.heap.size ≠ w.heap.size + 1 := by omega
    have hMG : w.heap.size ≠ w1.heap.size := Nat.ne_of_lt hM1.lt
    have hlo1 : w.heap.size ≤ w1.heap.size := hI1.bel.size
    clear hcF hI1 hb1 hM1
    go_wp2_with fail
    generalize w1.alloc (.cells #[.int .i64 ((f.1 - 192) / 16), .int .i64 0, .slice none 0 0, .slice none 0 0, .slice none 0 0, .int .i64 0, .int .i64 0, .int .i64 (f.1 % 4 + 1)] 24) = wa at *
    generalize w1.heap.size = G at *
    refine (need_q hI2 _ 3).mono ?_
    rintro e v1 ⟨rfl, jI1, jb1⟩
    rw [H1.out] at jI1
    have jM1 := hM2.but jb1 hMI
    have jG1 := hG2.but jb1 hIG.symm
    clear hI2 hM2 hG2 jb1
    have hc2 := inumber_q jI1 4 (by decide)
    rw [HV.out] at hc2
    obtain ⟨_, _, _, _, _, _, _, _, _, _, x0, x1, x2, x3, x4, x5, x6, x7, xf⟩ := jG1.cells
    obtain ⟨_, _, _, _, _, _, _, y1, y2, yf⟩ := jI1.cells
    go_wp2_with fail
    refine hc2.mono ?_
    rintro e v2 ⟨rfl, jI2, jb2⟩
    have jM2 := jM1.but jb2 hMI
    have jG2 := jG1.but jb2 hIG.symm
    clear hc2 jI1 jM1 jG1 jb2 x0 x1 x2 x3 x4 x5 x6 x7 xf y1 y2 yf
    obtain ⟨_, _, _, _, _, _, _, _, _, _, x0, x1, x2, x3, x4, x5, x6, x7, xf⟩ := jG2.cells
    have kG2 := jG2.setv v.1
    have kI2 := jI2.setG (i := 1) hIG hlo1 (.int .i64 v.1)
    have kM2 := jM2.but (But.set _ G 1 (.int .i64 v.1)) hMG
    obtain ⟨_, _, _, _, _, _, _, _, _, _, y0, y1, y2, y3, y4, y5, y6, y7, yf⟩ := kG2.cells
    obtain ⟨_, _, _, _, _, _, _, u1, u2, uf⟩ := kI2.cells
    clear jI2 jG2 jM2
    go_wp2_with fail
    generalize v2.setCell ⟨G, 1, none⟩ (.int .i64 v.1) = u2 at *
    clear x0 x1 x2 x3 x4 x5 x6 x7 xf y0 y1 y2 y3 y4 y5 y6 y7 yf u1 u2 uf
    refine (need_q kI2 _ _).mono ?_
    rintro e v3 ⟨rfl, jI3, jb3⟩
    rw [H2.out] at jI3
    have jM3 := kM2.but jb3 hMI
    have jG3 := kG2.but jb3 hIG.symm
    clear kI2 kM2 kG2 jb3
    have hc4 := inumber_q jI3 1 (by decide)
    rw [HA.out] at hc4
    obtain ⟨_, _, _, _, _, _, _, _, _, _, x0, x1, x2, x3, x4, x5, x6, x7, xf⟩ := jG3.cells
    obtain ⟨_, _, _, _, _, _, _, y1, y2, yf⟩ := jI3.cells
    go_wp2_with fail
    refine hc4.mono ?_
    rintro e v4 ⟨rfl, jI4, jb4⟩
    have jM4 := jM3.but jb4 hMI
    have jG4 := jG3.but jb4 hIG.symm
    clear hc4 jI3 jM3 jG3 jb4 x0 x1 x2 x3 x4 x5 x6 x7 xf y1 y2 yf
    have hc5 := imost_q jI4 a.1 20 ba0
    rw [HTO.out] at hc5
    obtain ⟨_, _, _, _, _, _, _, _, _, _, x0, x1, x2, x3, x4, x5, x6, x7, xf⟩ := jG4.cells
    obtain ⟨_, _, _, _, _, _, _, y1, y2, yf⟩ := jI4.cells
    go_wp2_with fail
    refine hc5.mono ?_
    rintro e v5 ⟨bT, rfl, ⟨hT, _⟩, jI5, jb5⟩
    have jM5 := jM4.but jb5 hMI
    have jG5 := jG4.but jb5 hIG.symm
    clear hc5 jI4 jM4 jG4 jb5 x0 x1 x2 x3 x4 x5 x6 x7 xf y1 y2 yf
    obtain ⟨aT, nT, cT, rfl⟩ : ∃ ao n cap, bT = .slice ao n cap := by obtain ⟨ao, cap, hv, _⟩ := hT; exact ⟨ao, _, cap, hv⟩
    obtain ⟨_, _, _, _, _, _, _, _, _, _, x0, x1, x2, x3, x4, x5, x6, x7, xf⟩ := jG5.cells
    have kG5 := jG5.setto hT
    have kI5 := jI5.setG (i := 2) hIG hlo1 (.slice aT nT cT)
    have kM5 := jM5.but (But.set _ G 2 (.slice aT nT cT)) hMG
    obtain ⟨_, _, _, _, _, _, _, _, _, _, y0, y1, y2, y3, y4, y5, y6, y7, yf⟩ := kG5.cells
    obtain ⟨_, _, _, _, _, _, _, u1, u2, uf⟩ := kI5.cells
    clear jI5 jG5 jM5
    go_wp2_with fail
    generalize v5.setCell ⟨G, 2, none⟩ (.slice aT nT cT) = u5 at *
    clear x0 x1 x2 x3 x4 x5 x6 x7 xf y0 y1 y2 y3 y4 y5 y6 y7 yf u1 u2 uf
    have hc6 := inumber_q kI5 1 (by decide)
    rw [HC.out] at hc6
    refine hc6.mono ?_
    rintro e v6 ⟨rfl, jI6, jb6⟩
    have jM6 := kM5.but jb6 hMI
    have jG6 := kG5.but jb6 hIG.symm
    clear hc6 kI5 kM5 kG5 jb6
    have hc7 := imost_q jI6 c.1 20 bc0
    rw [HFR.out] at hc7
    obtain ⟨_, _, _, _, _, _, _, _, _, _, x0, x1, x2, x3, x4, x5, x6, x7, xf⟩ := jG6.cells
    obtain ⟨_, _, _, _, _, _, _, y1, y2, yf⟩ := jI6.cells
    go_wp2_with fail
    refine hc7.mono ?_
    rintro e v7 ⟨bF, rfl, ⟨hF, _⟩, jI7, jb7⟩
    have jM7 := jM6.but jb7 hMI
    have jG7 := jG6.but jb7 hIG.symm
    clear hc7 jI6 jM6 jG6 jb7 x0 x1 x2 x3 x4 x5 x6 x7 xf y1 y2 yf
    obtain ⟨aF, nF, cF, rfl⟩ : ∃ ao n cap, bF = .slice ao n cap := by obtain ⟨ao, cap, hv, _⟩ := hF; exact ⟨ao, _, cap, hv⟩
    obtain ⟨_, _, _, _, _, _, _, _, _, _, x0, x1, x2, x3, x4, x5, x6, x7, xf⟩ := jG7.cells
    have kG7 := jG7.setfr hF
    have kI7 := jI7.setG (i := 3) hIG hlo1 (.slice aF nF cF)
    have kM7 := jM7.but (But.set _ G 3 (.slice aF nF cF)) hMG
    obtain ⟨_, _, _, _, _, _, _, _, _, _, y0, y1, y2, y3, y4, y5, y6, y7, yf⟩ := kG7.cells
    obtain ⟨_, _, _, _, _, _, _, u1, u2, uf⟩ := kI7.cells
    clear jI7 jG7 jM7
    go_wp2_with fail
    generalize v7.setCell ⟨G, 3, none⟩ (.slice aF nF cF) = u7 at *
    clear x0 x1 x2 x3 x4 x5 x6 x7 xf y0 y1 y2 y3 y4 y5 y6 y7 yf u1 u2 uf
    have hc8 := ivarint_q kI7 Z3.out
    rw [HGG.out] at hc8
    refine hc8.mono ?_
    rintro e v8 ⟨rfl, jI8, jb8⟩
    have jM8 := kM7.but jb8 hMI
    have jG8 := kG7.but jb8 hIG.symm
    clear hc8 kI7 kM7 kG7 jb8
    have hc9 := imost_q jI8 g.1 64 bg0
    rw [HTK.out] at hc9
    obtain ⟨_, _, _, _, _, _, _, _, _, _, x0, x1, x2, x3, x4, x5, x6, x7, xf⟩ := jG8.cells
    obtain ⟨_, _, _, _, _, _, _, y1, y2, yf⟩ := jI8.cells
    go_wp2_with fail
    refine hc9.mono ?_
    rintro e v9 ⟨bK, rfl, ⟨hKr, _⟩, jI9, jb9⟩
    have jM9 := jM8.but jb9 hMI
    have jG9 := jG8.but jb9 hIG.symm
    clear hc9 jI8 jM8 jG8 jb9 x0 x1 x2 x3 x4 x5 x6 x7 xf y1 y2 yf
    obtain ⟨aK, nK, cK, rfl⟩ : ∃ ao n cap, bK = .slice ao n cap := by obtain ⟨ao, cap, hv, _⟩ := hKr; exact ⟨ao, _, cap, hv⟩
    obtain ⟨_, _, _, _, _, _, _, _, _, _, x0, x1, x2, x3, x4, x5, x6, x7, xf⟩ := jG9.cells
    have kG9 := jG9.settk hKr
    have kI9 := jI9.setG (i := 4) hIG hlo1 (.slice aK nK cK)
    have kM9 := jM9.but (But.set _ G 4 (.slice aK nK cK)) hMG
    obtain ⟨_, _, _, _, _, _, _, _, _, _, y0, y1, y2, y3, y4, y5, y6, y7, yf⟩ := kG9.cells
    obtain ⟨_, _, _, _, _, _, _, u1, u2, uf⟩ := kI9.cells
    clear jI9 jG9 jM9
    go_wp2_with fail
    generalize v9.setCell ⟨G, 4, none⟩ (.slice aK nK cK) = u9 at *
    clear x0 x1 x2 x3 x4 x5 x6 x7 xf y0 y1 y2 y3 y4 y5 y6 y7 yf u1 u2 uf
    have hc10 := ivarint_q kI9 Z4.out
    rw [HN.out] at hc10
    refine hc10.mono ?_
    rintro e v10 ⟨rfl, jI10, jb10⟩
    have jM10 := kM9.but jb10 hMI
    have jG10 := kG9.but jb10 hIG.symm
    clear hc10 kI9 kM9 kG9 jb10
    obtain ⟨_, _, _, _, _, _, _, _, _, _, x0, x1, x2, x3, x4, x5, x6, x7, xf⟩ := jG10.cells
    obtain ⟨_, _, _, _, _, _, _, y1, y2, yf⟩ := jI10.cells
    go_wp2_with fail
    refine (need_q jI10 _ _).mono ?_
    rintro e v11 ⟨rfl, jI11, jb11⟩
    rw [H3.out] at jI11
    have jM11 := jM10.but jb11 hMI
    have jG11 := jG10.but jb11 hIG.symm
    clear jI10 jM10 jG10 jb11 x0 x1 x2 x3 x4 x5 x6 x7 xf y1 y2 yf
    have ht3 : (r3.t : Int) ≤ (n0 : Int) := by
      have h := jI11.tl
      rw [Z5.out, ← HLEN.out] at h
      omega
    have H4' := H4
    rw [← HLEN.out] at H4'
    obtain ⟨_, _, _, _, _, _, _, _, _, _, x0, x1, x2, x3, x4, x5, x6, x7, xf⟩ := jG11.cells
    obtain ⟨_, _, _, _, _, _, _, y1, y2, yf⟩ := jI11.cells
    go_wp2_with fail
    refine (need_q jI11 _ _).mono ?_
    rintro e v12 ⟨rfl, jI12, jb12⟩
    rw [H4'.out] at jI12
    have jM12 := jM11.but jb12 hMI
    have jG12 := jG11.but jb12 hIG.symm
    clear jI11 jM11 jG11 jb12 x0 x1 x2 x3 x4 x5 x6 x7 xf y1 y2 yf
    have ht4 : (r4.t : Int) ≤ (n0 : Int) := by
      have h := jI12.tl
      rw [Z6.out, ← HLEN.out] at h
      omega
    have hc13 := inumber_q jI12 m hm7
    rw [← HMM.out, show m = (f.1 % 4 + 1).toNat by have := HMM.out; omega, HNUM.out] at hc13
    obtain ⟨_, _, _, _, _, _, _, _, _, _, x0, x1, x2, x3, x4, x5, x6, x7, xf⟩ := jG12.cells
    obtain ⟨_, _, _, _, _, _, _, y1, y2, yf⟩ := jI12.cells
    go_wp2_with fail
    refine hc13.mono ?_
    rintro e v13 ⟨rfl, jI13, jb13⟩
    have jM13 := jM12.but jb13 hMI
    have jG13 := jG12.but jb13 hIG.symm
    clear hc13 jI12 jM12 jG12 jb13 x0 x1 x2 x3 x4 x5 x6 x7 xf y1 y2 yf
    obtain ⟨_, _, _, _, _, _, _, _, _, _, x0, x1, x2, x3, x4, x5, x6, x7, xf⟩ := jG13.cells
    have kG := jG13.setn num.1
    have kI := jI13.setG (i := 6) hIG hlo1 (.int .i64 num.1)
    have kM := jM13.but (But.set _ G 6 (.int .i64 num.1)) hMG
    clear jI13 jG13 jM13
    obtain ⟨b1, m1, l1, b2, m2, l2, b3, m3, l3, ⟨r1', r2', r3'⟩, g0', g1', g2', g3', g4', g5', g6', g7', gf'⟩ := kG.cells
    obtain ⟨_, _, _, _, _, _, _, _, _, _, p0, p1, p2, p3, p4, p5, p6, p7, pf⟩ := kM.cells
    obtain ⟨_, _, _, _, _, _, _, u1, u2, uf⟩ := kI.cells
    obtain ⟨z0, z1, z2, z3, z4, z5, z6, z7, hrow⟩ := kM.row8
    have HBW := Lib.hid kI.bel
    have HROW := Lib.hid hrow
    have HRR := Lib.hid (And.intro r1' (And.intro r2' r3'))
    by_cases hE : num.2.e = 0
    · have E1 : (num.2.e != 0) = false := by simp [hE]
      have HE := Lib.hid hE
      clear hE kG kM kI hrow r1' r2' r3'
      go_wp2_with fail
      generalize v13.setCell ⟨G, 6, none⟩ (.int .i64 num.1) = w9 at *
      have HC := Lib.hid (chain8_rowD HROW.out (.int .i64 ((f.1 - 192) / 16)) (.int .i64 v.1) (.slice b1 m1 l1) (.slice b2 m2 l2) (.slice b3 m3 l3) (.int .i64 0) (.int .i64 num.1) (.int .i64 (f.1 % 4 + 1)))
      have HCB := Lib.hid (chain8_belowD HBW.out (Nat.le_refl _) (.int .i64 ((f.1 - 192) / 16)) (.int .i64 v.1) (.slice b1 m1 l1) (.slice b2 m2 l2) (.slice b3 m3 l3) (.int .i64 0) (.int .i64 num.1) (.int .i64 (f.1 % 4 + 1)))
      refine wp_region_noPanic ?_
      go_region
      all_goals
        refine NoPanic.normal ?_
        refine ‹∀ (a : Act) (w : World), Code.wp Tryd.prog _ _ a w → _› _ _ ?_
        refine wp_ret ?_
        try simp only [Exit.then]
        refine bodyPost_ret (ref_results _ _ w.heap.size (.int .i64 ((f.1 - 192) / 16)) (.int .i64 v.1) (.slice b1 m1 l1) (.slice b2 m2 l2) (.slice b3 m3 l3) (.int .i64 0) (.int .i64 num.1) (.int .i64 (f.1 % 4 + 1)) (.int .i64 num.2.t) (.int .i64 ((r4.t : Int) + n.1)) (.int .i64 0) rfl rfl rfl rfl HC.out) rfl ?_
        simp only [if_pos HE.out]
        exact ⟨_, _, _, rfl, ⟨HRR.out.1.below HCB.out, HRR.out.2.1.below HCB.out, HRR.out.2.2.below HCB.out⟩, HCB.out⟩
    · have E1 : (num.2.e != 0) = true := by simp [hE]
      have HE := Lib.hid hE
      clear hE kG kM kI hrow r1' r2' r3'
      go_wp2_with fail
      generalize v13.setCell ⟨G, 6, none⟩ (.int .i64 num.1) = w9 at *
      have HC := Lib.hid (chain8_rowD HROW.out (.int .i64 0) (.int .i64 0) (.slice none 0 0) (.slice none 0 0) (.slice none 0 0) (.int .i64 0) (.int .i64 0) (.int .i64 0))
      have HCB := Lib.hid (chain8_belowD HBW.out (Nat.le_refl _) (.int .i64 0) (.int .i64 0) (.slice none 0 0) (.slice none 0 0) (.slice none 0 0) (.int .i64 0) (.int .i64 0) (.int .i64 0))
      refine wp_region_noPanic ?_
      go_region
      all_goals
        refine NoPanic.normal ?_
        refine ‹∀ (a : Act) (w : World), Code.wp Tryd.prog _ _ a w → _› _ _ ?_
        refine wp_ret ?_
        try simp only [Exit.then]
        refine bodyPost_ret (ref_results _ _ w.heap.size (.int .i64 0) (.int .i64 0) (.slice none 0 0) (.slice none 0 0) (.slice none 0 0) (.int .i64 0) (.int .i64 0) (.int .i64 0) (.int .i64 0) (.int .i64 0) (.int .i64 num.2.e) rfl rfl rfl rfl HC.out) rfl ?_
        simp only [if_neg HE.out]
        exact ⟨_, _, _, rfl, ⟨Rd.nil _, Rd.nil _, Rd.nil _⟩, HCB.out⟩
set_option maxRecDepth 20000 in
set_option maxHeartbeats 8000000 in
theorem reflong1W {w : World} {vv : Value} {zs : List Int} (hr : Rd w vv zs) (hp : Plain vv) (hl : zs.length ≤ 1000000) (f v a c n num : Int × In) (r1 r2 r3 r4 : In) (to fr : List Int × In) (x : Bool) (hx : (f.1 % 16 < 4 ∧ decide ((f.1 - 192) / 16 < 3) = x) ∨ (4 ≤ f.1 % 16 ∧ x = false)) (hf : inNumber 1 ⟨zs, 0, 0⟩ = f) (h1 : inNeed x 3 f.2 = r1) (hv : inNumber 4 r1 = v) (h2 : inNeed (decide (0 < v.1)) 3 v.2 = r2) (ha : inNumber 1 r2 = a) (hto : inMost a.1.toNat 20 a.2 = to) (hc : inNumber 1 to.2 = c) (hfr : inMost c.1.toNat 20 c.2 = fr) (hn : inVarint fr.2 = n) (h3 : inNeed (decide (f.1 % 4 + 1 ≤ n.1)) 3 n.2 = r3) (h4 : inNeed (decide (n.1 ≤ (zs.length : Int) - r3.t)) 2 r3 = r4) (hnum : inNumber (f.1 % 4 + 1).toNat r4 = num) (hlt : 192 ≤ f.1) (hK : (f.1 - 192) / 16 ≠ 0) :
    Calls Tryd.prog 18 #[vv] w fun e w' => ∃ vt vf vk, e = .returned (.tuple #[.agg (hcells (if num.2.e = 0 then (⟨(f.1 - 192) / 16, v.1, to.1, fr.1, [], 0, num.1, f.1 % 4 + 1⟩ : Hv) else Hv.empty) vt vf vk), .int .i64 (if num.2.e = 0 then (num.2.t : Int) else 0), .int .i64 (if num.2.e = 0 then ((r4.t : Int) + n.1) else 0), .int .i64 (if num.2.e = 0 then 0 else num.2.e)]) ∧ Hr w' (if num.2.e = 0 then (⟨(f.1 - 192) / 16, v.1, to.1, fr.1, [], 0, num.1, f.1 % 4 + 1⟩ : Hv) else Hv.empty) vt vf vk ∧ Below w.heap.size w w' := by
  have hz := hr.byt
  have hbd := in1_bd hz 0 0
  rw [hf] at hbd
  have z1 : r2.zs = zs := by rw [← h2, inNeed_zs, ← hv, inNumber_zs, ← h1, inNeed_zs, ← hf, inNumber_zs]
  have z2 : to.2.zs = zs := by rw [← hto, inMost_zs, ← ha, inNumber_zs, z1]
  have z3 : fr.2.zs = zs := by rw [← hfr, inMost_zs, ← hc, inNumber_zs, z2]
  have z4 : fr.2.zs = zs := z3
  have ba : 0 ≤ a.1 ∧ a.1 ≤ 255 := by rw [← ha]; exact in1_bdS (by rw [z1]; exact hz)
  have bc : 0 ≤ c.1 ∧ c.1 ≤ 255 := by rw [← hc]; exact in1_bdS (by rw [z2]; exact hz)
  have bn : 0 ≤ n.1 ∧ n.1 < 4611686018427387904 := by rw [← hn]; exact inVarint_bd (by rw [z4]; exact hz)
  have Z4 := Lib.hid (show Byt fr.2.zs by rw [z4]; exact hz)
  have z5 : r3.zs = zs := by rw [← h3, inNeed_zs, ← hn, inVarint_zs, z4]
  have z6 : r4.zs = zs := by rw [← h4, inNeed_zs, z5]
  have Z5 := Lib.hid z5
  have Z6 := Lib.hid z6
  obtain ⟨ao, n0, cap, rfl⟩ : ∃ ao n cap, vv = .slice ao n cap := by obtain ⟨ao, cap, hv, _⟩ := hr; exact ⟨ao, _, cap, hv⟩
  have hI := iq_start hr hp hl (.cells #[.int .i64 0, .int .i64 0, .slice none 0 0, .slice none 0 0, .slice none 0 0, .int .i64 0, .int .i64 0, .int .i64 0] 24)
  have hM := (hq_new (w0 := w) (w := w) (Nat.le_refl _) 0).alloc (.cells #[.slice ao n0 cap, .int .i64 0, .int .i64 0] 69)
  have hcF := inumber_q hI 1 (by decide)
  rw [hf] at hcF
  have hlen : n0 = zs.length := by obtain ⟨_, _, e, _⟩ := hr; simp only [Value.slice.injEq] at e; exact e.2.1
  have hn0 : (n0 : Int) ≤ 1000000 := by omega
  have HLEN := Lib.hid hlen
  have HM := Lib.hid hM
  have H1 := Lib.hid h1
  have HV := Lib.hid hv
  have H2 := Lib.hid h2
  have HA := Lib.hid ha
  have HTO := Lib.hid hto
  have HC := Lib.hid hc
  have HFR := Lib.hid hfr
  have HN := Lib.hid hn
  have H3 := Lib.hid h3
  have H4 := Lib.hid h4
  have HNUM := Lib.hid hnum
  have hkk : ((f.1 - 192) / 16 == 0) = false := by rw [beq_eq_false_iff_ne]; exact hK
  obtain ⟨m, hm⟩ : ∃ m : Nat, f.1 % 4 + 1 = (m : Int) := ⟨(f.1 % 4 + 1).toNat, by omega⟩
  have HMM := Lib.hid hm
  obtain ⟨f0, f9⟩ := hbd
  obtain ⟨ba0, ba1⟩ := ba
  obtain ⟨bc0, bc1⟩ := bc
  obtain ⟨bn0, bn1⟩ := bn
  have hm7 : m ≤ 7 := by omega
  clear hI hM h1 hv h2 ha hto hc hfr hn h3 h4 hnum hlen hm hf hr hp hl hK z1 z2 z3 z4 z5 z6 hz
  rcases hx with ⟨g1, d2⟩ | ⟨g1, rfl⟩
  all_goals
    go_enter Tryd.func18, Tryd.ntmps18
    go_wp2_with fail
    refine hcF.mono ?_
    rintro e w1 ⟨rfl, hI1, hb1⟩
    have hM1 := HM.out.but hb1 (Nat.ne_of_lt (Nat.lt_succ_self _))
    have hG2 := hq_newk (w0 := w) hI1.bel.size ((f.1 - 192) / 16) (f.1 % 4 + 1)
    have hI2 := hI1.alloc (.cells #[.int .i64 ((f.1 - 192) / 16), .int .i64 0, .slice none 0 0, .slice none 0 0, .slice none 0 0, .int .i64 0, .int .i64 0, .int .i64 (f.1 % 4 + 1)] 24)
    have hM2 := hM1.alloc (.cells #[.int .i64 ((f.1 - 192) / 16), .int .i64 0, .slice none 0 0, .slice none 0 0, .slice none 0 0, .int .i64 0, .int .i64 0, .int .i64 (f.1 % 4 + 1)] 24)
    have hIG : w.heap.size + 1 ≠ w1.heap.size := Nat.ne_of_lt hI1.lt
    have hMI : w.heap.size ≠ w.heap.size + 1 := by omega
    have hMG : w.heap.size ≠ w1.heap.size := Nat.ne_of_lt hM1.lt
    have hlo1 : w.heap.size ≤ w1.heap.size := hI1.bel.size
    clear hcF hI1 hb1 hM1
    go_wp2_with fail
    generalize w1.alloc (.cells #[.int .i64 ((f.1 - 192) / 16), .int .i64 0, .slice none 0 0, .slice none 0 0, .slice none 0 0, .int .i64 0, .int .i64 0, .int .i64 (f.1 % 4 + 1)] 24) = wa at *
    generalize w1.heap.size = G at *
    refine (need_q hI2 _ 3).mono ?_
    rintro e v1 ⟨rfl, jI1, jb1⟩
    rw [H1.out] at jI1
    have jM1 := hM2.but jb1 hMI
    have jG1 := hG2.but jb1 hIG.symm
    clear hI2 hM2 hG2 jb1
    have hc2 := inumber_q jI1 4 (by decide)
    rw [HV.out] at hc2
    obtain ⟨_, _, _, _, _, _, _, _, _, _, x0, x1, x2, x3, x4, x5, x6, x7, xf⟩ := jG1.cells
    obtain ⟨_, _, _, _, _, _, _, y1, y2, yf⟩ := jI1.cells
    go_wp2_with fail
    refine hc2.mono ?_
    rintro e v2 ⟨rfl, jI2, jb2⟩
    have jM2 := jM1.but jb2 hMI
    have jG2 := jG1.but jb2 hIG.symm
    clear hc2 jI1 jM1 jG1 jb2 x0 x1 x2 x3 x4 x5 x6 x7 xf y1 y2 yf
    obtain ⟨_, _, _, _, _, _, _, _, _, _, x0, x1, x2, x3, x4, x5, x6, x7, xf⟩ := jG2.cells
    have kG2 := jG2.setv v.1
    have kI2 := jI2.setG (i := 1) hIG hlo1 (.int .i64 v.1)
    have kM2 := jM2.but (But.set _ G 1 (.int .i64 v.1)) hMG
    obtain ⟨_, _, _, _, _, _, _, _, _, _, y0, y1, y2, y3, y4, y5, y6, y7, yf⟩ := kG2.cells
    obtain ⟨_, _, _, _, _, _, _, u1, u2, uf⟩ := kI2.cells
    clear jI2 jG2 jM2
    go_wp2_with fail
    generalize v2.setCell ⟨G, 1, none⟩ (.int .i64 v.1) = u2 at *
    clear x0 x1 x2 x3 x4 x5 x6 x7 xf y0 y1 y2 y3 y4 y5 y6 y7 yf u1 u2 uf
    refine (need_q kI2 _ _).mono ?_
    rintro e v3 ⟨rfl, jI3, jb3⟩
    rw [H2.out] at jI3
    have jM3 := kM2.but jb3 hMI
    have jG3 := kG2.but jb3 hIG.symm
    clear kI2 kM2 kG2 jb3
    have hc4 := inumber_q jI3 1 (by decide)
    rw [HA.out] at hc4
    obtain ⟨_, _, _, _, _, _, _, _, _, _, x0, x1, x2, x3, x4, x5, x6, x7, xf⟩ := jG3.cells
    obtain ⟨_, _, _, _, _, _, _, y1, y2, yf⟩ := jI3.cells
    go_wp2_with fail
    refine hc4.mono ?_
    rintro e v4 ⟨rfl, jI4, jb4⟩
    have jM4 := jM3.but jb4 hMI
    have jG4 := jG3.but jb4 hIG.symm
    clear hc4 jI3 jM3 jG3 jb4 x0 x1 x2 x3 x4 x5 x6 x7 xf y1 y2 yf
    have hc5 := imost_q jI4 a.1 20 ba0
    rw [HTO.out] at hc5
    obtain ⟨_, _, _, _, _, _, _, _, _, _, x0, x1, x2, x3, x4, x5, x6, x7, xf⟩ := jG4.cells
    obtain ⟨_, _, _, _, _, _, _, y1, y2, yf⟩ := jI4.cells
    go_wp2_with fail
    refine hc5.mono ?_
    rintro e v5 ⟨bT, rfl, ⟨hT, _⟩, jI5, jb5⟩
    have jM5 := jM4.but jb5 hMI
    have jG5 := jG4.but jb5 hIG.symm
    clear hc5 jI4 jM4 jG4 jb5 x0 x1 x2 x3 x4 x5 x6 x7 xf y1 y2 yf
    obtain ⟨aT, nT, cT, rfl⟩ : ∃ ao n cap, bT = .slice ao n cap := by obtain ⟨ao, cap, hv, _⟩ := hT; exact ⟨ao, _, cap, hv⟩
    obtain ⟨_, _, _, _, _, _, _, _, _, _, x0, x1, x2, x3, x4, x5, x6, x7, xf⟩ := jG5.cells
    have kG5 := jG5.setto hT
    have kI5 := jI5.setG (i := 2) hIG hlo1 (.slice aT nT cT)
    have kM5 := jM5.but (But.set _ G 2 (.slice aT nT cT)) hMG
    obtain ⟨_, _, _, _, _, _, _, _, _, _, y0, y1, y2, y3, y4, y5, y6, y7, yf⟩ := kG5.cells
    obtain ⟨_, _, _, _, _, _, _, u1, u2, uf⟩ := kI5.cells
    clear jI5 jG5 jM5
    go_wp2_with fail
    generalize v5.setCell ⟨G, 2, none⟩ (.slice aT nT cT) = u5 at *
    clear x0 x1 x2 x3 x4 x5 x6 x7 xf y0 y1 y2 y3 y4 y5 y6 y7 yf u1 u2 uf
    have hc6 := inumber_q kI5 1 (by decide)
    rw [HC.out] at hc6
    refine hc6.mono ?_
    rintro e v6 ⟨rfl, jI6, jb6⟩
    have jM6 := kM5.but jb6 hMI
    have jG6 := kG5.but jb6 hIG.symm
    clear hc6 kI5 kM5 kG5 jb6
    have hc7 := imost_q jI6 c.1 20 bc0
    rw [HFR.out] at hc7
    obtain ⟨_, _, _, _, _, _, _, _, _, _, x0, x1, x2, x3, x4, x5, x6, x7, xf⟩ := jG6.cells
    obtain ⟨_, _, _, _, _, _, _, y1, y2, yf⟩ := jI6.cells
    go_wp2_with fail
    refine hc7.mono ?_
    rintro e v7 ⟨bF, rfl, ⟨hF, _⟩, jI7, jb7⟩
    have jM7 := jM6.but jb7 hMI
    have jG7 := jG6.but jb7 hIG.symm
    clear hc7 jI6 jM6 jG6 jb7 x0 x1 x2 x3 x4 x5 x6 x7 xf y1 y2 yf
    obtain ⟨aF, nF, cF, rfl⟩ : ∃ ao n cap, bF = .slice ao n cap := by obtain ⟨ao, cap, hv, _⟩ := hF; exact ⟨ao, _, cap, hv⟩
    obtain ⟨_, _, _, _, _, _, _, _, _, _, x0, x1, x2, x3, x4, x5, x6, x7, xf⟩ := jG7.cells
    have kG7 := jG7.setfr hF
    have kI7 := jI7.setG (i := 3) hIG hlo1 (.slice aF nF cF)
    have kM7 := jM7.but (But.set _ G 3 (.slice aF nF cF)) hMG
    obtain ⟨_, _, _, _, _, _, _, _, _, _, y0, y1, y2, y3, y4, y5, y6, y7, yf⟩ := kG7.cells
    obtain ⟨_, _, _, _, _, _, _, u1, u2, uf⟩ := kI7.cells
    clear jI7 jG7 jM7
    go_wp2_with fail
    generalize v7.setCell ⟨G, 3, none⟩ (.slice aF nF cF) = u7 at *
    clear x0 x1 x2 x3 x4 x5 x6 x7 xf y0 y1 y2 y3 y4 y5 y6 y7 yf u1 u2 uf
    have hc8 := ivarint_q kI7 Z4.out
    rw [HN.out] at hc8
    refine hc8.mono ?_
    rintro e v8 ⟨rfl, jI8, jb8⟩
    have jM8 := kM7.but jb8 hMI
    have jG8 := kG7.but jb8 hIG.symm
    clear hc8 kI7 kM7 kG7 jb8
    obtain ⟨_, _, _, _, _, _, _, _, _, _, x0, x1, x2, x3, x4, x5, x6, x7, xf⟩ := jG8.cells
    obtain ⟨_, _, _, _, _, _, _, y1, y2, yf⟩ := jI8.cells
    go_wp2_with fail
    refine (need_q jI8 _ _).mono ?_
    rintro e v9 ⟨rfl, jI9, jb9⟩
    rw [H3.out] at jI9
    have jM9 := jM8.but jb9 hMI
    have jG9 := jG8.but jb9 hIG.symm
    clear jI8 jM8 jG8 jb9 x0 x1 x2 x3 x4 x5 x6 x7 xf y1 y2 yf
    have ht3 : (r3.t : Int) ≤ (n0 : Int) := by
      have h := jI9.tl
      rw [Z5.out, ← HLEN.out] at h
      omega
    have H4' := H4
    rw [← HLEN.out] at H4'
    obtain ⟨_, _, _, _, _, _, _, _, _, _, x0, x1, x2, x3, x4, x5, x6, x7, xf⟩ := jG9.cells
    obtain ⟨_, _, _, _, _, _, _, y1, y2, yf⟩ := jI9.cells
    go_wp2_with fail
    refine (need_q jI9 _ _).mono ?_
    rintro e v10 ⟨rfl, jI10, jb10⟩
    rw [H4'.out] at jI10
    have jM10 := jM9.but jb10 hMI
    have jG10 := jG9.but jb10 hIG.symm
    clear jI9 jM9 jG9 jb10 x0 x1 x2 x3 x4 x5 x6 x7 xf y1 y2 yf
    have ht4 : (r4.t : Int) ≤ (n0 : Int) := by
      have h := jI10.tl
      rw [Z6.out, ← HLEN.out] at h
      omega
    have hc11 := inumber_q jI10 m hm7
    rw [← HMM.out, show m = (f.1 % 4 + 1).toNat by have := HMM.out; omega, HNUM.out] at hc11
    obtain ⟨_, _, _, _, _, _, _, _, _, _, x0, x1, x2, x3, x4, x5, x6, x7, xf⟩ := jG10.cells
    obtain ⟨_, _, _, _, _, _, _, y1, y2, yf⟩ := jI10.cells
    go_wp2_with fail
    refine hc11.mono ?_
    rintro e v11 ⟨rfl, jI11, jb11⟩
    have jM11 := jM10.but jb11 hMI
    have jG11 := jG10.but jb11 hIG.symm
    clear hc11 jI10 jM10 jG10 jb11 x0 x1 x2 x3 x4 x5 x6 x7 xf y1 y2 yf
    obtain ⟨_, _, _, _, _, _, _, _, _, _, x0, x1, x2, x3, x4, x5, x6, x7, xf⟩ := jG11.cells
    have kG := jG11.setn num.1
    have kI := jI11.setG (i := 6) hIG hlo1 (.int .i64 num.1)
    have kM := jM11.but (But.set _ G 6 (.int .i64 num.1)) hMG
    clear jI11 jG11 jM11
    obtain ⟨b1, m1, l1, b2, m2, l2, b3, m3, l3, ⟨r1', r2', r3'⟩, g0', g1', g2', g3', g4', g5', g6', g7', gf'⟩ := kG.cells
    obtain ⟨_, _, _, _, _, _, _, _, _, _, p0, p1, p2, p3, p4, p5, p6, p7, pf⟩ := kM.cells
    obtain ⟨_, _, _, _, _, _, _, u1, u2, uf⟩ := kI.cells
    obtain ⟨z0, z1, z2, z3, z4, z5, z6, z7, hrow⟩ := kM.row8
    have HBW := Lib.hid kI.bel
    have HROW := Lib.hid hrow
    have HRR := Lib.hid (And.intro r1' (And.intro r2' r3'))
    by_cases hE : num.2.e = 0
    · have E1 : (num.2.e != 0) = false := by simp [hE]
      have HE := Lib.hid hE
      clear hE kG kM kI hrow r1' r2' r3'
      go_wp2_with fail
      generalize v11.setCell ⟨G, 6, none⟩ (.int .i64 num.1) = w9 at *
      have HC := Lib.hid (chain8_rowD HROW.out (.int .i64 ((f.1 - 192) / 16)) (.int .i64 v.1) (.slice b1 m1 l1) (.slice b2 m2 l2) (.slice b3 m3 l3) (.int .i64 0) (.int .i64 num.1) (.int .i64 (f.1 % 4 + 1)))
      have HCB := Lib.hid (chain8_belowD HBW.out (Nat.le_refl _) (.int .i64 ((f.1 - 192) / 16)) (.int .i64 v.1) (.slice b1 m1 l1) (.slice b2 m2 l2) (.slice b3 m3 l3) (.int .i64 0) (.int .i64 num.1) (.int .i64 (f.1 % 4 + 1)))
      refine wp_region_noPanic ?_
      go_region
      all_goals
        refine NoPanic.normal ?_
        refine ‹∀ (a : Act) (w : World), Code.wp Tryd.prog _ _ a w → _› _ _ ?_
        refine wp_ret ?_
        try simp only [Exit.then]
        refine bodyPost_ret (ref_results _ _ w.heap.size (.int .i64 ((f.1 - 192) / 16)) (.int .i64 v.1) (.slice b1 m1 l1) (.slice b2 m2 l2) (.slice b3 m3 l3) (.int .i64 0) (.int .i64 num.1) (.int .i64 (f.1 % 4 + 1)) (.int .i64 num.2.t) (.int .i64 ((r4.t : Int) + n.1)) (.int .i64 0) rfl rfl rfl rfl HC.out) rfl ?_
        simp only [if_pos HE.out]
        exact ⟨_, _, _, rfl, ⟨HRR.out.1.below HCB.out, HRR.out.2.1.below HCB.out, HRR.out.2.2.below HCB.out⟩, HCB.out⟩
    · have E1 : (num.2.e != 0) = true := by simp [hE]
      have HE := Lib.hid hE
      clear hE kG kM kI hrow r1' r2' r3'
      go_wp2_with fail
      generalize v11.setCell ⟨G, 6, none⟩ (.int .i64 num.1) = w9 at *
      have HC := Lib.hid (chain8_rowD HROW.out (.int .i64 0) (.int .i64 0) (.slice none 0 0) (.slice none 0 0) (.slice none 0 0) (.int .i64 0) (.int .i64 0) (.int .i64 0))
      have HCB := Lib.hid (chain8_belowD HBW.out (Nat.le_refl _) (.int .i64 0) (.int .i64 0) (.slice none 0 0) (.slice none 0 0) (.slice none 0 0) (.int .i64 0) (.int .i64 0) (.int .i64 0))
      refine wp_region_noPanic ?_
      go_region
      all_goals
        refine NoPanic.normal ?_
        refine ‹∀ (a : Act) (w : World), Code.wp Tryd.prog _ _ a w → _› _ _ ?_
        refine wp_ret ?_
        try simp only [Exit.then]
        refine bodyPost_ret (ref_results _ _ w.heap.size (.int .i64 0) (.int .i64 0) (.slice none 0 0) (.slice none 0 0) (.slice none 0 0) (.int .i64 0) (.int .i64 0) (.int .i64 0) (.int .i64 0) (.int .i64 0) (.int .i64 num.2.e) rfl rfl rfl rfl HC.out) rfl ?_
        simp only [if_neg HE.out]
        exact ⟨_, _, _, rfl, ⟨Rd.nil _, Rd.nil _, Rd.nil _⟩, HCB.out⟩
#print axioms reflong0W
#print axioms reflong1W
end Go.Proofs.YtcnepdjcdjdlhaaDoor
