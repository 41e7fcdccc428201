/- The document's start of a packet without a key: the version, both names, what stands behind them. -/
import Derived.Test.YtjdlmmbkppaenaaQRdr
import Derived.BigRegion
import Derived.Deep.RegionHeld3
namespace Go.Proofs.Ytjdlmmbkppaenaa
open Go Go.RowKit

theorem heap_alloc_new' (w : World) (o : Obj) : (w.alloc o).heap[w.heap.size]? = some o := heap_alloc_new w o
theorem iq_start1 {w0 w : World} (hb : Below w0.heap.size w0 w) {ao : Option Addr} {n cap : Nat} {zs : List Int} (hr : Rd w0 (.slice ao n cap) zs) (hp : Plain (.slice ao n cap)) (hl : zs.length ≤ 1000000) :
    Iq w0 (w.alloc (.cells #[.slice ao n cap, .int .i64 0, .int .i64 0] 100)) w.heap.size ⟨zs, 0, 0⟩ :=
  ⟨hb.alloc hb.size _, hb.size, Nat.zero_le _, hl, _, heap_alloc_new w _, hr, hp⟩
theorem inBytes_byt {n : Nat} {s : In} (hb : Byt s.zs) : Byt (inBytes n s).1 := by
  unfold inBytes
  split
  · split
    · exact Byt.nil
    · exact (hb.drop _).take _
  · exact Byt.nil
theorem inNumber1_bd {s : In} (hb : Byt s.zs) : 0 ≤ (inNumber 1 s).1 ∧ (inNumber 1 s).1 ≤ 255 := by
  have h := bigv_bd (inBytes_byt (n := 1) hb)
  have hl := inBytes_len 1 s
  unfold inNumber
  generalize (inBytes 1 s).1 = L at *
  have : L.length = 0 ∨ L.length = 1 := by omega
  rcases this with h1 | h1 <;> rw [h1] at h <;> simp only <;> omega
theorem inBytes_zs (n : Nat) (s : In) : (inBytes n s).2.zs = s.zs := by
  unfold inBytes
  split
  · split <;> rfl
  · rfl
theorem inNumber_zs (n : Nat) (s : In) : (inNumber n s).2.zs = s.zs := inBytes_zs n s
theorem inNeed_zs (b : Bool) (k : Int) (s : In) : (inNeed b k s).zs = s.zs := by
  unfold inNeed
  split <;> rfl
theorem inMost_zs (n : Nat) (m : Int) (s : In) : (inMost n m s).2.zs = s.zs := (inBytes_zs _ _).trans (inNeed_zs _ _ _)

theorem rp_below {w w' : World} {v : Value} {zs : List Int} (h : Rd w v zs ∧ Plain v) (hb : Below w.heap.size w w') : Rd w' v zs ∧ Plain v := ⟨h.1.below hb, h.2⟩
theorem rd_restP {w : World} {ao : Option Addr} {cap : Nat} {zs : List Int} (h : Rd w (.slice ao zs.length cap) zs) (hp : Plain (.slice ao zs.length cap)) (t : Nat) (ht : t ≤ zs.length) :
    Rd w (.slice (Option.map (fun x => x.add t) ao) (zs.length - t) (cap - t)) (zs.drop t) ∧ Plain (.slice (Option.map (fun x => x.add t) ao) (zs.length - t) (cap - t)) := by
  have := rd_part h hp t (zs.length - t) (by omega)
  rw [List.take_of_length_le (by simp)] at this
  exact this
theorem rd_restP0 {w : World} {ao : Option Addr} {cap : Nat} {zs : List Int} (h : Rd w (.slice ao zs.length cap) zs) (hp : Plain (.slice ao zs.length cap)) (t : Nat) (ht : t ≤ zs.length) (hc : cap = t) :
    Rd w (.slice ao (zs.length - t) 0) (zs.drop t) ∧ Plain (.slice ao (zs.length - t) 0) := by
  have := rd_part0 h hp t (zs.length - t) (by omega) hc
  rw [List.take_of_length_le (by simp)] at this
  exact this
theorem start_results (tmps : Array Value) (w : World) (c4 c5 c6 c7 c8 : Value) (h4 : tmps[4]?.getD undef = c4) (h5 : tmps[5]?.getD undef = c5) (h6 : tmps[6]?.getD undef = c6) (h7 : tmps[7]?.getD undef = c7) (h8 : tmps[8]?.getD undef = c8) :
    (results Try.f38 tmps).run Try.prog w = .ok (.tuple #[c4, c5, c6, c7, c8]) w := by
  simp [results, Try.results38, h4, h5, h6, h7, h8, go_sem]
set_option maxRecDepth 20000 in
set_option maxHeartbeats 2000000 in
theorem start_ok {w0 w : World} (h0 : Below w0.heap.size w0 w) {v : Value} {zs : List Int} (hr : Rd w0 v zs) (hp : Plain v) (hl : zs.length ≤ 100000) (f : Int) (hf : 0 ≤ f ∧ f ≤ 255)
    (a b c d g h : In) (x y p q : Int) (t u : List Int)
    (h1 : inNumber 1 ⟨zs, 0, 0⟩ = (x, a)) (h2 : inNeed (x == f) 3 a = b) (h3 : inNumber 4 b = (y, c)) (h4 : inNumber 1 c = (p, d)) (h5 : inMost p.toNat 20 d = (t, g)) (h6 : inNumber 1 g = (q, h))
    (k : In) (h7 : inMost q.toNat 20 h = (u, k)) (hE : k.e = 0) :
    Calls Try.prog 38 #[v, .int .u8 f] w fun e w' => ∃ vt vf vr, e = .returned (.tuple #[.int .i64 y, vt, vf, vr, .bool true]) ∧ (Rd w0 vt t ∧ Plain vt) ∧ (Rd w0 vf u ∧ Plain vf) ∧ (Rd w0 vr (zs.drop k.t) ∧ Plain vr) ∧ Below w.heap.size w w' := by
  have hb := hr.byt
  have za : a.zs = zs := by have := inNumber_zs 1 ⟨zs, 0, 0⟩; rw [h1] at this; exact this
  have zb : b.zs = zs := by rw [← h2, inNeed_zs]; exact za
  have zc : c.zs = zs := by have := inNumber_zs 4 b; rw [h3] at this; exact this.trans zb
  have zd : d.zs = zs := by have := inNumber_zs 1 c; rw [h4] at this; exact this.trans zc
  have zg : g.zs = zs := by have := inMost_zs p.toNat 20 d; rw [h5] at this; exact this.trans zd
  have zh : h.zs = zs := by have := inNumber_zs 1 g; rw [h6] at this; exact this.trans zg
  have zk : k.zs = zs := by have := inMost_zs q.toNat 20 h; rw [h7] at this; exact this.trans zh
  have hp0 : 0 ≤ p := by have := inNumber1_bd (s := c) (by rw [zc]; exact hb); rw [h4] at this; exact this.1
  have hq0 : 0 ≤ q := by have := inNumber1_bd (s := g) (by rw [zg]; exact hb); rw [h6] at this; exact this.1
  have hx0 : 0 ≤ x ∧ x ≤ 255 := by have := inNumber1_bd (s := ⟨zs, 0, 0⟩) hb; rw [h1] at this; exact this
  have hr0 := hr
  have hp0' := hp
  obtain ⟨ao, cap, rfl, hc1, hc2, _⟩ := hr
  have hcap : cap ≤ 9223372036854775807 := by unfold maxLen at hc2; omega
  clear hc2
  have c1 := inumber_q (iq_start1 h0 hr0 hp (by omega)) 1 (by decide)
  rw [h1] at c1
  have HRP := Lib.hid (And.intro hr0 hp)
  have H2 := Lib.hid h2
  have H3 := Lib.hid h3
  have H4 := Lib.hid h4
  have H5 := Lib.hid h5
  have H6 := Lib.hid h6
  have H7 := Lib.hid h7
  have HZ := Lib.hid zk
  clear h1 h2 h3 h4 h5 h6 h7 hr0 hp hp0' za zb zc zd zg zh zk hb
  go_enter Try.func38, Try.ntmps38
  go_wp2_with fail
  refine c1.mono ?_
  rintro e w1 ⟨rfl, i1, b1⟩
  have B1 := Lib.hid b1
  have c2 := need_q i1 (x == f) 3
  rw [H2.out] at c2
  clear c1 i1 b1
  go_wp2_with fail
  refine c2.mono ?_
  rintro e w2 ⟨rfl, i2, b2⟩
  have B2 := Lib.hid (B1.out.trans b2)
  have c3 := inumber_q i2 4 (by decide)
  rw [H3.out] at c3
  clear c2 i2 b2
  go_wp2_with fail
  refine c3.mono ?_
  rintro e w3 ⟨rfl, i3, b3⟩
  have B3 := Lib.hid (B2.out.trans b3)
  have c4 := inumber_q i3 1 (by decide)
  rw [H4.out] at c4
  clear c3 i3 b3
  go_wp2_with fail
  refine c4.mono ?_
  rintro e w4 ⟨rfl, i4, b4⟩
  have B4 := Lib.hid (B3.out.trans b4)
  have c5 := imost_q i4 p 20 hp0
  rw [H5.out] at c5
  clear c4 i4 b4
  go_wp2_with fail
  refine c5.mono ?_
  rintro e w5 ⟨vt, rfl, rt, i5, b5⟩
  have B5 := Lib.hid (B4.out.trans b5)
  have c6 := inumber_q i5 1 (by decide)
  rw [H6.out] at c6
  clear c5 i5 b5
  go_wp2_with fail
  refine c6.mono ?_
  rintro e w6 ⟨rfl, i6, b6⟩
  have B6 := Lib.hid (B5.out.trans b6)
  have c7 := imost_q i6 q 20 hq0
  rw [H7.out] at c7
  clear c6 i6 b6
  go_wp2_with fail
  refine c7.mono ?_
  rintro e w7 ⟨vf, rfl, rf', i7, b7⟩
  have B7 := Lib.hid (B6.out.trans b7)
  have HI := Lib.hid i7
  have HBL := Lib.hid (B7.out.below (below_alloc w _) (Nat.le_refl _))
  have HT := Lib.hid rt
  have HF := Lib.hid rf'
  obtain ⟨_, _, _, _, _, _, c0, c1, c2, cf⟩ := i7.cells
  rw [hE] at c2
  have hk : k.t ≤ zs.length := by have := i7.tl; rw [HZ.out] at this; exact this
  clear c7 i7 rt rf' b7
  go_wp2_with fail
  go_quiet (fail)
  go_wp2_with fail
  all_goals
    refine bodyPost_ret (start_results _ _ _ _ _ _ _ rfl rfl rfl rfl rfl) rfl ?_
    refine ⟨_, _, _, rfl, HT.out, HF.out, ?_, below_drewN HBL.out _⟩
    first
      | exact rd_restP HRP.out.1 HRP.out.2 k.t hk
      | exact rd_restP0 HRP.out.1 HRP.out.2 k.t hk (by assumption)
set_option maxRecDepth 20000 in
set_option maxHeartbeats 2000000 in
theorem start_no {w0 w : World} (h0 : Below w0.heap.size w0 w) {v : Value} {zs : List Int} (hr : Rd w0 v zs) (hp : Plain v) (hl : zs.length ≤ 100000) (f : Int) (hf : 0 ≤ f ∧ f ≤ 255)
    (a b c d g h : In) (x y p q : Int) (t u : List Int)
    (h1 : inNumber 1 ⟨zs, 0, 0⟩ = (x, a)) (h2 : inNeed (x == f) 3 a = b) (h3 : inNumber 4 b = (y, c)) (h4 : inNumber 1 c = (p, d)) (h5 : inMost p.toNat 20 d = (t, g)) (h6 : inNumber 1 g = (q, h))
    (k : In) (h7 : inMost q.toNat 20 h = (u, k)) (hE : k.e ≠ 0) :
    Calls Try.prog 38 #[v, .int .u8 f] w fun e w' => e = .returned (.tuple #[.int .i64 0, .slice none 0 0, .slice none 0 0, .slice none 0 0, .bool false]) ∧ Below w.heap.size w w' := by
  have hb := hr.byt
  have za : a.zs = zs := by have := inNumber_zs 1 ⟨zs, 0, 0⟩; rw [h1] at this; exact this
  have zb : b.zs = zs := by rw [← h2, inNeed_zs]; exact za
  have zc : c.zs = zs := by have := inNumber_zs 4 b; rw [h3] at this; exact this.trans zb
  have zd : d.zs = zs := by have := inNumber_zs 1 c; rw [h4] at this; exact this.trans zc
  have zg : g.zs = zs := by have := inMost_zs p.toNat 20 d; rw [h5] at this; exact this.trans zd
  have zh : h.zs = zs := by have := inNumber_zs 1 g; rw [h6] at this; exact this.trans zg
  have zk : k.zs = zs := by have := inMost_zs q.toNat 20 h; rw [h7] at this; exact this.trans zh
  have hp0 : 0 ≤ p := by have := inNumber1_bd (s := c) (by rw [zc]; exact hb); rw [h4] at this; exact this.1
  have hq0 : 0 ≤ q := by have := inNumber1_bd (s := g) (by rw [zg]; exact hb); rw [h6] at this; exact this.1
  have hx0 : 0 ≤ x ∧ x ≤ 255 := by have := inNumber1_bd (s := ⟨zs, 0, 0⟩) hb; rw [h1] at this; exact this
  have hr0 := hr
  have hp0' := hp
  obtain ⟨ao, cap, rfl, hc1, hc2, _⟩ := hr
  have hcap : cap ≤ 9223372036854775807 := by unfold maxLen at hc2; omega
  clear hc2
  have c1 := inumber_q (iq_start1 h0 hr0 hp (by omega)) 1 (by decide)
  rw [h1] at c1
  have HRP := Lib.hid (And.intro hr0 hp)
  have H2 := Lib.hid h2
  have H3 := Lib.hid h3
  have H4 := Lib.hid h4
  have H5 := Lib.hid h5
  have H6 := Lib.hid h6
  have H7 := Lib.hid h7
  have HZ := Lib.hid zk
  clear h1 h2 h3 h4 h5 h6 h7 hr0 hp hp0' za zb zc zd zg zh zk hb
  go_enter Try.func38, Try.ntmps38
  go_wp2_with fail
  refine c1.mono ?_
  rintro e w1 ⟨rfl, i1, b1⟩
  have B1 := Lib.hid b1
  have c2 := need_q i1 (x == f) 3
  rw [H2.out] at c2
  clear c1 i1 b1
  go_wp2_with fail
  refine c2.mono ?_
  rintro e w2 ⟨rfl, i2, b2⟩
  have B2 := Lib.hid (B1.out.trans b2)
  have c3 := inumber_q i2 4 (by decide)
  rw [H3.out] at c3
  clear c2 i2 b2
  go_wp2_with fail
  refine c3.mono ?_
  rintro e w3 ⟨rfl, i3, b3⟩
  have B3 := Lib.hid (B2.out.trans b3)
  have c4 := inumber_q i3 1 (by decide)
  rw [H4.out] at c4
  clear c3 i3 b3
  go_wp2_with fail
  refine c4.mono ?_
  rintro e w4 ⟨rfl, i4, b4⟩
  have B4 := Lib.hid (B3.out.trans b4)
  have c5 := imost_q i4 p 20 hp0
  rw [H5.out] at c5
  clear c4 i4 b4
  go_wp2_with fail
  refine c5.mono ?_
  rintro e w5 ⟨vt, rfl, rt, i5, b5⟩
  have B5 := Lib.hid (B4.out.trans b5)
  have c6 := inumber_q i5 1 (by decide)
  rw [H6.out] at c6
  clear c5 i5 b5
  go_wp2_with fail
  refine c6.mono ?_
  rintro e w6 ⟨rfl, i6, b6⟩
  have B6 := Lib.hid (B5.out.trans b6)
  have c7 := imost_q i6 q 20 hq0
  rw [H7.out] at c7
  clear c6 i6 b6
  go_wp2_with fail
  refine c7.mono ?_
  rintro e w7 ⟨vf, rfl, rf', i7, b7⟩
  have B7 := Lib.hid (B6.out.trans b7)
  have HI := Lib.hid i7
  have HBL := Lib.hid (B7.out.below (below_alloc w _) (Nat.le_refl _))
  have HT := Lib.hid rt
  have HF := Lib.hid rf'
  obtain ⟨_, _, _, _, _, _, c0, c1, c2, cf⟩ := i7.cells
  have hE1 : (k.e != 0) = true := by simp [hE]
  clear c7 i7 rt rf' b7
  go_wp2_with fail
  refine bodyPost_ret (start_results _ _ _ _ _ _ _ rfl rfl rfl rfl rfl) rfl ?_
  exact ⟨rfl, HBL.out⟩
/-- What the document's start tells: the version, both names, what stands behind them, and whether they are. -/
def startP (zs : List Int) (f : Int) : Int × List Int × List Int × List Int × Bool :=
  let a := inNumber 1 ⟨zs, 0, 0⟩
  let c := inNumber 4 (inNeed (a.1 == f) 3 a.2)
  let d := inNumber 1 c.2
  let g := inMost d.1.toNat 20 d.2
  let h := inNumber 1 g.2
  let k := inMost h.1.toNat 20 h.2
  if k.2.e = 0 then (c.1, g.1, k.1, zs.drop k.2.t, true) else (0, [], [], [], false)
theorem start_any {w0 w : World} (h0 : Below w0.heap.size w0 w) {v : Value} {zs : List Int} (hr : Rd w0 v zs) (hp : Plain v) (hl : zs.length ≤ 100000) (f : Int) (hf : 0 ≤ f ∧ f ≤ 255) :
    Calls Try.prog 38 #[v, .int .u8 f] w fun e w' => ∃ vt vf vr, e = .returned (.tuple #[.int .i64 (startP zs f).1, vt, vf, vr, .bool (startP zs f).2.2.2.2]) ∧ (Rd w0 vt (startP zs f).2.1 ∧ Plain vt) ∧ (Rd w0 vf (startP zs f).2.2.1 ∧ Plain vf) ∧ (Rd w0 vr (startP zs f).2.2.2.1 ∧ Plain vr) ∧ Below w.heap.size w w' := by
  unfold startP
  simp only
  split
  · rename_i hE
    exact start_ok h0 hr hp hl f hf _ _ _ _ _ _ _ _ _ _ _ _ rfl rfl rfl rfl rfl rfl _ rfl hE
  · rename_i hE
    refine (start_no h0 hr hp hl f hf _ _ _ _ _ _ _ _ _ _ _ _ rfl rfl rfl rfl rfl rfl _ rfl hE).mono ?_
    rintro e w' ⟨rfl, hb⟩
    exact ⟨_, _, _, rfl, ⟨Rd.nil _, .inl rfl⟩, ⟨Rd.nil _, .inl rfl⟩, ⟨Rd.nil _, .inl rfl⟩, hb⟩
end Go.Proofs.Ytjdlmmbkppaenaa
