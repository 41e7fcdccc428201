/- The reference's Make, for the other kinds of plain parts. -/
import Derived.Test.YtinncmljffcobaaZRmake
namespace Go.Proofs.Ytinncmljffcobaa
open Go Go.RowKit

/-- A part, in a world where nothing that was there has changed. -/
theorem part_at {w w' : World} {b off cap n : Nat} {ps : List Int} (h : Rd .i64 w (.slice (some ⟨b, off, none⟩) n cap) ps) (hb : Below w.heap.size w w') (j : Nat) (hj : j < ps.length) {x : Int} (hx : ps.getD j 0 = x) : w'.cell? ⟨b, off + j, none⟩ = some (.int .i64 x) := by
  obtain ⟨ao, cp, hv, _, _, _, hc⟩ := h.below hb
  simp only [Value.slice.injEq] at hv
  obtain ⟨rfl, rfl, rfl⟩ := hv
  have := hc _ rfl j hj
  rw [Addr.add_lit, hx] at this
  exact this

theorem refOk7 (N : List Nd) {ps : List Int} (hl : ps.length = 1) {x : Int} (hx : ps.getD 0 0 = x) : refOk N 7 ps = decide (kindN N x = 2) := by
  subst hx
  simp [refOk, hl]
theorem refOk9 (N : List Nd) {ps : List Int} (hl : ps.length = 2) {x : Int} (hx : ps.getD 0 0 = x) : refOk N 9 ps = decide (kindN N x = 2) := by
  subst hx
  simp [refOk, hl]
theorem refOk6 (N : List Nd) {ps : List Int} (hl : ps.length = 3) {x : Int} (hx : ps.getD 1 0 = x) : refOk N 6 ps = decide (kindN N x = 1) := by
  subst hx
  simp [refOk, hl]
theorem refOk10 (N : List Nd) {ps : List Int} (hl : ps.length = 3) {x : Int} (hx : ps.getD 1 0 = x) : refOk N 10 ps = decide (kindN N x = 1) := by
  subst hx
  simp [refOk, hl]

set_option maxRecDepth 20000 in
set_option maxHeartbeats 4000000 in
theorem rmake_7 {w : World} {B rb : Nat} {nv : Value} {L : List (Nd × Value)} (h : RTbl w B rb nv L) (hk : ∀ m ∈ nds L, m.1 ≠ 0) (k : Int) {pv : Value} {ps : List Int} (hp : Rd .i64 w pv ps) (hl : ps.length ≤ 1000000) (hroom : L.length < 65536) (hB : B ≤ w.heap.size) (hk7 : Hid (k = 7)) :
    Calls Try.prog 30 #[.pointer (some ⟨rb, 0, none⟩), .int .i64 k, pv] w fun e w' => RMade w B rb nv L k ps e w' := by
  have hp' := hp
  obtain ⟨ao, cap, rfl, _, _, _, _⟩ := hp'
  have HL := Lib.hid hl
  have HK := Lib.hid hk
  have HR := Lib.hid hroom
  clear hl hk hroom
  go_enter Try.func30, Try.ntmps30
  go_wp2_with fail
  go_loopw [7] (fun i wr => ∃ j : Nat, j ≤ ps.length ∧ i = .int .i64 j ∧ (∀ q, q < j → kindN (nds L) (ps.getD q 0) ≠ 0) ∧ w = wr) (fun i _ => ps.length - (intOf i).toNat)
  case atStart => exact ⟨0, Nat.zero_le _, rfl, (fun q hq => by omega), rfl⟩
  case round =>
    obtain ⟨j, hj, rfl, hall, rfl⟩ := hrel
    by_cases hlt : j < ps.length
    · have hlt' : (j : Int) < (ps.length : Int) := by omega
      rcases hp.cases with ⟨h0, _⟩ | ⟨b, off, c, e, _, _, _, _, hc⟩
      · rw [h0] at hlt; simp at hlt
      · cases e
        have hcj := hc j hlt
        have HALL := Lib.hid hall
        have HX : Hid (∃ x, x = ps.getD j 0) := Lib.hid ⟨_, rfl⟩
        obtain ⟨x, hx⟩ := HX.out
        rw [← hx] at hcj
        have HXX := Lib.hid hx
        have hcall := kind_any h x
        clear hc hall hp hx HX
        by_cases hz : kindN (nds L) x = 0
        · have hno := fits_none HK.out k ps j hlt (by rw [← HXX.out]; exact hz)
          have HNO := Lib.hid hno
          rw [hz] at hcall
          clear hno hz
          go_wp2_with (go_at_call 47; refine hcall.mono ?_; rintro e w' ⟨rfl, rfl⟩)
          go_ret
          exact .inr ⟨HNO.out, rfl, Below.refl _ _⟩
        · have hzb : (kindN (nds L) x == 0) = false := beq_eq_false_iff_ne.2 hz
          have HZ := Lib.hid hz
          clear hz
          go_wp2_with (go_at_call 47; refine hcall.mono ?_; rintro e w' ⟨rfl, rfl⟩)
          go_roundw
          case rel =>
            refine ⟨j + 1, by omega, by go_num, fun q hq => ?_, trivial⟩
            by_cases hqj : q < j
            · exact HALL.out q hqj
            · obtain rfl : q = j := by omega
              rw [← HXX.out]; exact HZ.out
          case measure => simp [intOf]; omega
    · obtain rfl : j = ps.length := by omega
      have hfr := fits_ref HK.out k ps hall
      have hE := own_empty w (Nat.le_refl w.heap.size)
      have hpE := hp.alloc (.cells #[] 3)
      have hSE : w.heap.size ≤ (w.alloc (.cells #[] 3)).heap.size := by simp
      have hBE := below_alloc w (.cells #[] 3)
      clear hall hj hlt
      obtain rfl := hk7.out
      by_cases hlen : ps.length = 1
      · have hlI : ((ps.length : Int) == 1) = true := by simp; omega
        rcases hp.cases with ⟨h0, _⟩ | ⟨b, off, c, e, _, _, _, _, _⟩
        · rw [h0] at hlen; simp at hlen
        cases e
        have HP := Lib.hid hp
        have HX : Hid (∃ x, ps.getD 0 0 = x) := Lib.hid ⟨_, rfl⟩
        obtain ⟨x, hx⟩ := HX.out
        have HXX := Lib.hid hx
        have HLN : Hid (ps.length = 1) := Lib.hid hlen
        have h1I : (0 : Int) < (ps.length : Int) := by omega
        have HH := Lib.hid h
        by_cases hK : kindN (nds L) x = 2
        · have HF : Hid (fitsN (nds L) 7 ps = true) := Lib.hid (by rw [hfr, refOk7 (nds L) hlen hx]; exact decide_eq_true hK)
          have tK : (kindN (nds L) x == 2) = true := beq_iff_eq.2 hK
          clear hfr hlen hx HX hp hK
          go_wp2_with (first | (at_builtin; refine wpList_append_ints .i64 3 8 (.tmp 25) (.tmp 26) 23 rfl rfl info3' Try.underlying23 w.heap.size _ 0 [] rfl hE _ ps rfl hpE (le8 HL) (le1 HL) hSE ?_; intro v2 w2 hown2 hb2 _; have H2 := rmake_mid HH.out hB hBE hb2 hown2; clear hown2 hb2; obtain ⟨a2, c2, rfl, _, _⟩ := own_shape H2.own; have hx0 := part_at HP.out (H2.bel.trans ((below_alloc w2 (.cells #[.int .i64 7, .string ⟨#[]⟩, .slice a2 ps.length c2] 69)).mono H2.bel.size)) 0 (by rw [HLN.out]; decide) HXX.out; rw [Nat.add_zero] at hx0) | (go_at_call 47; refine (kind_any (H2.tbl.keep (below_alloc w2 (.cells #[.int .i64 7, .string ⟨#[]⟩, .slice a2 ps.length c2] 69))) x).mono ?_; rintro e w' ⟨rfl, rfl⟩))
          have hcall := rmake_last (s := ⟨#[]⟩) (o := .cells #[.int .i64 7, .string ⟨#[]⟩, .slice a2 ps.length c2] 69) H2 (Lib.hid rfl) HR 7
          refine hcall.mono ?_
          intro e w4 h4
          obtain ⟨z, rfl⟩ := h4.val
          have H4 := Lib.hid h4
          clear h4 hcall
          go_wp2_with fail
          go_ret
          exact .inl ⟨HF.out, H4.out⟩
        · have HF : Hid (fitsN (nds L) 7 ps = false) := Lib.hid (by rw [hfr, refOk7 (nds L) hlen hx]; exact decide_eq_false hK)
          have tK : (kindN (nds L) x == 2) = false := beq_eq_false_iff_ne.2 hK
          clear hfr hlen hx HX hp hK
          go_wp2_with (first | (at_builtin; refine wpList_append_ints .i64 3 8 (.tmp 25) (.tmp 26) 23 rfl rfl info3' Try.underlying23 w.heap.size _ 0 [] rfl hE _ ps rfl hpE (le8 HL) (le1 HL) hSE ?_; intro v2 w2 hown2 hb2 _; have H2 := rmake_mid HH.out hB hBE hb2 hown2; clear hown2 hb2; obtain ⟨a2, c2, rfl, _, _⟩ := own_shape H2.own; have hx0 := part_at HP.out (H2.bel.trans ((below_alloc w2 (.cells #[.int .i64 7, .string ⟨#[]⟩, .slice a2 ps.length c2] 69)).mono H2.bel.size)) 0 (by rw [HLN.out]; decide) HXX.out; rw [Nat.add_zero] at hx0) | (go_at_call 47; refine (kind_any (H2.tbl.keep (below_alloc w2 (.cells #[.int .i64 7, .string ⟨#[]⟩, .slice a2 ps.length c2] 69))) x).mono ?_; rintro e w' ⟨rfl, rfl⟩))
          go_ret
          exact .inr ⟨HF.out, rfl, H2.bel.trans ((below_alloc _ _).mono H2.bel.size)⟩
      · have hlI : ((ps.length : Int) == 1) = false := beq_eq_false_iff_ne.2 (by omega)
        have HF : Hid (fitsN (nds L) 7 ps = false) := Lib.hid (by rw [hfr]; simp [refOk, hlen])
        have HH := Lib.hid h
        clear hfr hlen
        go_wp2_with (at_builtin; refine wpList_append_ints .i64 3 8 (.tmp 25) (.tmp 26) 23 rfl rfl info3' Try.underlying23 w.heap.size _ 0 [] rfl hE _ ps rfl hpE (le8 HL) (le1 HL) hSE ?_; intro v2 w2 hown2 hb2 _; have H2 := rmake_mid HH.out hB hBE hb2 hown2; clear hown2 hb2; obtain ⟨a2, c2, rfl, _, _⟩ := own_shape H2.own)
        go_ret
        exact .inr ⟨HF.out, rfl, H2.bel.trans ((below_alloc _ _).mono H2.bel.size)⟩

set_option maxRecDepth 20000 in
set_option maxHeartbeats 4000000 in
theorem rmake_9 {w : World} {B rb : Nat} {nv : Value} {L : List (Nd × Value)} (h : RTbl w B rb nv L) (hk : ∀ m ∈ nds L, m.1 ≠ 0) (k : Int) {pv : Value} {ps : List Int} (hp : Rd .i64 w pv ps) (hl : ps.length ≤ 1000000) (hroom : L.length < 65536) (hB : B ≤ w.heap.size) (hk7 : Hid (k = 9)) :
    Calls Try.prog 30 #[.pointer (some ⟨rb, 0, none⟩), .int .i64 k, pv] w fun e w' => RMade w B rb nv L k ps e w' := by
  have hp' := hp
  obtain ⟨ao, cap, rfl, _, _, _, _⟩ := hp'
  have HL := Lib.hid hl
  have HK := Lib.hid hk
  have HR := Lib.hid hroom
  clear hl hk hroom
  go_enter Try.func30, Try.ntmps30
  go_wp2_with fail
  go_loopw [7] (fun i wr => ∃ j : Nat, j ≤ ps.length ∧ i = .int .i64 j ∧ (∀ q, q < j → kindN (nds L) (ps.getD q 0) ≠ 0) ∧ w = wr) (fun i _ => ps.length - (intOf i).toNat)
  case atStart => exact ⟨0, Nat.zero_le _, rfl, (fun q hq => by omega), rfl⟩
  case round =>
    obtain ⟨j, hj, rfl, hall, rfl⟩ := hrel
    by_cases hlt : j < ps.length
    · have hlt' : (j : Int) < (ps.length : Int) := by omega
      rcases hp.cases with ⟨h0, _⟩ | ⟨b, off, c, e, _, _, _, _, hc⟩
      · rw [h0] at hlt; simp at hlt
      · cases e
        have hcj := hc j hlt
        have HALL := Lib.hid hall
        have HX : Hid (∃ x, x = ps.getD j 0) := Lib.hid ⟨_, rfl⟩
        obtain ⟨x, hx⟩ := HX.out
        rw [← hx] at hcj
        have HXX := Lib.hid hx
        have hcall := kind_any h x
        clear hc hall hp hx HX
        by_cases hz : kindN (nds L) x = 0
        · have hno := fits_none HK.out k ps j hlt (by rw [← HXX.out]; exact hz)
          have HNO := Lib.hid hno
          rw [hz] at hcall
          clear hno hz
          go_wp2_with (go_at_call 47; refine hcall.mono ?_; rintro e w' ⟨rfl, rfl⟩)
          go_ret
          exact .inr ⟨HNO.out, rfl, Below.refl _ _⟩
        · have hzb : (kindN (nds L) x == 0) = false := beq_eq_false_iff_ne.2 hz
          have HZ := Lib.hid hz
          clear hz
          go_wp2_with (go_at_call 47; refine hcall.mono ?_; rintro e w' ⟨rfl, rfl⟩)
          go_roundw
          case rel =>
            refine ⟨j + 1, by omega, by go_num, fun q hq => ?_, trivial⟩
            by_cases hqj : q < j
            · exact HALL.out q hqj
            · obtain rfl : q = j := by omega
              rw [← HXX.out]; exact HZ.out
          case measure => simp [intOf]; omega
    · obtain rfl : j = ps.length := by omega
      have hfr := fits_ref HK.out k ps hall
      have hE := own_empty w (Nat.le_refl w.heap.size)
      have hpE := hp.alloc (.cells #[] 3)
      have hSE : w.heap.size ≤ (w.alloc (.cells #[] 3)).heap.size := by simp
      have hBE := below_alloc w (.cells #[] 3)
      clear hall hj hlt
      obtain rfl := hk7.out
      by_cases hlen : ps.length = 2
      · have hlI : ((ps.length : Int) == 2) = true := by simp; omega
        rcases hp.cases with ⟨h0, _⟩ | ⟨b, off, c, e, _, _, _, _, _⟩
        · rw [h0] at hlen; simp at hlen
        cases e
        have HP := Lib.hid hp
        have HX : Hid (∃ x, ps.getD 0 0 = x) := Lib.hid ⟨_, rfl⟩
        obtain ⟨x, hx⟩ := HX.out
        have HXX := Lib.hid hx
        have HLN : Hid (ps.length = 2) := Lib.hid hlen
        have h1I : (0 : Int) < (ps.length : Int) := by omega
        have HH := Lib.hid h
        by_cases hK : kindN (nds L) x = 2
        · have HF : Hid (fitsN (nds L) 9 ps = true) := Lib.hid (by rw [hfr, refOk9 (nds L) hlen hx]; exact decide_eq_true hK)
          have tK : (kindN (nds L) x == 2) = true := beq_iff_eq.2 hK
          clear hfr hlen hx HX hp hK
          go_wp2_with (first | (at_builtin; refine wpList_append_ints .i64 3 8 (.tmp 25) (.tmp 26) 23 rfl rfl info3' Try.underlying23 w.heap.size _ 0 [] rfl hE _ ps rfl hpE (le8 HL) (le1 HL) hSE ?_; intro v2 w2 hown2 hb2 _; have H2 := rmake_mid HH.out hB hBE hb2 hown2; clear hown2 hb2; obtain ⟨a2, c2, rfl, _, _⟩ := own_shape H2.own; have hx0 := part_at HP.out (H2.bel.trans ((below_alloc w2 (.cells #[.int .i64 9, .string ⟨#[]⟩, .slice a2 ps.length c2] 69)).mono H2.bel.size)) 0 (by rw [HLN.out]; decide) HXX.out; rw [Nat.add_zero] at hx0) | (go_at_call 47; refine (kind_any (H2.tbl.keep (below_alloc w2 (.cells #[.int .i64 9, .string ⟨#[]⟩, .slice a2 ps.length c2] 69))) x).mono ?_; rintro e w' ⟨rfl, rfl⟩))
          have hcall := rmake_last (s := ⟨#[]⟩) (o := .cells #[.int .i64 9, .string ⟨#[]⟩, .slice a2 ps.length c2] 69) H2 (Lib.hid rfl) HR 9
          refine hcall.mono ?_
          intro e w4 h4
          obtain ⟨z, rfl⟩ := h4.val
          have H4 := Lib.hid h4
          clear h4 hcall
          go_wp2_with fail
          go_ret
          exact .inl ⟨HF.out, H4.out⟩
        · have HF : Hid (fitsN (nds L) 9 ps = false) := Lib.hid (by rw [hfr, refOk9 (nds L) hlen hx]; exact decide_eq_false hK)
          have tK : (kindN (nds L) x == 2) = false := beq_eq_false_iff_ne.2 hK
          clear hfr hlen hx HX hp hK
          go_wp2_with (first | (at_builtin; refine wpList_append_ints .i64 3 8 (.tmp 25) (.tmp 26) 23 rfl rfl info3' Try.underlying23 w.heap.size _ 0 [] rfl hE _ ps rfl hpE (le8 HL) (le1 HL) hSE ?_; intro v2 w2 hown2 hb2 _; have H2 := rmake_mid HH.out hB hBE hb2 hown2; clear hown2 hb2; obtain ⟨a2, c2, rfl, _, _⟩ := own_shape H2.own; have hx0 := part_at HP.out (H2.bel.trans ((below_alloc w2 (.cells #[.int .i64 9, .string ⟨#[]⟩, .slice a2 ps.length c2] 69)).mono H2.bel.size)) 0 (by rw [HLN.out]; decide) HXX.out; rw [Nat.add_zero] at hx0) | (go_at_call 47; refine (kind_any (H2.tbl.keep (below_alloc w2 (.cells #[.int .i64 9, .string ⟨#[]⟩, .slice a2 ps.length c2] 69))) x).mono ?_; rintro e w' ⟨rfl, rfl⟩))
          go_ret
          exact .inr ⟨HF.out, rfl, H2.bel.trans ((below_alloc _ _).mono H2.bel.size)⟩
      · have hlI : ((ps.length : Int) == 2) = false := beq_eq_false_iff_ne.2 (by omega)
        have HF : Hid (fitsN (nds L) 9 ps = false) := Lib.hid (by rw [hfr]; simp [refOk, hlen])
        have HH := Lib.hid h
        clear hfr hlen
        go_wp2_with (at_builtin; refine wpList_append_ints .i64 3 8 (.tmp 25) (.tmp 26) 23 rfl rfl info3' Try.underlying23 w.heap.size _ 0 [] rfl hE _ ps rfl hpE (le8 HL) (le1 HL) hSE ?_; intro v2 w2 hown2 hb2 _; have H2 := rmake_mid HH.out hB hBE hb2 hown2; clear hown2 hb2; obtain ⟨a2, c2, rfl, _, _⟩ := own_shape H2.own)
        go_ret
        exact .inr ⟨HF.out, rfl, H2.bel.trans ((below_alloc _ _).mono H2.bel.size)⟩

set_option maxRecDepth 20000 in
set_option maxHeartbeats 4000000 in
theorem rmake_6 {w : World} {B rb : Nat} {nv : Value} {L : List (Nd × Value)} (h : RTbl w B rb nv L) (hk : ∀ m ∈ nds L, m.1 ≠ 0) (k : Int) {pv : Value} {ps : List Int} (hp : Rd .i64 w pv ps) (hl : ps.length ≤ 1000000) (hroom : L.length < 65536) (hB : B ≤ w.heap.size) (hk7 : Hid (k = 6)) :
    Calls Try.prog 30 #[.pointer (some ⟨rb, 0, none⟩), .int .i64 k, pv] w fun e w' => RMade w B rb nv L k ps e w' := by
  have hp' := hp
  obtain ⟨ao, cap, rfl, _, _, _, _⟩ := hp'
  have HL := Lib.hid hl
  have HK := Lib.hid hk
  have HR := Lib.hid hroom
  clear hl hk hroom
  go_enter Try.func30, Try.ntmps30
  go_wp2_with fail
  go_loopw [7] (fun i wr => ∃ j : Nat, j ≤ ps.length ∧ i = .int .i64 j ∧ (∀ q, q < j → kindN (nds L) (ps.getD q 0) ≠ 0) ∧ w = wr) (fun i _ => ps.length - (intOf i).toNat)
  case atStart => exact ⟨0, Nat.zero_le _, rfl, (fun q hq => by omega), rfl⟩
  case round =>
    obtain ⟨j, hj, rfl, hall, rfl⟩ := hrel
    by_cases hlt : j < ps.length
    · have hlt' : (j : Int) < (ps.length : Int) := by omega
      rcases hp.cases with ⟨h0, _⟩ | ⟨b, off, c, e, _, _, _, _, hc⟩
      · rw [h0] at hlt; simp at hlt
      · cases e
        have hcj := hc j hlt
        have HALL := Lib.hid hall
        have HX : Hid (∃ x, x = ps.getD j 0) := Lib.hid ⟨_, rfl⟩
        obtain ⟨x, hx⟩ := HX.out
        rw [← hx] at hcj
        have HXX := Lib.hid hx
        have hcall := kind_any h x
        clear hc hall hp hx HX
        by_cases hz : kindN (nds L) x = 0
        · have hno := fits_none HK.out k ps j hlt (by rw [← HXX.out]; exact hz)
          have HNO := Lib.hid hno
          rw [hz] at hcall
          clear hno hz
          go_wp2_with (go_at_call 47; refine hcall.mono ?_; rintro e w' ⟨rfl, rfl⟩)
          go_ret
          exact .inr ⟨HNO.out, rfl, Below.refl _ _⟩
        · have hzb : (kindN (nds L) x == 0) = false := beq_eq_false_iff_ne.2 hz
          have HZ := Lib.hid hz
          clear hz
          go_wp2_with (go_at_call 47; refine hcall.mono ?_; rintro e w' ⟨rfl, rfl⟩)
          go_roundw
          case rel =>
            refine ⟨j + 1, by omega, by go_num, fun q hq => ?_, trivial⟩
            by_cases hqj : q < j
            · exact HALL.out q hqj
            · obtain rfl : q = j := by omega
              rw [← HXX.out]; exact HZ.out
          case measure => simp [intOf]; omega
    · obtain rfl : j = ps.length := by omega
      have hfr := fits_ref HK.out k ps hall
      have hE := own_empty w (Nat.le_refl w.heap.size)
      have hpE := hp.alloc (.cells #[] 3)
      have hSE : w.heap.size ≤ (w.alloc (.cells #[] 3)).heap.size := by simp
      have hBE := below_alloc w (.cells #[] 3)
      clear hall hj hlt
      obtain rfl := hk7.out
      by_cases hlen : ps.length = 3
      · have hlI : ((ps.length : Int) == 3) = true := by simp; omega
        rcases hp.cases with ⟨h0, _⟩ | ⟨b, off, c, e, _, _, _, _, _⟩
        · rw [h0] at hlen; simp at hlen
        cases e
        have HP := Lib.hid hp
        have HX : Hid (∃ x, ps.getD 1 0 = x) := Lib.hid ⟨_, rfl⟩
        obtain ⟨x, hx⟩ := HX.out
        have HXX := Lib.hid hx
        have HLN : Hid (ps.length = 3) := Lib.hid hlen
        have h1I : (1 : Int) < (ps.length : Int) := by omega
        have HH := Lib.hid h
        by_cases hK : kindN (nds L) x = 1
        · have HF : Hid (fitsN (nds L) 6 ps = true) := Lib.hid (by rw [hfr, refOk6 (nds L) hlen hx]; exact decide_eq_true hK)
          have tK : (kindN (nds L) x == 1) = true := beq_iff_eq.2 hK
          clear hfr hlen hx HX hp hK
          go_wp2_with (first | (at_builtin; refine wpList_append_ints .i64 3 8 (.tmp 25) (.tmp 26) 23 rfl rfl info3' Try.underlying23 w.heap.size _ 0 [] rfl hE _ ps rfl hpE (le8 HL) (le1 HL) hSE ?_; intro v2 w2 hown2 hb2 _; have H2 := rmake_mid HH.out hB hBE hb2 hown2; clear hown2 hb2; obtain ⟨a2, c2, rfl, _, _⟩ := own_shape H2.own; have hx0 := part_at HP.out (H2.bel.trans ((below_alloc w2 (.cells #[.int .i64 6, .string ⟨#[]⟩, .slice a2 ps.length c2] 69)).mono H2.bel.size)) 1 (by rw [HLN.out]; decide) HXX.out) | (go_at_call 47; refine (kind_any (H2.tbl.keep (below_alloc w2 (.cells #[.int .i64 6, .string ⟨#[]⟩, .slice a2 ps.length c2] 69))) x).mono ?_; rintro e w' ⟨rfl, rfl⟩))
          have hcall := rmake_last (s := ⟨#[]⟩) (o := .cells #[.int .i64 6, .string ⟨#[]⟩, .slice a2 ps.length c2] 69) H2 (Lib.hid rfl) HR 6
          refine hcall.mono ?_
          intro e w4 h4
          obtain ⟨z, rfl⟩ := h4.val
          have H4 := Lib.hid h4
          clear h4 hcall
          go_wp2_with fail
          go_ret
          exact .inl ⟨HF.out, H4.out⟩
        · have HF : Hid (fitsN (nds L) 6 ps = false) := Lib.hid (by rw [hfr, refOk6 (nds L) hlen hx]; exact decide_eq_false hK)
          have tK : (kindN (nds L) x == 1) = false := beq_eq_false_iff_ne.2 hK
          clear hfr hlen hx HX hp hK
          go_wp2_with (first | (at_builtin; refine wpList_append_ints .i64 3 8 (.tmp 25) (.tmp 26) 23 rfl rfl info3' Try.underlying23 w.heap.size _ 0 [] rfl hE _ ps rfl hpE (le8 HL) (le1 HL) hSE ?_; intro v2 w2 hown2 hb2 _; have H2 := rmake_mid HH.out hB hBE hb2 hown2; clear hown2 hb2; obtain ⟨a2, c2, rfl, _, _⟩ := own_shape H2.own; have hx0 := part_at HP.out (H2.bel.trans ((below_alloc w2 (.cells #[.int .i64 6, .string ⟨#[]⟩, .slice a2 ps.length c2] 69)).mono H2.bel.size)) 1 (by rw [HLN.out]; decide) HXX.out) | (go_at_call 47; refine (kind_any (H2.tbl.keep (below_alloc w2 (.cells #[.int .i64 6, .string ⟨#[]⟩, .slice a2 ps.length c2] 69))) x).mono ?_; rintro e w' ⟨rfl, rfl⟩))
          go_ret
          exact .inr ⟨HF.out, rfl, H2.bel.trans ((below_alloc _ _).mono H2.bel.size)⟩
      · have hlI : ((ps.length : Int) == 3) = false := beq_eq_false_iff_ne.2 (by omega)
        have HF : Hid (fitsN (nds L) 6 ps = false) := Lib.hid (by rw [hfr]; simp [refOk, hlen])
        have HH := Lib.hid h
        clear hfr hlen
        go_wp2_with (at_builtin; refine wpList_append_ints .i64 3 8 (.tmp 25) (.tmp 26) 23 rfl rfl info3' Try.underlying23 w.heap.size _ 0 [] rfl hE _ ps rfl hpE (le8 HL) (le1 HL) hSE ?_; intro v2 w2 hown2 hb2 _; have H2 := rmake_mid HH.out hB hBE hb2 hown2; clear hown2 hb2; obtain ⟨a2, c2, rfl, _, _⟩ := own_shape H2.own)
        go_ret
        exact .inr ⟨HF.out, rfl, H2.bel.trans ((below_alloc _ _).mono H2.bel.size)⟩

set_option maxRecDepth 20000 in
set_option maxHeartbeats 4000000 in
theorem rmake_10 {w : World} {B rb : Nat} {nv : Value} {L : List (Nd × Value)} (h : RTbl w B rb nv L) (hk : ∀ m ∈ nds L, m.1 ≠ 0) (k : Int) {pv : Value} {ps : List Int} (hp : Rd .i64 w pv ps) (hl : ps.length ≤ 1000000) (hroom : L.length < 65536) (hB : B ≤ w.heap.size) (hk7 : Hid (k = 10)) :
    Calls Try.prog 30 #[.pointer (some ⟨rb, 0, none⟩), .int .i64 k, pv] w fun e w' => RMade w B rb nv L k ps e w' := by
  have hp' := hp
  obtain ⟨ao, cap, rfl, _, _, _, _⟩ := hp'
  have HL := Lib.hid hl
  have HK := Lib.hid hk
  have HR := Lib.hid hroom
  clear hl hk hroom
  go_enter Try.func30, Try.ntmps30
  go_wp2_with fail
  go_loopw [7] (fun i wr => ∃ j : Nat, j ≤ ps.length ∧ i = .int .i64 j ∧ (∀ q, q < j → kindN (nds L) (ps.getD q 0) ≠ 0) ∧ w = wr) (fun i _ => ps.length - (intOf i).toNat)
  case atStart => exact ⟨0, Nat.zero_le _, rfl, (fun q hq => by omega), rfl⟩
  case round =>
    obtain ⟨j, hj, rfl, hall, rfl⟩ := hrel
    by_cases hlt : j < ps.length
    · have hlt' : (j : Int) < (ps.length : Int) := by omega
      rcases hp.cases with ⟨h0, _⟩ | ⟨b, off, c, e, _, _, _, _, hc⟩
      · rw [h0] at hlt; simp at hlt
      · cases e
        have hcj := hc j hlt
        have HALL := Lib.hid hall
        have HX : Hid (∃ x, x = ps.getD j 0) := Lib.hid ⟨_, rfl⟩
        obtain ⟨x, hx⟩ := HX.out
        rw [← hx] at hcj
        have HXX := Lib.hid hx
        have hcall := kind_any h x
        clear hc hall hp hx HX
        by_cases hz : kindN (nds L) x = 0
        · have hno := fits_none HK.out k ps j hlt (by rw [← HXX.out]; exact hz)
          have HNO := Lib.hid hno
          rw [hz] at hcall
          clear hno hz
          go_wp2_with (go_at_call 47; refine hcall.mono ?_; rintro e w' ⟨rfl, rfl⟩)
          go_ret
          exact .inr ⟨HNO.out, rfl, Below.refl _ _⟩
        · have hzb : (kindN (nds L) x == 0) = false := beq_eq_false_iff_ne.2 hz
          have HZ := Lib.hid hz
          clear hz
          go_wp2_with (go_at_call 47; refine hcall.mono ?_; rintro e w' ⟨rfl, rfl⟩)
          go_roundw
          case rel =>
            refine ⟨j + 1, by omega, by go_num, fun q hq => ?_, trivial⟩
            by_cases hqj : q < j
            · exact HALL.out q hqj
            · obtain rfl : q = j := by omega
              rw [← HXX.out]; exact HZ.out
          case measure => simp [intOf]; omega
    · obtain rfl : j = ps.length := by omega
      have hfr := fits_ref HK.out k ps hall
      have hE := own_empty w (Nat.le_refl w.heap.size)
      have hpE := hp.alloc (.cells #[] 3)
      have hSE : w.heap.size ≤ (w.alloc (.cells #[] 3)).heap.size := by simp
      have hBE := below_alloc w (.cells #[] 3)
      clear hall hj hlt
      obtain rfl := hk7.out
      by_cases hlen : ps.length = 3
      · have hlI : ((ps.length : Int) == 3) = true := by simp; omega
        rcases hp.cases with ⟨h0, _⟩ | ⟨b, off, c, e, _, _, _, _, _⟩
        · rw [h0] at hlen; simp at hlen
        cases e
        have HP := Lib.hid hp
        have HX : Hid (∃ x, ps.getD 1 0 = x) := Lib.hid ⟨_, rfl⟩
        obtain ⟨x, hx⟩ := HX.out
        have HXX := Lib.hid hx
        have HLN : Hid (ps.length = 3) := Lib.hid hlen
        have h1I : (1 : Int) < (ps.length : Int) := by omega
        have HH := Lib.hid h
        by_cases hK : kindN (nds L) x = 1
        · have HF : Hid (fitsN (nds L) 10 ps = true) := Lib.hid (by rw [hfr, refOk10 (nds L) hlen hx]; exact decide_eq_true hK)
          have tK : (kindN (nds L) x == 1) = true := beq_iff_eq.2 hK
          clear hfr hlen hx HX hp hK
          go_wp2_with (first | (at_builtin; refine wpList_append_ints .i64 3 8 (.tmp 25) (.tmp 26) 23 rfl rfl info3' Try.underlying23 w.heap.size _ 0 [] rfl hE _ ps rfl hpE (le8 HL) (le1 HL) hSE ?_; intro v2 w2 hown2 hb2 _; have H2 := rmake_mid HH.out hB hBE hb2 hown2; clear hown2 hb2; obtain ⟨a2, c2, rfl, _, _⟩ := own_shape H2.own; have hx0 := part_at HP.out (H2.bel.trans ((below_alloc w2 (.cells #[.int .i64 10, .string ⟨#[]⟩, .slice a2 ps.length c2] 69)).mono H2.bel.size)) 1 (by rw [HLN.out]; decide) HXX.out) | (go_at_call 47; refine (kind_any (H2.tbl.keep (below_alloc w2 (.cells #[.int .i64 10, .string ⟨#[]⟩, .slice a2 ps.length c2] 69))) x).mono ?_; rintro e w' ⟨rfl, rfl⟩))
          have hcall := rmake_last (s := ⟨#[]⟩) (o := .cells #[.int .i64 10, .string ⟨#[]⟩, .slice a2 ps.length c2] 69) H2 (Lib.hid rfl) HR 10
          refine hcall.mono ?_
          intro e w4 h4
          obtain ⟨z, rfl⟩ := h4.val
          have H4 := Lib.hid h4
          clear h4 hcall
          go_wp2_with fail
          go_ret
          exact .inl ⟨HF.out, H4.out⟩
        · have HF : Hid (fitsN (nds L) 10 ps = false) := Lib.hid (by rw [hfr, refOk10 (nds L) hlen hx]; exact decide_eq_false hK)
          have tK : (kindN (nds L) x == 1) = false := beq_eq_false_iff_ne.2 hK
          clear hfr hlen hx HX hp hK
          go_wp2_with (first | (at_builtin; refine wpList_append_ints .i64 3 8 (.tmp 25) (.tmp 26) 23 rfl rfl info3' Try.underlying23 w.heap.size _ 0 [] rfl hE _ ps rfl hpE (le8 HL) (le1 HL) hSE ?_; intro v2 w2 hown2 hb2 _; have H2 := rmake_mid HH.out hB hBE hb2 hown2; clear hown2 hb2; obtain ⟨a2, c2, rfl, _, _⟩ := own_shape H2.own; have hx0 := part_at HP.out (H2.bel.trans ((below_alloc w2 (.cells #[.int .i64 10, .string ⟨#[]⟩, .slice a2 ps.length c2] 69)).mono H2.bel.size)) 1 (by rw [HLN.out]; decide) HXX.out) | (go_at_call 47; refine (kind_any (H2.tbl.keep (below_alloc w2 (.cells #[.int .i64 10, .string ⟨#[]⟩, .slice a2 ps.length c2] 69))) x).mono ?_; rintro e w' ⟨rfl, rfl⟩))
          go_ret
          exact .inr ⟨HF.out, rfl, H2.bel.trans ((below_alloc _ _).mono H2.bel.size)⟩
      · have hlI : ((ps.length : Int) == 3) = false := beq_eq_false_iff_ne.2 (by omega)
        have HF : Hid (fitsN (nds L) 10 ps = false) := Lib.hid (by rw [hfr]; simp [refOk, hlen])
        have HH := Lib.hid h
        clear hfr hlen
        go_wp2_with (at_builtin; refine wpList_append_ints .i64 3 8 (.tmp 25) (.tmp 26) 23 rfl rfl info3' Try.underlying23 w.heap.size _ 0 [] rfl hE _ ps rfl hpE (le8 HL) (le1 HL) hSE ?_; intro v2 w2 hown2 hb2 _; have H2 := rmake_mid HH.out hB hBE hb2 hown2; clear hown2 hb2; obtain ⟨a2, c2, rfl, _, _⟩ := own_shape H2.own)
        go_ret
        exact .inr ⟨HF.out, rfl, H2.bel.trans ((below_alloc _ _).mono H2.bel.size)⟩

#print axioms rmake_7
#print axioms rmake_9
#print axioms rmake_6
#print axioms rmake_10
end Go.Proofs.Ytinncmljffcobaa
