/- The reference's Make. -/
import Derived.Test.YtinncmljffcobaaZRok
namespace Go.Proofs.Ytinncmljffcobaa
open Go Go.RowKit

def RMade (w : World) (B rb : Nat) (nv : Value) (L : List (Nd × Value)) (k : Int) (ps : List Int) (e : Ending) (w' : World) : Prop :=
  (fitsN (nds L) k ps = true ∧ RPut w B rb nv L (k, ByteArray.empty, mkN (nds L) k ps) e w') ∨ (fitsN (nds L) k ps = false ∧ e = .returned (.int .i64 0) ∧ Below w.heap.size w w')

theorem le8 {n : Nat} (h : Hid (n ≤ 1000000)) : (0 + n) * 8 ≤ 140737488355328 := by have := h.out; omega
theorem le1 {n : Nat} (h : Hid (n ≤ 1000000)) : 0 + n ≤ 140737488355328 := by have := h.out; omega
/-- Behind the append of the parts. -/
structure RMid (w w2 : World) (B rb : Nat) (nv : Value) (L : List (Nd × Value)) (v2 : Value) (ps : List Int) : Prop where
  tbl : RTbl w2 B rb nv L
  own : w2.ownsRow B 3 1 v2 ps.length (cs .i64 ps)
  bel : Below w.heap.size w w2
  far : ∀ g, v2.ownBlock = some g → w.heap.size ≤ g
theorem rmake_mid {w w1 w2 : World} {B rb : Nat} {nv : Value} {L : List (Nd × Value)} {v2 : Value} {ps : List Int} (h : RTbl w B rb nv L) (hB : B ≤ w.heap.size) (h1 : Below w.heap.size w w1) (h2 : Below w.heap.size w1 w2) (ho : w2.ownsRow w.heap.size 3 1 v2 (0 + ps.length) (cs .i64 ([] ++ ps))) : RMid w w2 B rb nv L v2 ps :=
  ⟨h.keep (h1.trans h2), own_mono (by simpa using ho) hB, h1.trans h2, fun g hg => (ho.lt g hg).1⟩
set_option maxRecDepth 20000 in
theorem rmake_last {w w2 : World} {B rb : Nat} {nv v2 : Value} {L : List (Nd × Value)} {ps : List Int} {s : ByteArray} (h : RMid w w2 B rb nv L v2 ps) (hs : Hid (s = ByteArray.empty)) (hroom : Hid (L.length < 65536)) (k : Int) {o : Obj} :
    Calls Try.prog 43 #[.pointer (some ⟨rb, 0, none⟩), .agg #[.int .i64 k, .string s, v2]] (w2.alloc o) fun e w' => RPut w B rb nv L (k, ByteArray.empty, ps) e w' := by
  obtain rfl := hs.out
  have hb : Below w.heap.size w (w2.alloc o) := h.bel.trans ((below_alloc _ _).mono h.bel.size)
  refine (radd_any (h.tbl.keep (below_alloc w2 o)) k ByteArray.empty ps v2 (own_alloc h.own o) hroom.out).mono fun e w' hm => ?_
  rcases hm with ⟨c, h1, h2, h3⟩ | ⟨h1, h2, nv', h3, h4, h5⟩
  · exact .inl ⟨c, h1, h2, hb.trans (h3.mono hb.size)⟩
  · exact .inr ⟨h1, h2, nv', v2, h3, (Frm.of_below hb).trans (Moved.refl _ _) h4, (Moved.refl _ _).trans hb.size h5, h.far⟩

set_option maxRecDepth 20000 in
set_option maxHeartbeats 4000000 in
theorem rmake_345 {w : World} {B rb : Nat} {nv : Value} {L : List (Nd × Value)} (h : RTbl w B rb nv L) (hk : ∀ m ∈ nds L, m.1 ≠ 0) (k : Int) {pv : Value} {ps : List Int} (hp : Rd .i64 w pv ps) (hl : ps.length ≤ 1000000) (hroom : L.length < 65536) (hB : B ≤ w.heap.size) (hk5 : k = 3 ∨ k = 4 ∨ k = 5) :
    Calls Try.prog 30 #[.pointer (some ⟨rb, 0, none⟩), .int .i64 k, pv] w fun e w' => RMade w B rb nv L k ps e w' := by
  have hp' := hp
  obtain ⟨ao, cap, rfl, _, _, _, _⟩ := hp'
  have HL := Lib.hid hl
  have HK := Lib.hid hk
  have HR := Lib.hid hroom
  clear hl hk hroom
  go_enter Try.func30, Try.ntmps30
  go_wp2_with fail
  go_loopw [7] (fun i wr => ∃ j : Nat, j ≤ ps.length ∧ i = .int .i64 j ∧ (∀ q, q < j → kindN (nds L) (ps.getD q 0) ≠ 0) ∧ w = wr) (fun i _ => ps.length - (intOf i).toNat)
  case atStart => exact ⟨0, Nat.zero_le _, rfl, (fun q hq => by omega), rfl⟩
  case round =>
    obtain ⟨j, hj, rfl, hall, rfl⟩ := hrel
    by_cases hlt : j < ps.length
    · have hlt' : (j : Int) < (ps.length : Int) := by omega
      rcases hp.cases with ⟨h0, _⟩ | ⟨b, off, c, e, _, _, _, _, hc⟩
      · rw [h0] at hlt; simp at hlt
      · cases e
        have hcj := hc j hlt
        have HALL := Lib.hid hall
        have HX : Hid (∃ x, x = ps.getD j 0) := Lib.hid ⟨_, rfl⟩
        obtain ⟨x, hx⟩ := HX.out
        rw [← hx] at hcj
        have HXX := Lib.hid hx
        have hcall := kind_any h x
        clear hc hall hp hx HX
        by_cases hz : kindN (nds L) x = 0
        · have hno := fits_none HK.out k ps j hlt (by rw [← HXX.out]; exact hz)
          have HNO := Lib.hid hno
          rw [hz] at hcall
          clear hno hz
          go_wp2_with (go_at_call 47; refine hcall.mono ?_; rintro e w' ⟨rfl, rfl⟩)
          go_ret
          exact .inr ⟨HNO.out, rfl, Below.refl _ _⟩
        · have hzb : (kindN (nds L) x == 0) = false := beq_eq_false_iff_ne.2 hz
          have HZ := Lib.hid hz
          clear hz
          go_wp2_with (go_at_call 47; refine hcall.mono ?_; rintro e w' ⟨rfl, rfl⟩)
          go_roundw
          case rel =>
            refine ⟨j + 1, by omega, by go_num, fun q hq => ?_, trivial⟩
            by_cases hqj : q < j
            · exact HALL.out q hqj
            · obtain rfl : q = j := by omega
              rw [← HXX.out]; exact HZ.out
          case measure => simp [intOf]; omega
    · obtain rfl : j = ps.length := by omega
      have hfr := fits_ref HK.out k ps hall
      have hE := own_empty w (Nat.le_refl w.heap.size)
      have hpE := hp.alloc (.cells #[] 3)
      have hSE : w.heap.size ≤ (w.alloc (.cells #[] 3)).heap.size := by simp
      have hBE := below_alloc w (.cells #[] 3)
      clear hall hj hlt
      rcases hk5 with rfl | rfl | rfl
      · by_cases hlen : ps.length ≤ 16
        · have hlI : (ps.length : Int) ≤ 16 := by omega
          have HF : Hid (fitsN (nds L) 3 ps = true) := Lib.hid (by rw [hfr]; simp [refOk, hlen])
          have HH := Lib.hid h
          clear hfr hlen
          go_wp2_with (at_builtin; refine wpList_append_ints .i64 3 8 (.tmp 25) (.tmp 26) 23 rfl rfl info3' Try.underlying23 w.heap.size _ 0 [] rfl hE _ ps rfl hpE (le8 HL) (le1 HL) hSE ?_; intro v2 w2 hown2 hb2 _; have H2 := rmake_mid HH.out hB hBE hb2 hown2; clear hown2 hb2; obtain ⟨a2, c2, rfl, _, _⟩ := own_shape H2.own)
          have hcall := rmake_last (s := ⟨#[]⟩) (o := .cells #[.int .i64 3, .string ⟨#[]⟩, .slice a2 ps.length c2] 69) H2 (Lib.hid rfl) HR 3
          refine hcall.mono ?_
          intro e w4 h4
          obtain ⟨z, rfl⟩ := h4.val
          have H4 := Lib.hid h4
          clear h4 hcall
          go_wp2_with fail
          go_ret
          exact .inl ⟨HF.out, H4.out⟩
        · have hlI : ¬ (ps.length : Int) ≤ 16 := by omega
          have HF : Hid (fitsN (nds L) 3 ps = false) := Lib.hid (by rw [hfr]; simp [refOk, hlen])
          have HH := Lib.hid h
          clear hfr hlen
          go_wp2_with (at_builtin; refine wpList_append_ints .i64 3 8 (.tmp 25) (.tmp 26) 23 rfl rfl info3' Try.underlying23 w.heap.size _ 0 [] rfl hE _ ps rfl hpE (le8 HL) (le1 HL) hSE ?_; intro v2 w2 hown2 hb2 _; have H2 := rmake_mid HH.out hB hBE hb2 hown2; clear hown2 hb2; obtain ⟨a2, c2, rfl, _, _⟩ := own_shape H2.own)
          go_ret
          exact .inr ⟨HF.out, rfl, H2.bel.trans ((below_alloc _ _).mono H2.bel.size)⟩
      · by_cases hlen : ps.length = 1
        · have hlI : ((ps.length : Int) == 1) = true := by simp; omega
          have HF : Hid (fitsN (nds L) 4 ps = true) := Lib.hid (by rw [hfr]; simp [refOk, hlen])
          have HH := Lib.hid h
          clear hfr hlen
          go_wp2_with (at_builtin; refine wpList_append_ints .i64 3 8 (.tmp 25) (.tmp 26) 23 rfl rfl info3' Try.underlying23 w.heap.size _ 0 [] rfl hE _ ps rfl hpE (le8 HL) (le1 HL) hSE ?_; intro v2 w2 hown2 hb2 _; have H2 := rmake_mid HH.out hB hBE hb2 hown2; clear hown2 hb2; obtain ⟨a2, c2, rfl, _, _⟩ := own_shape H2.own)
          have hcall := rmake_last (s := ⟨#[]⟩) (o := .cells #[.int .i64 4, .string ⟨#[]⟩, .slice a2 ps.length c2] 69) H2 (Lib.hid rfl) HR 4
          refine hcall.mono ?_
          intro e w4 h4
          obtain ⟨z, rfl⟩ := h4.val
          have H4 := Lib.hid h4
          clear h4 hcall
          go_wp2_with fail
          go_ret
          exact .inl ⟨HF.out, H4.out⟩
        · have hlI : ((ps.length : Int) == 1) = false := beq_eq_false_iff_ne.2 (by omega)
          have HF : Hid (fitsN (nds L) 4 ps = false) := Lib.hid (by rw [hfr]; simp [refOk, hlen])
          have HH := Lib.hid h
          clear hfr hlen
          go_wp2_with (at_builtin; refine wpList_append_ints .i64 3 8 (.tmp 25) (.tmp 26) 23 rfl rfl info3' Try.underlying23 w.heap.size _ 0 [] rfl hE _ ps rfl hpE (le8 HL) (le1 HL) hSE ?_; intro v2 w2 hown2 hb2 _; have H2 := rmake_mid HH.out hB hBE hb2 hown2; clear hown2 hb2; obtain ⟨a2, c2, rfl, _, _⟩ := own_shape H2.own)
          go_ret
          exact .inr ⟨HF.out, rfl, H2.bel.trans ((below_alloc _ _).mono H2.bel.size)⟩
      · by_cases hlen : ps.length = 2
        · have hlI : ((ps.length : Int) == 2) = true := by simp; omega
          have HF : Hid (fitsN (nds L) 5 ps = true) := Lib.hid (by rw [hfr]; simp [refOk, hlen])
          have HH := Lib.hid h
          clear hfr hlen
          go_wp2_with (at_builtin; refine wpList_append_ints .i64 3 8 (.tmp 25) (.tmp 26) 23 rfl rfl info3' Try.underlying23 w.heap.size _ 0 [] rfl hE _ ps rfl hpE (le8 HL) (le1 HL) hSE ?_; intro v2 w2 hown2 hb2 _; have H2 := rmake_mid HH.out hB hBE hb2 hown2; clear hown2 hb2; obtain ⟨a2, c2, rfl, _, _⟩ := own_shape H2.own)
          have hcall := rmake_last (s := ⟨#[]⟩) (o := .cells #[.int .i64 5, .string ⟨#[]⟩, .slice a2 ps.length c2] 69) H2 (Lib.hid rfl) HR 5
          refine hcall.mono ?_
          intro e w4 h4
          obtain ⟨z, rfl⟩ := h4.val
          have H4 := Lib.hid h4
          clear h4 hcall
          go_wp2_with fail
          go_ret
          exact .inl ⟨HF.out, H4.out⟩
        · have hlI : ((ps.length : Int) == 2) = false := beq_eq_false_iff_ne.2 (by omega)
          have HF : Hid (fitsN (nds L) 5 ps = false) := Lib.hid (by rw [hfr]; simp [refOk, hlen])
          have HH := Lib.hid h
          clear hfr hlen
          go_wp2_with (at_builtin; refine wpList_append_ints .i64 3 8 (.tmp 25) (.tmp 26) 23 rfl rfl info3' Try.underlying23 w.heap.size _ 0 [] rfl hE _ ps rfl hpE (le8 HL) (le1 HL) hSE ?_; intro v2 w2 hown2 hb2 _; have H2 := rmake_mid HH.out hB hBE hb2 hown2; clear hown2 hb2; obtain ⟨a2, c2, rfl, _, _⟩ := own_shape H2.own)
          go_ret
          exact .inr ⟨HF.out, rfl, H2.bel.trans ((below_alloc _ _).mono H2.bel.size)⟩
#print axioms rmake_345
end Go.Proofs.Ytinncmljffcobaa
