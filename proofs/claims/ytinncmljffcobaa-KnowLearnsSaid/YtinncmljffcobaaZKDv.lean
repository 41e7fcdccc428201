/- A step of the mind's laws beside rows of somebody else's. -/
import Derived.Test.YtinncmljffcobaaZKTv
import Derived.Deep.RegionWith
import Derived.Deep.QuietTactic
import Derived.BigQuiet
import Derived.BigRegion
namespace Go.Proofs.Ytinncmljffcobaa.V
open Go Go.RowKit

set_option maxRecDepth 20000 in
set_option maxHeartbeats 4000000 in
theorem kdo_secret {vs us : List Value} {w0 w : World} {tb mb rb : Nat} {N : List Nd} (h : Two vs us w0 w tb mb rb N) (hroom : N.length < 65536) {k : Int} (hk1 : k ≠ 1) (hk : k = 2 ∨ N.length = 0) (t : ByteArray) (ao : Option Addr) (n cp : Nat) :
    Calls Try.prog 11 #[.pointer (some ⟨tb, 0, none⟩), .pointer (some ⟨rb, 0, none⟩), .agg #[.int .i64 k, .string t, .slice ao n cp]] w fun e w' => e = .returned (.bool true) ∧ Two vs us w0 w' tb mb rb (putN N secretNd).2 ∧ Kept2 mb w w' := by
  have hW := below_alloc w (.cells #[.int .i64 k, .string t, .slice ao n cp] 33)
  have hbox : (w.alloc (.cells #[.int .i64 k, .string t, .slice ao n cp] 33)).heap[w.heap.size]? = some (.cells #[.int .i64 k, .string t, .slice ao n cp] 33 (0, 0)) := heap_alloc_new _ _
  obtain ⟨bc0, bc1, bc2⟩ := kbox_cells hbox
  obtain ⟨aor, cpr, hr0⟩ := (h.keep hW).ref_len
  have e1 : (k == 1) = false := beq_eq_false_iff_ne.2 hk1
  have e2 : (k == 2) = true ∨ ((k == 2) = false ∧ ((N.length : Int) == 0) = true) := by
    by_cases h2 : k = 2
    · exact .inl (by rw [h2]; rfl)
    · exact .inr ⟨beq_eq_false_iff_ne.2 h2, by rcases hk with e | e; exact absurd e h2; rw [e]; rfl⟩
  have c1 := (h.keep hW).secretP hroom
  have HOK := Lib.hid h.ok
  have HR := Lib.hid hroom
  have HW := Lib.hid hW
  clear h hroom hk hk1 hW hbox
  rcases e2 with e2 | ⟨e2, e3⟩
  all_goals
    go_enter Try.func11, Try.ntmps11
    go_wp2_with fail
    refine c1.mono ?_
    rintro e w2 ⟨rfl, m2, k2⟩
    have c2 := m2.secretR HOK.out HR.out
    clear m2 c1
    go_wp2_with fail
    refine c2.mono ?_
    rintro e w3 ⟨rfl, t3, k3⟩
    have HT := Lib.hid t3
    have HK := Lib.hid ((Kept2.of_below HW.out).trans (k2.trans k3))
    clear t3 k2 k3 c2
    go_wp2_with fail
    go_ret
    exact ⟨rfl, HT.out, HK.out⟩

set_option maxRecDepth 20000 in
set_option maxHeartbeats 4000000 in
theorem kdo_text {vs us : List Value} {w0 w : World} {tb mb rb : Nat} {N : List Nd} (h : Two vs us w0 w tb mb rb N) (hroom : N.length < 65536) {k : Int} (hk : Hid (k = 1)) (t : ByteArray) (ht : t.size ≤ 2048) (ao : Option Addr) (n cp : Nat) :
    Calls Try.prog 11 #[.pointer (some ⟨tb, 0, none⟩), .pointer (some ⟨rb, 0, none⟩), .agg #[.int .i64 k, .string t, .slice ao n cp]] w fun e w' => e = .returned (.bool true) ∧ Two vs us w0 w' tb mb rb (textN N t).2 ∧ Kept2 mb w w' := by
  obtain rfl := hk.out
  have hW := below_alloc w (.cells #[.int .i64 1, .string t, .slice ao n cp] 33)
  have hbox : Hid ((w.alloc (.cells #[.int .i64 1, .string t, .slice ao n cp] 33)).drew.heap[w.heap.size]? = some (.cells #[.int .i64 1, .string t, .slice ao n cp] 33 (0, 0))) := Lib.hid (heap_alloc_new _ _)
  obtain ⟨aor, cpr, hr0⟩ := (h.keep hW).ref_len
  have HOK := Lib.hid h.ok
  have HR := Lib.hid hroom
  have HTS := Lib.hid ht
  have hT := h.keep hW.drew
  obtain ⟨v, w2, hv, hr, hb⟩ := conv_str (w.alloc (.cells #[.int .i64 1, .string t, .slice ao n cp] 33)).drew t (by unfold maxLen; omega)
  have c1 := (hT.keep hb).textP hr (by rw [sbytes_len]; exact ht) hroom
  rw [bstr_sbytes] at c1
  have HB1 : Hid (Kept2 mb (w.alloc (.cells #[.int .i64 1, .string t, .slice ao n cp] 33)).drew w2) := Lib.hid (.of_below hb)
  have HB0 : Hid (Kept2 mb w (w.alloc (.cells #[.int .i64 1, .string t, .slice ao n cp] 33)).drew) := Lib.hid (.of_below hW.drew)
  have hc1 : (w.alloc (.cells #[.int .i64 1, .string t, .slice ao n cp] 33)).drew.cell? ⟨w.heap.size, 1, none⟩ = some (.string t) := (cell_of_row _ w.heap.size 1 _ 33 (0, 0) hbox.out).trans rfl
  have hc2 : w2.cell? ⟨w.heap.size, 1, none⟩ = some (.string t) := (cell_of_row _ w.heap.size 1 _ 33 (0, 0) (HB1.out.old _ _ _ _ hbox.out (by decide) (by decide) (by decide) (by decide))).trans rfl
  clear h hroom ht hb hr hW hT
  go_enter Try.func11, Try.ntmps11
  go_wp2_with fail
  go_region_with (first | (go_at_call 25; refine c1.mono ?_; rintro e w3 ⟨rfl, m3, k3⟩; have hc3 : w3.cell? ⟨w.heap.size, 1, none⟩ = some (.string t) := (cell_of_row _ w.heap.size 1 _ 33 (0, 0) (k3.old _ _ _ _ (HB1.out.old _ _ _ _ hbox.out (by decide) (by decide) (by decide) (by decide)) (by decide) (by decide) (by decide) (by decide))).trans rfl) | (go_at_call 26; refine (m3.textR HOK.out HTS.out HR.out).mono ?_; rintro e w4 ⟨rfl, t4, k4⟩))
  all_goals
    have HT := Lib.hid t4
    have HK := Lib.hid (HB0.out.trans (HB1.out.trans (k3.trans k4)))
    clear t4 k3 k4 m3
    go_wp2_with fail
    go_ret
    exact ⟨rfl, HT.out, HK.out⟩
set_option maxRecDepth 20000 in
set_option maxHeartbeats 4000000 in
theorem kdo_make {vs us : List Value} {w0 w : World} {tb mb rb : Nat} {N : List Nd} (h : Two vs us w0 w tb mb rb N) (hroom : N.length ≤ 60000) {k : Int} (hk1 : k ≠ 1) (hk2 : k ≠ 2) (hN : N.length ≠ 0) (t : ByteArray) {ao : Option Addr} {cp : Nat} {xs : List Int} (hx : Rd .i64 w (.slice ao xs.length cp) xs) (hl : xs.length ≤ 20) :
    Calls Try.prog 11 #[.pointer (some ⟨tb, 0, none⟩), .pointer (some ⟨rb, 0, none⟩), .agg #[.int .i64 k, .string t, .slice ao xs.length cp]] w fun e w' => e = .returned (.bool true) ∧ Two vs us w0 w' tb mb rb (makeN N k (xs.map (round1 (N.length : Int)))).2 ∧ Kept2 mb w w' := by
  have e1 : (k == 1) = false := beq_eq_false_iff_ne.2 hk1
  have e2 : (k == 2) = false := beq_eq_false_iff_ne.2 hk2
  have hW := below_alloc w (.cells #[.int .i64 k, .string t, .slice ao xs.length cp] 33)
  have hbox : (w.alloc (.cells #[.int .i64 k, .string t, .slice ao xs.length cp] 33)).heap[w.heap.size]? = some (.cells #[.int .i64 k, .string t, .slice ao xs.length cp] 33 (0, 0)) := heap_alloc_new _ _
  have hT := h.keep hW
  have hxW := hx.below hW
  have HKW : Hid (Kept2 mb w (w.alloc (.cells #[.int .i64 k, .string t, .slice ao xs.length cp] 33))) := Lib.hid (.of_below hW)
  have hsz : (w.alloc (.cells #[.int .i64 k, .string t, .slice ao xs.length cp] 33)).heap.size = w.heap.size + 1 := by simp
  have HOK := Lib.hid h.ok
  have HR := Lib.hid hroom
  have HL := Lib.hid hl
  obtain ⟨bc0, bc1, bc2⟩ := kbox_cells hbox
  obtain ⟨aor, cpr, hr0⟩ := hT.ref_len
  have e3 : ((N.length : Int) == 0) = false := beq_eq_false_iff_ne.2 (by omega)
  have hs0 : (0 : Int) < (N.length : Int) := by omega
  have HWR := Lib.hid (fun x => wrap_round (x := x) hs0 (by omega))
  have HS0 := Lib.hid hs0
  have HBX := Lib.hid hbox
  have HTW := Lib.hid hT
  have HXW := Lib.hid hxW
  clear h hroom hk1 hk2 hW hbox hT hx hxW
  go_enter Try.func11, Try.ntmps11
  generalize hWq : w.alloc (.cells #[.int .i64 k, .string t, .slice ao xs.length cp] 33) = W at *
  go_wp2_with fail

  go_loopw [8, 9, 10] (fun p q i wr => ∃ j : Nat, j ≤ xs.length ∧ i = .int .i64 j ∧ wr.ownsRow W.heap.size 3 1 p j (cs .i64 ((xs.take j).map (round1 (N.length : Int)))) ∧ wr.ownsRow W.heap.size 42 1 q j (cs .i64 ((xs.take j).map (round1 (N.length : Int)))) ∧ Below W.heap.size W wr) (fun _ _ i _ => xs.length - (intOf i).toNat)
  case atStart => exact ⟨0, Nat.zero_le _, rfl, World.ownsRow_nil _ _ _ _, World.ownsRow_nil _ _ _ _, Below.refl _ _⟩
  case round =>
    obtain ⟨j, hj, rfl, hp, hq, hb⟩ := hrel
    have d0 : wr.cell? ⟨w.heap.size, 0, none⟩ = some (.int .i64 k) := by rw [hb.cell (cell_lt bc0)]; exact bc0
    have d2 : wr.cell? ⟨w.heap.size, 2, none⟩ = some (.slice ao xs.length cp) := by rw [hb.cell (cell_lt bc2)]; exact bc2
    have hsw := hb.size
    by_cases hlt : j < xs.length
    · have hlt' : (j : Int) < (xs.length : Int) := by omega
      rcases (HXW.out.below hb).cases with ⟨h0, _⟩ | ⟨b, off, c, e, _, _, _, _, hc⟩
      · rw [h0] at hlt; simp at hlt
      · cases e
        have hcj := hc j hlt
        clear hc
        have HM := map_take_succ (round1 (N.length : Int)) xs j hlt
        have hw := HWR.out (xs.getD j 0)
        generalize xs.getD j 0 = x at *
        have hj6 : j ≤ 20 := by have := HL.out; omega
        have HB := Lib.hid hb
        have HQ := Lib.hid hq
        have HWX := Lib.hid hw
        generalize hz : round1 (N.length : Int) x = z at *
        clear hq hb hw
        have HM := Lib.hid HM
        have HZ := Lib.hid hz
        clear hz
        go_wp2_with (first
          | (at_builtin; rw [HWX.out]; refine wpList_append_ints .i64 3 8 (.tmp 63) (.tmp 65) 23 rfl rfl info3' Try.underlying23 W.heap.size _ j ((xs.take j).map (round1 (N.length : Int))) rfl (own_alloc hp _) _ [z] rfl (Rd.lit .i64 3 wr [z] (by simp)) (by simp; omega) (by simp; omega) (by simp; omega) ?_
             intro v5 w5 hown5 hb5 hg5
             have hq5 := own_beside (own_alloc HQ.out (.cells #[.int .i64 z] 3)) hg5 (own_alloc hp (.cells #[.int .i64 z] 3)) (by decide)
             have HS5 := Lib.hid (show W.heap.size ≤ w5.heap.size from Nat.le_trans hsw (Nat.le_trans (by simp) hb5.size))
             have HO5 := Lib.hid hown5
             have HB5 := Lib.hid hb5
             obtain ⟨a5, c5, rfl, _, _⟩ := own_shape hown5
             clear hown5 hb5 hg5 hp)
          | (at_builtin; refine wpList_append_ints .i64 42 8 (.tmp 67) (.tmp 69) 37 rfl rfl info32 Try.underlying37 W.heap.size _ j ((xs.take j).map (round1 (N.length : Int))) rfl (own_alloc hq5 _) _ [z] rfl (Rd.lit .i64 42 w5 [z] (by simp)) (by simp; omega) (by simp; omega) (by have := HS5.out; simp; omega) ?_
             intro v6 w6 hown6 hb6 hg6
             have hp6 := own_beside (own_alloc HO5.out (.cells #[.int .i64 z] 42)) hg6 (own_alloc hq5 (.cells #[.int .i64 z] 42)) (by decide)
             clear hg6))
        go_roundw
        case rel =>
          refine ⟨j + 1, by omega, by go_num, ?_, ?_, ?_⟩
          · rw [← HM.out]; exact hp6
          · rw [← HM.out]; exact hown6
          · exact ((HB.out.trans ((below_alloc _ _).mono hsw)).trans HB5.out).trans (((below_alloc _ _).mono HS5.out).trans hb6)
        case measure => simp [intOf]; omega
    · obtain rfl : j = xs.length := by omega
      rw [List.take_length] at hp hq
      have HSL := Lib.hid (show (xs.map (round1 (N.length : Int))).length = xs.length by simp)
      have HT := Lib.hid (HTW.out.keep hb)
      have HK := Lib.hid (HKW.out.trans (Kept2.of_below hb))
      have hbx : wr.drew.heap[w.heap.size]? = some (.cells #[.int .i64 k, .string t, .slice ao xs.length cp] 33 (0, 0)) := by
        show wr.heap[w.heap.size]? = _
        rw [hb.block _ (by omega)]; exact HBX.out
      obtain ⟨g0, _, g2⟩ := kbox_cells hbx
      have HBX2 := Lib.hid hbx
      generalize hys : xs.map (round1 (N.length : Int)) = ys at *
      have HYS := Lib.hid hys
      clear hys
      obtain ⟨ap, cp', rfl, _, _⟩ := own_shape hp
      obtain ⟨aq, cq, rfl, _, _⟩ := own_shape hq
      have hpd := own_keep (w' := wr.drew) hp (fun g _ => rfl)
      have hqd := own_keep (w' := wr.drew) hq (fun g _ => rfl)
      have c1 := Two.makeP (w := wr.drew) (HT.out.keep (Below.refl _ _).drew) k (ps := ys) (Rd.of_own hqd).1 (by have := HSL.out; have := HL.out; omega) (by have := HR.out; omega)
      have HPD := Lib.hid hpd
      clear hp hq hpd hqd hbx hb bc0 bc1 bc2 hr0 hsz hlt hN hl
      go_wp2_with fail
      go_region_with (first
        | (go_at_call 29; refine c1.mono ?_; rintro e w4 ⟨rfl, m4, k4⟩; have HBX4 := Lib.hid (kbox_kept k4.old HBX2.out); obtain ⟨i0, _, i2⟩ := kbox_cells HBX4.out; have c4 := m4.makeR HOK.out (fun hf => HT.out.fits_ok hf) (Rd.of_own (kown_kept k4.old (by decide) (by decide) (by decide) (by decide) HPD.out)).1 (by have := HSL.out; have := HL.out; omega) (by have := HR.out; omega))
        | (go_at_call 30; refine c4.mono ?_; rintro e w5 ⟨rfl, t5, k5⟩))
      all_goals
        have HT5 := Lib.hid t5
        have HK5 := Lib.hid (HK.out.trans ((Kept2.of_below (Below.refl _ _).drew).trans (k4.trans k5)))
        clear t5 k4 k5 m4
        go_wp2_with fail
        go_ret
        exact ⟨rfl, by rw [HYS.out]; exact HT5.out, HK5.out⟩
/-- A step, whatever it is. -/
theorem kdo_any {vs us : List Value} {w0 w : World} {tb mb rb : Nat} {N : List Nd} (h : Two vs us w0 w tb mb rb N) (hroom : N.length ≤ 60000) (k : Int) (t : ByteArray) (ht : t.size ≤ 2048) {ao : Option Addr} {cp : Nat} {xs : List Int} (hx : Rd .i64 w (.slice ao xs.length cp) xs) (hl : xs.length ≤ 20) :
    Calls Try.prog 11 #[.pointer (some ⟨tb, 0, none⟩), .pointer (some ⟨rb, 0, none⟩), .agg #[.int .i64 k, .string t, .slice ao xs.length cp]] w fun e w' => e = .returned (.bool true) ∧ Two vs us w0 w' tb mb rb (kdoN N k t xs) ∧ Kept2 mb w w' := by
  unfold kdoN
  by_cases h1 : k = 1
  · rw [if_pos h1]
    exact kdo_text h (by omega) (Lib.hid h1) t ht ao _ cp
  · rw [if_neg h1]
    by_cases h2 : k = 2 ∨ N.length = 0
    · rw [if_pos h2]
      exact kdo_secret h (by omega) h1 h2 t ao _ cp
    · rw [if_neg h2]
      exact kdo_make h hroom h1 (fun e => h2 (.inl e)) (fun e => h2 (.inr e)) t hx hl
#print axioms kdo_text
#print axioms kdo_secret
#print axioms kdo_any
end Go.Proofs.Ytinncmljffcobaa.V
