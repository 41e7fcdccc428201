/- law 13: StreamBack. -/
import Derived.Test.YthfmpnikchlhlaaLMsgs
namespace Go.Proofs.Ythfmpnikchlhlaa
open Go Go.RowKit

/-- A message is one that can be read. -/
theorem msg_reads {kind : Int} {zs : List Int} (hk : 0 ≤ kind ∧ kind ≤ 255) (hl : zs.length ≤ 2000) : (msgB kind zs).length = zs.length + 4 ∧ msgP (msgB kind zs) = ([msgB kind zs], 0) ∧ (msgB kind zs).getD 0 0 = kind ∧ (msgB kind zs).drop 4 = zs := by
  have e : msgB kind zs = headB kind zs.length ++ zs := by unfold msgB; rw [if_neg (by omega)]
  have hlen : (msgB kind zs).length = zs.length + 4 := by rw [e]; simp [headB]
  have hh : headN (msgB kind zs) = zs.length := by
    rw [e]
    unfold headN headB
    simp
    omega
  have hf : firstE (msgB kind zs) = 0 := by
    unfold firstE
    rw [hh, hlen, if_neg (by omega), if_neg (by omega), if_neg (by omega)]
  have hne : msgB kind zs ≠ [] := fun h => by rw [h] at hlen; simp at hlen
  have hok := msgP_ok hne hf
  rw [hh, List.take_of_length_le (by omega), List.drop_eq_nil_of_le (by omega), msgP_nil] at hok
  refine ⟨hlen, hok, ?_, ?_⟩
  · rw [e]; simp [headB]
  · rw [e]; simp [headB]

set_option maxRecDepth 20000 in
set_option maxHeartbeats 4000000 in
theorem sback_walk {w : World} {v : Value} {zs : List Int} (kind : Int) (hr : Rd w v zs) (hp : Plain v) (hl : zs.length ≤ 2100) :
    Calls Try.prog 7 #[.int .i64 kind, v] w fun e w' => e = .returned (.bool true) ∧ Below w.heap.size w w' := by
  obtain ⟨ao, cap, rfl⟩ := hr.shape
  have HR := Lib.hid hr
  have HP := Lib.hid hp
  have hlt : ¬ (2100 : Int) < (zs.length : Int) := by omega
  have hc := Lib.hid (message_any kind hr (by omega))
  clear hr hp
  go_enter Try.func7, Try.ntmps7
  go_wp2_with fail
  refine hc.out.mono ?_
  rintro e w1 ⟨v1, rfl, ⟨hra, hpl⟩, hb1⟩
  have HB1 := Lib.hid hb1
  have HR1 := Lib.hid hra.rd
  have HP1 := Lib.hid hpl
  obtain ⟨b1, c1, rfl⟩ := hra.rd.shape
  clear hra hpl hb1 hc
  by_cases hbad : kind < 0 ∨ 255 < kind ∨ 2000 < zs.length
  · have e : msgB kind zs = [] := by unfold msgB; rw [if_pos hbad]
    have haw := Lib.hid (awake_any (w := w1))
    have hlz : (msgB kind zs).length = 0 := by rw [e]; rfl
    rw [hlz]
    by_cases h1 : kind < 0
    · clear hlz e hbad
      go_wp2_with fail
      refine haw.out.mono ?_
      rintro e w2 ⟨rfl, hb2⟩
      have HB2 := Lib.hid (HB1.out.trans (hb2.mono HB1.out.size))
      clear hb2 haw
      go_wp2_with fail
      go_ret
      exact ⟨rfl, HB2.out⟩
    · by_cases h2 : 255 < kind
      · clear hlz e hbad
        go_wp2_with fail
        refine haw.out.mono ?_
        rintro e w2 ⟨rfl, hb2⟩
        have HB2 := Lib.hid (HB1.out.trans (hb2.mono HB1.out.size))
        clear hb2 haw
        go_wp2_with fail
        go_ret
        exact ⟨rfl, HB2.out⟩
      · have h3 : (2000 : Int) < (zs.length : Int) := by omega
        clear hlz e hbad
        go_wp2_with fail
        refine haw.out.mono ?_
        rintro e w2 ⟨rfl, hb2⟩
        have HB2 := Lib.hid (HB1.out.trans (hb2.mono HB1.out.size))
        clear hb2 haw
        go_wp2_with fail
        go_ret
        exact ⟨rfl, HB2.out⟩
  obtain ⟨hml, hms, hm0, hdr⟩ := msg_reads (zs := zs) (kind := kind) (by omega) (by omega)
  have hc2 := Lib.hid (msgs_any HR1.out HP1.out (by omega))
  generalize msgB kind zs = ms at *
  have hz0 : ((ms.length : Int) == 0) = false := beq_eq_false_iff_ne.2 (by omega)
  have he4 : ((ms.length : Int) == (zs.length : Int) + 4) = true := by simp [hml]
  have w4 : IntKind.i64.wrap ((zs.length : Int) + 4) = (zs.length : Int) + 4 := IntWalk.i64_in _ ⟨by omega, by omega⟩
  have HML := Lib.hid hml
  have HMS := Lib.hid hms
  have HM0 := Lib.hid hm0
  have HDR := Lib.hid hdr
  have hk0 : 0 ≤ kind ∧ kind ≤ 255 := by omega
  clear hml hms hm0 hdr hbad
  go_wp2_with fail
  refine hc2.out.mono ?_
  rintro e w2 hpost
  obtain ⟨la, lc, qs, rfl, hL, hqs, hb2⟩ := hpost.open
  rw [HMS.out] at hqs ⊢
  simp only [if_true] at hqs
  obtain ⟨q, rfl, hq2⟩ : ∃ q, qs = [q] ∧ q.2 = ms := by
    match qs, hqs with
    | [q], h => exact ⟨q, rfl, by simpa using h⟩
  obtain ⟨qv, ql⟩ := q
  simp only at hq2
  subst hq2
  have HB2 := Lib.hid (HB1.out.trans (hb2.mono HB1.out.size))
  have r1 := hL.rd _ (List.mem_singleton.2 rfl)
  obtain ⟨g1, rfl, d1⟩ := hL.cell (k := 0) (q := (qv, ql)) rfl
  have HR2 := Lib.hid (HR1.out.below hb2)
  have hcs := Lib.hid (same_true r1 HR2.out)
  obtain ⟨x1, n1, y1, e1⟩ := r1.shape3
  simp only at e1
  subst e1
  rcases HR2.out.cases with ⟨e0, _⟩ | ⟨b2, o2, c2, e2, hp2, hl2, hc2', _, hcell⟩
  · exfalso; have := HML.out; rw [e0] at this; simp at this
  simp only [Value.slice.injEq] at e2
  obtain ⟨rfl, _, rfl⟩ := e2
  have HCELL := Lib.hid hcell
  clear hpost hL hb2 hc2 r1 hqs hcell hc2'
  go_wp2_with fail
  refine hcs.out.mono ?_
  rintro e w3 ⟨rfl, hb3⟩
  have HB3 := Lib.hid (HB2.out.trans (hb3.mono HB2.out.size))
  have hlen4 : 4 ≤ ql.length := by have := HML.out; omega
  obtain ⟨o4, hs4, hr4, _⟩ := part_l (HR2.out.below hb3) HP1.out 4 hlen4
  rw [HDR.out] at hr4
  have hs4' : ∀ wx, (Instr.slice 29 (.slice (some ⟨b2, o2, none⟩) ql.length c1) (some (.int .i64 4)) none none).run Try.prog wx = .ok (.slice o4 (ql.length - 4) (c1 - 4)) wx := hs4
  have d0 : w3.cell? ⟨b2, o2, none⟩ = some (.int .u8 kind) := by
    have := HCELL.out 0 (by omega)
    rw [HM0.out] at this
    exact keepS hb3 this
  have hi0 : (0 : Int) < (ql.length : Int) := by omega
  have wk : IntKind.i64.wrap kind = kind := IntWalk.i64_in _ ⟨by omega, by omega⟩
  have hcs2 := Lib.hid (same_true hr4 (HR.out.below HB3.out))
  clear hb3 hs4 hr4 hcs
  go_wp2_with fail
  refine hcs2.out.mono ?_
  rintro e w4 ⟨rfl, hb4⟩
  have HB4 := Lib.hid (HB3.out.trans (hb4.mono HB3.out.size))
  have haw := Lib.hid (awake_any (w := w4))
  clear hb4 hcs2
  go_wp2_with fail
  refine haw.out.mono ?_
  rintro e w5 ⟨rfl, hb5⟩
  have HB5 := Lib.hid (HB4.out.trans (hb5.mono HB4.out.size))
  clear hb5 haw
  go_wp2_with fail
  go_ret
  exact ⟨rfl, HB5.out⟩
theorem sback_any {w : World} {v : Value} {zs : List Int} (kind : Int) (hr : Rd w v zs) (hp : Plain v) :
    Calls Try.prog 7 #[.int .i64 kind, v] w fun e w' => e = .returned (.bool true) ∧ Below w.heap.size w w' := by
  by_cases hl : zs.length ≤ 2100
  · exact sback_walk kind hr hp hl
  · obtain ⟨ao, cap, rfl⟩ := hr.shape
    have hlt : (2100 : Int) < (zs.length : Int) := by omega
    clear hr hp
    go_enter Try.func7, Try.ntmps7
    go_wp2_with fail
    go_ret
    exact ⟨rfl, Below.refl _ _⟩
#print axioms sback_any
end Go.Proofs.Ythfmpnikchlhlaa
