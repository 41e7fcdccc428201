/- law 13: StreamMessages. -/
import Derived.Test.YthfmpnikchlhlaaSAwake
import Derived.Test.YthfmpnikchlhlaaSMsgs4
import Derived.Test.YthfmpnikchlhlaaSRMsgs
import Derived.Test.YthfmpnikchlhlaaSMsg
import Derived.StillTailTactics
namespace Go.Proofs.Ythfmpnikchlhlaa
open Go Go.RowKit

/-- What a list of slices holds. -/
structure Lst (w : World) (lv : Value) (qs : List (Value × List Int)) (base : Nat) : Prop where
  own : w.ownsRow base 29 1 lv qs.length (qs.map (·.1))
  rd : ∀ q ∈ qs, Rd w q.1 q.2
theorem Lst.below {w w' : World} {lv : Value} {qs : List (Value × List Int)} {base : Nat} (h : Lst w lv qs base) (hb : Below w.heap.size w w') : Lst w' lv qs base := ⟨own_below h.own hb, fun q hq => (h.rd q hq).below hb⟩
theorem Lst.shape {w : World} {lv : Value} {qs : List (Value × List Int)} {base : Nat} (h : Lst w lv qs base) : ∃ a c, lv = .slice a qs.length c := by
  rcases h.own.2 with ⟨h1, h2⟩ | ⟨g, cap, cur, h1, _⟩
  · exact ⟨none, 0, by rw [h1, h2]⟩
  · exact ⟨_, _, h1⟩
theorem Lst.cell {w : World} {a : Option Addr} {n c : Nat} {qs : List (Value × List Int)} {base : Nat} (h : Lst w (.slice a n c) qs base) {k : Nat} {q : Value × List Int} (hk : qs[k]? = some q) : ∃ g, a = some ⟨g, 0, none⟩ ∧ w.cell? ⟨g, k, none⟩ = some q.1 := by
  have hlt := (List.getElem?_eq_some_iff.1 hk).1
  rcases h.own.2 with ⟨e1, e2⟩ | ⟨g, cap, cur, e1, _⟩
  · omega
  · simp only [Value.slice.injEq] at e1
    obtain ⟨rfl, _, _⟩ := e1
    have := World.ownsRow.cells h.own (by rfl) k q.1 (by simp [hk])
    rw [Addr.add_lit, show 0 + k = k by omega] at this
    exact ⟨g, rfl, this⟩
/-- What Messages tells, in short. -/
theorem MsgsPost.open {w : World} {zs : List Int} {e : Ending} {W : World} (h : MsgsPost w zs e W) : ∃ a c qs, e = .returned (.tuple #[.slice a qs.length c, .bool (decide ((msgP zs).2 = 0))]) ∧ Lst W (.slice a qs.length c) qs w.heap.size ∧ qs.map (·.2) = (if (msgP zs).2 = 0 then (msgP zs).1 else []) ∧ Below w.heap.size w W := by
  obtain ⟨lv, qs, ok, rfl, ho, hq, hc, hb⟩ := h
  obtain ⟨a, c, rfl⟩ := Lst.shape ⟨ho, hq⟩
  refine ⟨a, c, qs, ?_, ⟨ho, hq⟩, ?_, hb⟩
  · rcases hc with ⟨rfl, h1, _⟩ | ⟨rfl, h1, _⟩ <;> simp [h1]
  · rcases hc with ⟨_, h1, h2⟩ | ⟨_, h1, h2⟩
    · rw [if_pos h1, h2]
    · rw [if_neg h1, h2]; rfl

theorem msgF_len : ∀ (n : Nat) (zs : List Int), (msgF n zs).1.length ≤ n := by
  intro n
  induction n with
  | zero => intro zs; simp [msgF]
  | succ n ih =>
    intro zs
    unfold msgF
    by_cases h : zs = []
    · rw [if_pos h]; simp
    · rw [if_neg h]
      by_cases h2 : firstE zs = 0
      · rw [if_pos h2]
        have := ih (zs.drop (headN zs + 4))
        simp only [List.length_cons]
        omega
      · rw [if_neg h2]; simp
theorem msgP_len (zs : List Int) : (msgP zs).1.length ≤ zs.length := msgF_len _ _

set_option maxRecDepth 20000 in
set_option maxHeartbeats 4000000 in
theorem smessages_walk {w : World} {v : Value} {zs : List Int} (kind : Int) (hr : Rd w v zs) (hp : Plain v) (hl : zs.length ≤ 2100) :
    Calls Try.prog 4 #[.int .i64 kind, v] w fun e w' => e = .returned (.bool true) ∧ Below w.heap.size w w' := by
  obtain ⟨ao, cap, rfl⟩ := hr.shape
  have HR := Lib.hid hr
  have HP := Lib.hid hp
  have hlt : ¬ (2100 : Int) < (zs.length : Int) := by omega
  clear hr hp
  go_enter Try.func4, Try.ntmps4
  go_wp2_with (at_builtin; refine wpList_append_bytes (.tmp 14) (.tmp 15) 29 rfl rfl info5 Try.underlying29 w.heap.size _ 0 [] rfl (own_fresh w 5) _ zs rfl (HR.out.alloc _) (by omega) (by simp) ?_; intro v1 w1 hown1 hb1)
  simp only [List.nil_append, Nat.zero_add] at hown1
  have hra := ra_own hown1 HR.out.byt
  have HB1 := Lib.hid ((below_alloc w (.cells #[] 5)).trans hb1)
  have hc := msgs_any hra.1.rd hra.2 (by omega)
  obtain ⟨b1, m1, c1, rfl⟩ := hra.1.rd.shape3
  clear hown1 hb1 hra
  go_wp2_with fail
  refine hc.mono ?_
  rintro e w2 hpost
  obtain ⟨la, lc, qs, rfl, hL, hqs, hb2⟩ := hpost.open
  have HB2 := Lib.hid (HB1.out.trans (hb2.mono HB1.out.size))
  have HL := Lib.hid hL
  have HQ := Lib.hid hqs
  have hc2 := Lib.hid (rmsgs_any (HR.out.below HB2.out) HP.out (by omega))
  clear hpost hL hqs hb2 hc
  go_wp2_with fail
  refine hc2.out.mono ?_
  rintro e w3 hpost
  obtain ⟨ra, rc, rs, rfl, hL2, hrs, hb3⟩ := hpost.open
  have HB3 := Lib.hid (HB2.out.trans (hb3.mono HB2.out.size))
  have HL1 := Lib.hid (HL.out.below hb3)
  have HL2 := Lib.hid hL2
  have HQ2 := Lib.hid hrs
  have hrl : rs.length ≤ 2100 := by
    have h2 := congrArg List.length hrs
    have h3 := msgP_len zs
    rw [List.length_map] at h2
    rw [h2]
    split
    · omega
    · simp
  have hlen : qs.length = rs.length := by
    have h1 := congrArg List.length HQ.out
    have h2 := congrArg List.length hrs
    simp only [List.length_map] at h1 h2
    rw [h1, h2]
  have hc3 := Lib.hid (message_any kind (HR.out.below HB3.out) (by omega))
  generalize decide ((msgP zs).2 = 0) = ok at *
  clear hpost hL2 hrs hb3 hc2 HL
  have hnb := fun W => run_neq_bool (P := Try.prog) (w := W) 4 ok ok rfl
  go_wp2_with fail
  refine hc3.out.mono ?_
  rintro e w4 ⟨v4, rfl, ⟨hra4, _⟩, hb4⟩
  have HB4 := Lib.hid (HB3.out.trans (hb4.mono HB3.out.size))
  have hc4 := Lib.hid (rmessage_any kind (HR.out.below HB4.out) (by omega))
  have HR4 := Lib.hid hra4.rd
  have H14 := Lib.hid (HL1.out.below hb4)
  have H24 := Lib.hid (HL2.out.below hb4)
  obtain ⟨b4, m4, c4, rfl⟩ := hra4.rd.shape3
  clear hra4 hb4 hc3 HL1 HL2
  go_wp2_with fail
  refine hc4.out.mono ?_
  rintro e w5 ⟨v5, rfl, ⟨hra5, _⟩, hb5⟩
  have HB5 := Lib.hid (HB4.out.trans (hb5.mono HB4.out.size))
  have hc5 := Lib.hid (same_true (HR4.out.below hb5) hra5.rd)
  have H15 := Lib.hid (H14.out.below hb5)
  have H25 := Lib.hid (H24.out.below hb5)
  obtain ⟨b5, m5, c5, rfl⟩ := hra5.rd.shape3
  clear hra5 hb5 hc4 HR4 H14 H24
  go_wp2_with fail
  refine hc5.out.mono ?_
  rintro e w6 ⟨rfl, hb6⟩
  have HB6 := Lib.hid (HB5.out.trans (hb6.mono HB5.out.size))
  have H16 := Lib.hid (H15.out.below hb6)
  have H26 := Lib.hid (H25.out.below hb6)
  have HLEN := Lib.hid hlen
  clear hb6 hc5 H15 H25 hlen
  go_wp2_with fail
  go_loopw [9] (fun iv wr => ∃ k : Nat, iv = .int .i64 k ∧ k ≤ rs.length ∧ Hid (Below w6.heap.size w6 wr)) (fun iv _ => rs.length - (intOf iv).toNat)
  case atStart => exact ⟨0, rfl, Nat.zero_le _, Lib.hid (Below.refl _ _)⟩
  case round =>
    obtain ⟨k, rfl, hk, hB⟩ := hrel
    have HBR := Lib.hid (HB6.out.trans (hB.out.mono HB6.out.size))
    by_cases hlt : k < rs.length
    · have hlt1 : k < qs.length := by have := HLEN.out; omega
      have hq1 : qs[k]? = some qs[k] := List.getElem?_eq_getElem hlt1
      have hq2 : rs[k]? = some rs[k] := List.getElem?_eq_getElem hlt
      have he : qs[k].2 = rs[k].2 := by
        have h1 := congrArg (fun l => l[k]?) HQ.out
        have h2 := congrArg (fun l => l[k]?) HQ2.out
        simp only [List.getElem?_map, hq1, hq2, Option.map_some] at h1 h2
        have := h1.trans h2.symm
        exact Option.some.inj this
      have r1 := (H16.out.rd _ (List.mem_of_getElem? hq1)).below hB.out
      have r2 := (H26.out.rd _ (List.mem_of_getElem? hq2)).below hB.out
      rw [he] at r1
      obtain ⟨g1, rfl, d1⟩ := H16.out.cell hq1
      obtain ⟨g2, rfl, d2⟩ := H26.out.cell hq2
      have d1 := keepS hB.out d1
      have d2 := keepS hB.out d2
      obtain ⟨x1, n1, y1, e1⟩ := r1.shape3
      obtain ⟨x2, n2, y2, e2⟩ := r2.shape3
      rw [e1] at r1 d1
      rw [e2] at r2 d2
      have hcs := Lib.hid (same_true (r1.below (below_drewN wr 1)) (r2.below (below_drewN wr 1)))
      have hki : (k : Int) < (rs.length : Int) := by omega
      have hkb : (k : Int) < (qs.length : Int) := by have := HLEN.out; omega
      clear r1 r2 hq1 hq2 he e1 e2
      go_wp2_with fail
      go_still_tail 8, (by kernel_rfl)
      clear d1 d2
      go_wp2_with fail
      refine hcs.out.mono ?_
      rintro e w8 ⟨rfl, hb8⟩
      have HB8 := Lib.hid (hB.out.trans (((below_drewN wr 1).trans hb8).mono hB.out.size))
      clear hb8 hcs
      go_wp2_with fail
      go_roundw
      case rel => exact ⟨k + 1, by go_num, by omega, HB8⟩
      case measure => simp [intOf]; omega
    · obtain rfl : k = rs.length := by omega
      have haw := Lib.hid (awake_any (w := wr))
      go_wp2_with fail
      refine haw.out.mono ?_
      rintro e w8 ⟨rfl, hb8⟩
      have HB8 := Lib.hid (HBR.out.trans (hb8.mono HBR.out.size))
      clear hb8 haw
      go_wp2_with fail
      go_ret
      exact ⟨rfl, HB8.out⟩
theorem smessages_any {w : World} {v : Value} {zs : List Int} (kind : Int) (hr : Rd w v zs) (hp : Plain v) :
    Calls Try.prog 4 #[.int .i64 kind, v] w fun e w' => e = .returned (.bool true) ∧ Below w.heap.size w w' := by
  by_cases hl : zs.length ≤ 2100
  · exact smessages_walk kind hr hp hl
  · obtain ⟨ao, cap, rfl⟩ := hr.shape
    have hlt : (2100 : Int) < (zs.length : Int) := by omega
    clear hr hp
    go_enter Try.func4, Try.ntmps4
    go_wp2_with fail
    go_ret
    exact ⟨rfl, Below.refl _ _⟩
#print axioms smessages_any
end Go.Proofs.Ythfmpnikchlhlaa
