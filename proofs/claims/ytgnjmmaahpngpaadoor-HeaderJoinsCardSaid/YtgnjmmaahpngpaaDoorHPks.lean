/- header.packets' closure: what it hands its loop, packet by packet, whatever the loop does with them. -/
import Derived.Test.YtgnjmmaahpngpaaDoorHReads
import Derived.Test.YtgnjmmaahpngpaaDoorHPk
import Derived.Test.YtgnjmmaahpngpaaDoorSl
namespace Go.Proofs.YtgnjmmaahpngpaaDoor
open Go Go.RowKit

def slen : Value → Nat
  | .slice _ n _ => n
  | _ => 0
def zpk : Array Value := #[.int .i64 0, .int .i64 0, .slice none 0 0, .slice none 0 0, .slice none 0 0, .int .i64 0, .int .i64 0, .int .i64 0, .slice none 0 0, .slice none 0 0]

theorem box_below {w wr w1 : World} (h : Below w.heap.size w wr) (h1 : Below wr.heap.size wr w1) (o : Obj) : Below w.heap.size w (w1.alloc o).drew :=
  ((h.trans (h1.mono h.size)).trans ((below_alloc w1 o).mono (h.trans (h1.mono h.size)).size)).drew

theorem round_below {wr w1 w2 w3 : World} {o : Obj} (h1 : Below wr.heap.size wr w1) (h2 : Below (w1.alloc o).drew.heap.size (w1.alloc o).drew w2) (h3 : Below w2.heap.size w2 w3) : Below wr.heap.size wr w3 := by
  have a := h1.trans ((below_alloc w1 o).mono h1.size)
  have b := a.drew.trans (h2.mono a.drew.size)
  exact b.trans (h3.mono b.size)
theorem round_pr {wr w1 w2 w3 : World} {o : Obj} {h : Hv} {vt vf vk vh vb : Value} {hd bd : List Int} (hh : HrA wr.heap.size w1 h vt vf vk) (h1 : Below wr.heap.size wr w1)
    (hv2 : Ra (w1.alloc o).drew.heap.size w2 vh hd ∧ Plain vh) (h3 : Below w2.heap.size w2 w3) (h2 : Below (w1.alloc o).drew.heap.size (w1.alloc o).drew w2) (hv3 : Ra w2.heap.size w3 vb bd) (hp3 : Plain vb) :
    Pr wr.heap.size w3 ⟨h, hd, bd, vt, vf, vk, vh, vb⟩ := by
  have s1 : wr.heap.size ≤ (w1.alloc o).drew.heap.size := (h1.trans ((below_alloc w1 o).mono h1.size)).size
  have s2 : wr.heap.size ≤ w2.heap.size := Nat.le_trans s1 h2.size
  have k : Below w1.heap.size w1 w2 := (below_alloc w1 o).drew.trans (h2.mono (below_alloc w1 o).drew.size)
  exact ⟨(hh.below k).below h3, (hv2.1.below h3).mono s1, hv3.mono s2, hv2.2, hp3⟩

theorem split_on {zs rest : List Int} {qs : List Pk} {h : Hv} {s E : Nat} {vt vf vk vh vb : Value} (h1 : splitP zs = (qs.map Pk.plain ++ (splitP rest).1, (splitP rest).2))
    (h2 : splitP rest = ((h, rest.take s, (rest.take (E : Int).toNat).drop s) :: (splitP (rest.drop (E : Int).toNat)).1, (splitP (rest.drop (E : Int).toNat)).2)) :
    splitP zs = ((qs ++ [(⟨h, rest.take s, (rest.take E).drop s, vt, vf, vk, vh, vb⟩ : Pk)]).map Pk.plain ++ (splitP (rest.drop E)).1, (splitP (rest.drop E)).2) := by
  rw [h1, h2]
  simp [Pk.plain]

set_option maxRecDepth 20000 in
set_option maxHeartbeats 4000000 in
theorem packets_in {w W : World} {v : Value} {zs : List Int} {l n B : Nat} (hn : 1 ≤ n) (hr : Rd w v zs) (hp : Plain v) (hl : zs.length ≤ 1000000)
    (J : List Pk → World → Prop) (R : List Pk → Int → World → Prop)
    (hY : ∀ qs p W0 W1, J qs W0 → Below W0.heap.size W0 W1 → Pr W0.heap.size W1 p → qs.length < zs.length → YieldAt Fence.wide (n - 1) Tryd.prog l #[.agg p.cells.toArray, .int .i64 0] W1 fun e W' => e = .returned (.bool true) ∧ J (qs ++ [p]) W')
    (hE : ∀ qs k W1, J qs W1 → k ≠ 0 → YieldAt Fence.wide (n - 1) Tryd.prog l #[.agg zpk, .int .i64 k] W1 fun e W' => e = .returned (.bool false) ∧ R qs k W')
    (hJ : ∀ qs W W', J qs W → Below W.heap.size W W' → J qs W') (hB : ∀ qs W, J qs W → Below w.heap.size w W)
    (hbx : W.cell? ⟨B, 0, none⟩ = some v) (h0 : J [] W) :
    CallsIn Fence.wide n Tryd.prog 20 #[.func (.yield l) #[] #[], .pointer (some ⟨B, 0, none⟩)] W fun e W' => (∃ v, e = .returned v) ∧
      ∃ qs, qs.map Pk.plain = (splitP zs).1 ∧ ((splitP zs).2 = 0 ∧ J qs W' ∨ (splitP zs).2 ≠ 0 ∧ R qs (splitP zs).2 W') := by
  have HY := Lib.hid hY
  have HE := Lib.hid hE
  have HJ := Lib.hid hJ
  have HB := Lib.hid hB
  have H0 := Lib.hid h0
  have HR := Lib.hid hr
  have HP := Lib.hid hp
  have HL := Lib.hid hl
  obtain ⟨ao, len, cap, rfl⟩ := hr.shape3
  clear hY hE hJ hB h0 hr hp hl
  have hF57 : Fence.wide.fn 22 := trivial
  have hF17 : Fence.wide.fn 21 := trivial
  refine callsIn_of_wp Tryd.func20 rfl trivial ?_ rfl
  simp only [Tryd.ntmps20, List.size_toArray, List.length_cons, List.length_nil, Nat.reduceAdd, Nat.reduceSub, Array.replicate_succ, Array.replicate_zero, List.push_toArray, List.append_toArray, List.nil_append, List.cons_append]
  gi_wp2
  gi_loopw [3] (fun rv wr => ∃ (qs : List Pk) (rest : List Int), Hid (Rd w rv rest) ∧ Hid (Plain rv) ∧ Hid (qs.length + rest.length ≤ zs.length) ∧ Hid (J qs wr) ∧
      Hid (splitP zs = (qs.map Pk.plain ++ (splitP rest).1, (splitP rest).2))) (fun rv _ => slen rv)
  case atStart => exact ⟨[], zs, HR, HP, Lib.hid (by simp), H0, Lib.hid (by simp)⟩
  case round =>
    obtain ⟨qs, rest, hR, hP, hN, hJs, hS⟩ := hrel
    by_cases hz : rest = []
    · subst hz
      obtain ⟨ao, cap, rfl⟩ := hR.out.shape
      gi_wp2
      go_end0
      exact ⟨⟨_, rfl⟩, qs, by rw [hS.out]; simp [splitP_nil], .inl ⟨by rw [hS.out]; rfl, hJs.out⟩⟩
    · have hpos : 0 < rest.length := List.length_pos_iff.2 hz
      obtain ⟨ao, cap, rfl⟩ := hR.out.shape
      have hd : decide (0 < rest.length) = true := decide_eq_true hpos
      have hc := readhead_ra (hR.out.below (HB.out _ _ hJs.out)) hP.out (by have := hN.out; have := HL.out; omega)
      have hsp := splitP_ok hz
      have hse := splitP_err hz
      have hrb := @ref_bounds rest
      generalize hq : refP rest = q at *
      obtain ⟨h, s, en, er⟩ := q
      simp only at hc hsp hse hrb
      have HSP := Lib.hid hsp
      have HSE := Lib.hid hse
      have HRB := Lib.hid hrb
      clear hsp hse hrb hq
      have Hpos := Lib.hid hpos
      have hc' := callsIn_wide (n := n - 1).2 hc
      clear hpos hz hc
      gi_wp2
      refine hc'.mono ?_
      rintro e w1 ⟨vt, vf, vk, rfl, hh, hb⟩
      obtain ⟨a1, n1, k1, rfl⟩ := hh.to.rd.shape3
      obtain ⟨a2, n2, k2, rfl⟩ := hh.fr.rd.shape3
      obtain ⟨a3, n3, k3, rfl⟩ := hh.tk.rd.shape3
      have HH := Lib.hid hh
      have HBW := Lib.hid hb
      clear hh hb hc'
      unfold hcells
      by_cases he : er = 0
      · subst he
        obtain ⟨hs0, hse, hel⟩ := HRB.out rfl
        obtain ⟨E, rfl⟩ := Int.eq_ofNat_of_zero_le (show 0 ≤ en by omega)
        obtain ⟨o1, hsl1, hr1, hp1⟩ := part_h hR.out hP.out s (by omega)
        obtain ⟨o2, hsl2, hr2, hp2⟩ := part_lh hR.out hP.out s E (by omega) (by omega)
        obtain ⟨o3, hsl3, hr3, hp3⟩ := part_l hR.out hP.out E (by omega)
        have HBx := Lib.hid (box_below (HB.out _ _ hJs.out) HBW.out (.cells #[.int .i64 h.k, .int .i64 h.v, .slice a1 n1 k1, .slice a2 n2 k2, .slice a3 n3 k3, .int .i64 h.p, .int .i64 h.n, .int .i64 h.w] 29))
        have hlen : rest.length ≤ 1000000 := by have := hN.out; have := HL.out; omega
        have hc1 := callsIn_wide (n := n - 1).2 (clone_any (hr1.below HBx.out) hp1 (by simp; omega))
        have hx0 := heap_alloc_new w1 (.cells #[.int .i64 h.k, .int .i64 h.v, .slice a1 n1 k1, .slice a2 n2 k2, .slice a3 n3 k3, .int .i64 h.p, .int .i64 h.n, .int .i64 h.w] 29)
        have hx := Lib.hid hx0
        have hy := fun i => cell_of_row _ w1.heap.size i _ 29 (0, 0) hx.out
        have hy0 := hy 0
        have hy1 := hy 1
        have hy2 := hy 2
        have hy3 := hy 3
        have hy4 := hy 4
        have hy5 := hy 5
        have hy6 := hy 6
        have hy7 := hy 7
        have HR2 := Lib.hid hr2
        have HP2 := Lib.hid hp2
        have HR3 := Lib.hid hr3
        have HP3 := Lib.hid hp3
        have HS0 := Lib.hid hs0
        have HSE' := Lib.hid hse
        have HEL := Lib.hid hel
        have HLEN := Lib.hid hlen
        have HNX := Lib.hid (fun vt vf vk vh vb => split_on (vt := vt) (vf := vf) (vk := vk) (vh := vh) (vb := vb) hS.out (HSP.out rfl))
        have hmx : Tryd.prog.follows .mixedOrders = true := by kernel_rfl
        clear hr1 hr2 hr3 hp1 hp2 hp3 hs0 hse hel hlen hy hx0
        gi_wp2
        gi_region_with_o (first
          | (gi_at_call 22
             with_reducible refine hc1.mono ?_
             rintro e w2 ⟨v2, rfl, ⟨hv2, hp2⟩, hb2⟩
             clear hc1
             obtain ⟨x1, y1, z1, rfl⟩ := hv2.rd.shape3
             have hz0 := keepS hb2 hy0
             have hz1 := keepS hb2 hy1
             have hz2 := keepS hb2 hy2
             have hz3 := keepS hb2 hy3
             have hz4 := keepS hb2 hy4
             have hz5 := keepS hb2 hy5
             have hz6 := keepS hb2 hy6
             have hz7 := keepS hb2 hy7
             have HB2 := Lib.hid hb2
             have HV2 := Lib.hid (And.intro hv2 hp2)
             have hc2 := callsIn_wide (n := n - 1).2 (clone_any (HR2.out.below (HBx.out.trans (hb2.mono HBx.out.size))) HP2.out (by have := HLEN.out; simp; omega))
             clear hb2 hv2 hp2)
          | (gi_at_call 22
             with_reducible refine hc2.mono ?_
             rintro e w3 ⟨v3, rfl, ⟨hv3, hp3⟩, hb3⟩
             clear hc2
             obtain ⟨x2, y2, z2, rfl⟩ := hv3.rd.shape3
             have hq0 := keepS hb3 hz0
             have hq1 := keepS hb3 hz1
             have hq2 := keepS hb3 hz2
             have hq3 := keepS hb3 hz3
             have hq4 := keepS hb3 hz4
             have hq5 := keepS hb3 hz5
             have hq6 := keepS hb3 hz6
             have hq7 := keepS hb3 hz7
             have hyy := HY.out qs ⟨h, rest.take s, (rest.take E).drop s, .slice a1 n1 k1, .slice a2 n2 k2, .slice a3 n3 k3, .slice x1 y1 z1, .slice x2 y2 z2⟩ wr w3 hJs.out
               (round_below HBW.out HB2.out hb3) (round_pr HH.out HBW.out HV2.out hb3 HB2.out hv3 hp3) (by have := hN.out; have := Hpos.out; omega)
             obtain ⟨fn, tmps, asg, body, hy, hRn⟩ := hyy
             simp only [Pk.cells] at hy
             clear hb3 hv3 hp3)
          | (with_reducible refine hRn.mono ?_
             rintro e w4 ⟨rfl, hJ4⟩
             have HJ4 := Lib.hid hJ4
             clear hJ4 hRn))
        all_goals gi_wp2
        all_goals go_roundw
        all_goals first
          | exact ⟨_, rest.drop E, HR3, HP3, Lib.hid (by have := hN.out; have := Hpos.out; have := HS0.out; have := HSE'.out; simp; omega), HJ4, Lib.hid (HNX.out _ _ _ _ _)⟩
          | (simp only [slen]; have := Hpos.out; have := HS0.out; have := HSE'.out; have := HEL.out; simp; omega)
      · have hne : decide (er = 0) = false := decide_eq_false he
        have hnn : (er != 0) = true := by simp [he]
        have hJ1 := HJ.out _ _ _ (HJ.out _ _ _ hJs.out HBW.out) (below_alloc w1 (.cells #[.int .i64 h.k, .int .i64 h.v, .slice a1 n1 k1, .slice a2 n2 k2, .slice a3 n3 k3, .int .i64 h.p, .int .i64 h.n, .int .i64 h.w] 29))
        obtain ⟨fn, tmps, asg, body, hy, hRn⟩ := HE.out qs er _ hJ1 he
        dsimp only [zpk] at hy
        have HSQ := Lib.hid (HSE.out he)
        have HE0 := Lib.hid he
        clear hJ1 he
        gi_wp2
        refine hRn.mono ?_
        rintro e W' ⟨rfl, hRk⟩
        have HRk := Lib.hid hRk
        clear hRk hRn
        gi_wp2
        refine bodyPost_ret (results_none rfl _ _ _) rfl ?_
        have hS2 := hS.out
        rw [HSQ.out] at hS2
        rw [hS2]
        exact ⟨⟨_, rfl⟩, qs, by simp, .inr ⟨HE0.out, HRk.out⟩⟩
end Go.Proofs.YtgnjmmaahpngpaaDoor
