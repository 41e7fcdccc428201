/- stream.messages' closure: what it hands its loop, message by message, whatever the loop does with them. -/
import Derived.Test.YthfmpnikchlhlaaSFirst
namespace Go.Proofs.Ythfmpnikchlhlaa
open Go Go.RowKit

def slen : Value → Nat
  | .slice _ n _ => n
  | _ => 0
set_option maxRecDepth 20000 in
set_option maxHeartbeats 4000000 in
theorem messages_in {w W : World} {v : Value} {zs : List Int} {l n B : Nat} (hn : 1 ≤ n) (hr : Rd w v zs) (hp : Plain v) (hl : zs.length ≤ 1000000)
    (J : List (Value × List Int) → World → Prop) (R : List (Value × List Int) → Int → World → Prop)
    (hY : ∀ qs q W1, J qs W1 → Rd w q.1 q.2 → (∃ a, q.1 = .slice a q.2.length q.2.length) → qs.length < zs.length → YieldAt Fence.wide (n - 1) Try.prog l #[q.1, .int .i64 0] W1 fun e W' => e = .returned (.bool true) ∧ J (qs ++ [q]) W')
    (hE : ∀ qs k W1, J qs W1 → k ≠ 0 → YieldAt Fence.wide (n - 1) Try.prog l #[.slice none 0 0, .int .i64 k] W1 fun e W' => e = .returned (.bool false) ∧ R qs k W')
    (hJ : ∀ qs W W', J qs W → Below W.heap.size W W' → J qs W') (hRd : ∀ qs W rv rest, J qs W → Rd w rv rest → Rd W rv rest)
    (hbx : W.cell? ⟨B, 0, none⟩ = some v) (h0 : J [] W) :
    CallsIn Fence.wide n Try.prog 28 #[.func (.yield l) #[] #[], .pointer (some ⟨B, 0, none⟩)] W fun e W' => (∃ v, e = .returned v) ∧
      ∃ qs, qs.map (·.2) = (msgP zs).1 ∧ ((msgP zs).2 = 0 ∧ J qs W' ∨ (msgP zs).2 ≠ 0 ∧ R qs (msgP zs).2 W') := by
  have HY := Lib.hid hY
  have HE := Lib.hid hE
  have HJ := Lib.hid hJ
  have HRD := Lib.hid hRd
  have H0 := Lib.hid h0
  have HR := Lib.hid hr
  have HP := Lib.hid hp
  have HL := Lib.hid hl
  obtain ⟨ao, len, cap, rfl⟩ := hr.shape3
  clear hY hE hJ hRd h0 hr hp hl
  have hF20 : Fence.wide.fn 20 := trivial
  refine callsIn_of_wp Try.func28 rfl trivial ?_ rfl
  simp only [Try.ntmps28, List.size_toArray, List.length_cons, List.length_nil, Nat.reduceAdd, Nat.reduceSub, Array.replicate_succ, Array.replicate_zero, List.push_toArray, List.append_toArray, List.nil_append, List.cons_append]
  gi_wp2
  gi_loopw [3] (fun rv wr => ∃ (qs : List (Value × List Int)) (rest : List Int), Hid (Rd w rv rest) ∧ Hid (Plain rv) ∧ Hid (qs.length + rest.length ≤ zs.length) ∧ Hid (J qs wr) ∧
      Hid (msgP zs = (qs.map (·.2) ++ (msgP rest).1, (msgP rest).2))) (fun rv _ => slen rv)
  case atStart => exact ⟨[], zs, HR, HP, Lib.hid (by simp), H0, Lib.hid (by simp)⟩
  case round =>
    obtain ⟨qs, rest, hR, hP, hN, hJs, hS⟩ := hrel
    by_cases hz : rest = []
    · subst hz
      obtain ⟨ao, cap, rfl⟩ := hR.out.shape
      gi_wp2
      go_end0
      exact ⟨⟨_, rfl⟩, qs, by rw [hS.out]; simp [msgP_nil], .inl ⟨by rw [hS.out]; rfl, hJs.out⟩⟩
    · have hpos : 0 < rest.length := List.length_pos_iff.2 hz
      obtain ⟨ao, cap, rfl⟩ := hR.out.shape
      have hd : decide (0 < rest.length) = true := decide_eq_true hpos
      have hlen : rest.length ≤ 1000000 := by have := hN.out; have := HL.out; omega
      have hrw := HRD.out _ _ _ _ hJs.out hR.out
      have hc := callsIn_wide (n := n - 1).2 (first_any hrw hP.out)
      have hsp := msgP_ok hz
      have hse := msgP_err hz
      have HSP := Lib.hid hsp
      have HSE := Lib.hid hse
      have Hpos := Lib.hid hpos
      have hfo := @first_ok rest
      have HFO := Lib.hid hfo
      clear hsp hse hpos hz hrw hlen hfo
      gi_wp2
      refine hc.mono ?_
      rintro e w1 ⟨hb, (⟨hne, rfl⟩ | ⟨he, rfl⟩)⟩
      · have hJ1 := HJ.out _ _ _ hJs.out hb
        obtain ⟨fn, tmps, asg, body, hy, hRn⟩ := HE.out qs (firstE rest) _ hJ1 hne
        have HSQ := Lib.hid (HSE.out hne)
        have HE0 := Lib.hid hne
        have hnn : (firstE rest != 0) = true := by simp [hne]
        generalize firstE rest = er at *
        clear hJ1 hne hb hc
        gi_wp2
        refine hRn.mono ?_
        rintro e W' ⟨rfl, hRk⟩
        have HRk := Lib.hid hRk
        clear hRk hRn
        gi_wp2
        refine bodyPost_ret (results_none rfl _ _ _) rfl ?_
        have hS2 := hS.out
        rw [HSQ.out] at hS2
        rw [hS2]
        exact ⟨⟨_, rfl⟩, qs, by simp, .inr ⟨HE0.out, HRk.out⟩⟩
      · have hJ1 := HJ.out _ _ _ hJs.out hb
        obtain ⟨f1, f2, f3⟩ := HFO.out he
        have hcap : 0 < cap := by obtain ⟨_, _, e, h1, _⟩ := hR.out; simp only [Value.slice.injEq] at e; omega
        have hfr := hR.out.front (headN rest + 4) f3 (by omega)
        have hlt : (rest.take (headN rest + 4)).length = headN rest + 4 := by simp; omega
        obtain ⟨fn, tmps, asg, body, hy, hRn⟩ := HY.out qs (.slice ao (headN rest + 4) (headN rest + 4), rest.take (headN rest + 4)) w1 hJ1 hfr ⟨ao, by simp only; rw [hlt]⟩ (by have := hN.out; have := Hpos.out; omega)
        obtain ⟨o3, hsl3, hr3, hp3⟩ := part_l hR.out hP.out (headN rest + 4) f3
        have HR3 := Lib.hid hr3
        have HP3 := Lib.hid hp3
        have HNX : Hid (msgP zs = ((qs ++ [((.slice ao (headN rest + 4) (headN rest + 4), rest.take (headN rest + 4)) : Value × List Int)]).map (·.2) ++ (msgP (rest.drop (headN rest + 4))).1, (msgP (rest.drop (headN rest + 4))).2)) := Lib.hid (by rw [hS.out, HSP.out he]; simp)
        have HSZ := Lib.hid (And.intro f3 (show 0 < headN rest + 4 by omega))
        clear hJ1 hb hc hfr hr3 hp3 f1 f2 f3 hlt hcap
        generalize headN rest + 4 = m at *
        gi_wp2
        refine hRn.mono ?_
        rintro e W' ⟨rfl, hJ4⟩
        have HJ4 := Lib.hid hJ4
        clear hRn hJ4
        gi_wp2
        go_roundw
        case rel => exact ⟨_, rest.drop m, HR3, HP3, Lib.hid (by have := hN.out; have := Hpos.out; have := HSZ.out; simp; omega), HJ4, HNX⟩
        case measure => have := Hpos.out; have := HSZ.out; simp only [slen]; omega
#print axioms messages_in
end Go.Proofs.Ythfmpnikchlhlaa
