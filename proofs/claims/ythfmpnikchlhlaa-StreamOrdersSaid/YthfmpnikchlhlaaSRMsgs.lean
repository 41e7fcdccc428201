/- The document's Messages, whatever the bytes. -/
import Derived.Test.YthfmpnikchlhlaaSMsgs4
import Derived.Deep.QuietTactic
import Derived.BigQuiet
namespace Go.Proofs.Ythfmpnikchlhlaa
open Go Go.RowKit

set_option maxRecDepth 20000 in
set_option maxHeartbeats 4000000 in
theorem rmsgs_any {w : World} {v : Value} {zs : List Int} (hr : Rd w v zs) (hp : Plain v) (hl : zs.length ≤ 1000000) :
    Calls Try.prog 17 #[v] w (MsgsPost w zs) := by
  have HR := Lib.hid hr
  have HP := Lib.hid hp
  have HL := Lib.hid hl
  obtain ⟨ao, cap, rfl⟩ := hr.shape
  clear hr hp hl
  go_enter Try.func17, Try.ntmps17
  go_wp2_with fail
  go_loopw [0, 4] (fun rv lv wr => ∃ (qs : List (Value × List Int)) (rest : List Int), Hid (Rd w rv rest) ∧ Hid (Plain rv) ∧ Hid (qs.length + rest.length ≤ zs.length) ∧ Hid (wr.ownsRow w.heap.size 29 1 lv qs.length (qs.map (·.1))) ∧ Hid (∀ q ∈ qs, Rd w q.1 q.2) ∧ Hid (Below w.heap.size w wr) ∧
      Hid (msgP zs = (qs.map (·.2) ++ (msgP rest).1, (msgP rest).2))) (fun rv _ _ => slen rv)
  case atStart => exact ⟨[], zs, HR, HP, Lib.hid (by simp), Lib.hid (World.ownsRow_nil _ _ _ _), Lib.hid (fun q hq => by cases hq), Lib.hid (Below.refl _ _), Lib.hid (by simp)⟩
  case round =>
    obtain ⟨qs, rest, hR, hP, hN, hO, hQ, hB, hS⟩ := hrel
    by_cases hz : rest = []
    · subst hz
      obtain ⟨ao, cap, rfl⟩ := hR.out.shape
      go_wp2_with fail
      go_ret2
      refine ⟨_, qs, true, rfl, hO.out, fun q hq => (hQ.out q hq).below hB.out, .inl ⟨rfl, ?_, ?_⟩, hB.out⟩
      · rw [hS.out]; rfl
      · rw [hS.out]; simp [msgP_nil]
    · have hpos : 0 < rest.length := List.length_pos_iff.2 hz
      have hsp := msgP_ok hz
      have hse := msgP_err hz
      have hfo := @first_ok rest
      have hlen : rest.length ≤ 1000000 := by have := hN.out; have := HL.out; omega
      have hd : decide (0 < rest.length) = true := decide_eq_true hpos
      obtain ⟨ao, cap, hsh⟩ := hR.out.shape
      subst hsh
      have hno : msgP rest = ([], firstE rest) → firstE rest ≠ 0 → ∃ qs' : List (Value × List Int), (false = true ∧ (msgP zs).2 = 0 ∧ qs'.map (·.2) = (msgP zs).1 ∨ false = false ∧ (msgP zs).2 ≠ 0 ∧ qs' = []) := fun h1 h2 => ⟨[], .inr ⟨rfl, by rw [hS.out, h1]; exact h2, rfl⟩⟩
      have HNO := Lib.hid hno
      have HSP := Lib.hid hsp
      have HSE := Lib.hid hse
      have HFO := Lib.hid hfo
      have Hpos := Lib.hid hpos
      clear hsp hse hfo hno hpos hz
      by_cases h4 : rest.length < 4
      · have he : firstE rest ≠ 0 := by simp [firstE, h4]
        have hd4 : decide ((rest.length : Int) < 4) = true := decide_eq_true (by omega)
        have HE := Lib.hid he
        clear he
        go_wp2_with fail
        go_ret2
        obtain ⟨qs', hk⟩ := HNO.out (HSE.out HE.out) HE.out
        rcases hk with ⟨h, _⟩ | ⟨_, hk, rfl⟩
        · cases h
        · exact ⟨_, [], false, rfl, World.ownsRow_nil _ _ _ _, (fun q hq => by cases hq), .inr ⟨rfl, hk, rfl⟩, hB.out⟩
      · have hd4 : decide ((rest.length : Int) < 4) = false := decide_eq_false (by omega)
        have hrw := hR.out.below hB.out
        rcases hrw.cases with ⟨h0, _⟩ | ⟨b, off, cap', e, hpos, hlc, hcm, hbl, hcell⟩
        · rw [h0] at h4; simp at h4
        simp only [Value.slice.injEq] at e
        obtain ⟨rfl, _, rfl⟩ := e
        have c1 := hcell 1 (by omega)
        have c2 := hcell 2 (by omega)
        have c3 := hcell 3 (by omega)
        have b1 := hrw.byt.get 1
        have b2 := hrw.byt.get 2
        have b3 := hrw.byt.get 3
        have hH := headN_eq hrw.byt
        generalize rest.getD 1 0 = z1 at *
        generalize rest.getD 2 0 = z2 at *
        generalize rest.getD 3 0 = z3 at *
        have l1 : (1 : Int) < (rest.length : Int) := by omega
        have l2 : (2 : Int) < (rest.length : Int) := by omega
        have l3 : (3 : Int) < (rest.length : Int) := by omega
        have HH := Lib.hid hH
        have hH' : 65536 * z1 + 256 * z2 + z3 = (headN rest : Int) := hH.symm
        clear hcell hrw hH
        go_wp2_with fail
        go_quiet (fail)
        obtain ⟨W0, hW0⟩ : ∃ W0, wr.drewN nq = W0 := ⟨_, rfl⟩
        have hbW := below_drewN wr nq
        rw [hW0] at hbW ⊢
        have hBW : Hid (Below w.heap.size w W0) := Lib.hid (hB.out.trans (hbW.mono hB.out.size))
        have hOW := own_below hO.out hbW
        have hno : firstE rest ≠ 0 → MsgsPost w zs (.returned (.tuple #[.slice none 0 0, .bool false])) W0 := fun he => by
          obtain ⟨qs', hk⟩ := HNO.out (HSE.out he) he
          rcases hk with ⟨h, _⟩ | ⟨_, hk, rfl⟩
          · cases h
          · exact ⟨.slice none 0 0, [], false, rfl, World.ownsRow_nil _ _ _ _, (fun q hq => by cases hq), .inr ⟨rfl, hk, rfl⟩, hBW.out⟩
        have HNW := Lib.hid hno
        clear hno hW0 hbW hH' c1 c2 c3 b1 b2 b3
        by_cases h5 : 2000 < headN rest
        · have he : firstE rest ≠ 0 := by simp [firstE, h4, h5]
          have hd5 : decide (2000 < (headN rest : Int)) = true := decide_eq_true (by omega)
          have HE := Lib.hid he
          clear he hOW
          go_wp2_with fail
          go_ret2
          exact HNW.out HE.out
        · have hd5 : decide (2000 < (headN rest : Int)) = false := decide_eq_false (by omega)
          by_cases h6 : rest.length < headN rest + 4
          · have he : firstE rest ≠ 0 := by simp [firstE, h4, h5, h6]
            have hd6 : decide ((rest.length : Int) - 4 < (headN rest : Int)) = true := decide_eq_true (by omega)
            have HE := Lib.hid he
            clear he hOW
            go_wp2_with fail
            go_ret2
            exact HNW.out HE.out
          · have he : firstE rest = 0 := by simp [firstE, h4, h5, h6]
            have hd6 : decide ((rest.length : Int) - 4 < (headN rest : Int)) = false := decide_eq_false (by omega)
            have hw : IntKind.i64.wrap ((headN rest : Int) + 4) = ((headN rest + 4 : Nat) : Int) := by
              have : headN rest ≤ 2000 := by omega
              generalize headN rest = m at *
              rw [show ((m : Int) + 4) = ((m + 4 : Nat) : Int) by omega]
              exact IntWalk.i64_in _ ⟨by omega, by omega⟩
            obtain ⟨o1, hsl1, hr1, hp1⟩ := part_h hR.out hP.out (headN rest + 4) (by omega)
            obtain ⟨o3, hsl3, hr3, hp3⟩ := part_l hR.out hP.out (headN rest + 4) (by omega)
            have HR1 := Lib.hid hr1
            have HR3 := Lib.hid hr3
            have HP3 := Lib.hid hp3
            have HSZ := Lib.hid (show 0 < headN rest + 4 ∧ headN rest + 4 ≤ rest.length by omega)
            have HNX := Lib.hid (HSP.out he)
            have HOW := Lib.hid hOW
            obtain ⟨ip, hip, hz0, hz1, hz2⟩ := info_parts info_bb
            have HLEN := Lib.hid hlen
            clear hr1 hr3 hp1 hp3 he h6 h5 h4 hOW hlen
            generalize headN rest + 4 = m at *
            have HCN := Lib.hid (fun i => cell_of_row _ W0.heap.size i _ 29 (0, 0) (heap_alloc_new W0 (.cells #[.slice o1 m cap] 29)))
            go_wp2_with (
              at_builtin
              refine wpList_append_own _ rfl (.tmp 37) (.tmp 42) 45 rfl w.heap.size 29 ip (.slice none 0 0) 1 24 Try.underlying45 hip hz0 hz1 hz2 rfl (by decide) _ qs.length (qs.map (·.1)) rfl
                (own_below HOW.out (below_alloc W0 _)) ⟨W0.heap.size, 0, none⟩ 1 1 [.slice o1 m cap] rfl rfl
                (cells_at HCN.out) (by intro u hu; simp at hu; subst hu; rfl) (by have := hN.out; have := HL.out; unfold maxLen; omega) (by have := hN.out; have := HL.out; omega) (by have := hBW.out.size; simp; omega) ?_
              intro v' w2 hown' hgrow _)
            have hbl : Below w.heap.size (W0.alloc (.cells #[.slice o1 m cap] 29)) w2 := below_own (own_below HOW.out (below_alloc W0 _)) (by have := hBW.out.size; simp; omega) hgrow
            have hb2 : Below w.heap.size w w2 := (hBW.out.trans ((below_alloc W0 _).mono hBW.out.size)).trans hbl
            have hr1 : Rd w (.slice o1 m cap) (rest.take m) := HR1.out
            refine ⟨⟨qs ++ [(.slice o1 m cap, rest.take m)], rest.drop m, HR3, HP3, Lib.hid (by have := hN.out; have := HSZ.out; simp; omega), Lib.hid (by simpa using hown'), Lib.hid fun q hq => ?_, Lib.hid hb2, Lib.hid (by rw [hS.out, HNX.out]; simp)⟩, by have := HSZ.out; simp only [slen]; omega⟩
            rcases List.mem_append.1 hq with hq | hq
            · exact hQ.out q hq
            · obtain rfl : q = (.slice o1 m cap, rest.take m) := by simpa using hq
              exact hr1
#print axioms rmsgs_any
end Go.Proofs.Ythfmpnikchlhlaa
