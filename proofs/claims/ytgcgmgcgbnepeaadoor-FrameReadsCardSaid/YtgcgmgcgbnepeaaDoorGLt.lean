/- law 6: light: are frames few, and short? -/
import Derived.Test.YtgcgmgcgbnepeaaDoorGW5
namespace Go.Proofs.YtgcgmgcgbnepeaaDoor
open Go Go.RowKit

/-- Few and short. -/
def LightP (l : List Fe) : Prop := l.length ≤ 30 ∧ ∀ e ∈ l, e.f.sp.length ≤ 50 ∧ e.f.d.length ≤ 1100
def LightPost (w : World) (l : List Fe) (e : Ending) (w' : World) : Prop := ∃ b : Bool, e = .returned (.bool b) ∧ (b = true → LightP l) ∧ w = w'
theorem lpost {w : World} {l : List Fe} {b : Bool} (h : b = true → LightP l) : LightPost w l (.returned (.bool b)) w := ⟨b, rfl, h, rfl⟩
theorem Rd.le63 {w : World} {v : Value} {zs : List Int} (h : Rd w v zs) : zs.length ≤ 9223372036854775807 := h.len
theorem Rs.le63 {w : World} {v : Value} {S : List Sp} (h : Rs w v S) : S.length ≤ 9223372036854775807 := by
  obtain ⟨_, _, _, h1, h2, _⟩ := h; unfold maxLen at h2; omega
set_option maxRecDepth 20000 in
set_option maxHeartbeats 4000000 in
theorem light_any {w : World} {v : Value} {l : List Fe} (h : Fl w v l) : Calls Tryd.prog 9 #[v] w (LightPost w l) := by
  have HF := Lib.hid h
  have hlm : l.length ≤ 9223372036854775807 := by obtain ⟨_, _, _, h1, h2, _⟩ := h.sl; unfold maxLen at h2; omega
  obtain ⟨ao, cap, rfl⟩ := h.shape
  clear h
  by_cases h30 : 30 < l.length
  · have h30' : (30 : Int) < (l.length : Int) := by omega
    go_enter Tryd.func9, Tryd.ntmps9
    go_wp2_with fail
    go_ret
    exact lpost (by simp)
  · have h30' : (l.length : Int) ≤ 30 := by omega
    go_enter Tryd.func9, Tryd.ntmps9
    go_wp2_with fail
    go_loop [3] (fun i => ∃ k : Nat, i = .int .i64 k ∧ k ≤ l.length ∧ Hid (∀ e ∈ l.take k, e.f.sp.length ≤ 50 ∧ e.f.d.length ≤ 1100)) (fun i => l.length - (intOf i).toNat)
    case atStart => exact ⟨0, rfl, by omega, Lib.hid (by simp)⟩
    case round =>
      obtain ⟨k, rfl, hk, hok⟩ := hrel
      have hk' : (k : Int) ≤ (l.length : Int) := by omega
      by_cases hlt : k < l.length
      · have hlt' : (k : Int) < (l.length : Int) := by omega
        obtain ⟨b, off, cap', e0, hb, hat⟩ := HF.out.at (by omega)
        simp only [Value.slice.injEq] at e0
        obtain ⟨rfl, _, rfl⟩ := e0
        obtain ⟨e, he⟩ : ∃ e, l[k]? = some e := ⟨_, List.getElem?_eq_getElem hlt⟩
        obtain ⟨x0, x1, x2, x3, x4, x5⟩ := hat k e he
        have hfr := HF.out.rd e (List.mem_of_getElem? he)
        have hd63 := hfr.2.le63
        have hs63 := hfr.1.le63
        have HT : Hid (l.take (k + 1) = l.take k ++ [e]) := Lib.hid (by
          obtain ⟨h1, h2⟩ := List.getElem?_eq_some_iff.1 he
          rw [List.take_succ_eq_append_getElem h1, h2])
        obtain ⟨⟨fk, fc, fsp, fa, fd, ft⟩, sv, dv⟩ := e
        have hs1 : Rs w sv fsp := hfr.1
        have hd1 : Rd w dv fd := hfr.2
        obtain ⟨sa, sn, rfl⟩ := rs_shape hs1
        obtain ⟨da, dn, rfl⟩ := hd1.shape
        simp only at x2 x4 hd63 hs63
        clear x0 x1 x3 x5 hat hfr hs1 hd1 he
        generalize hn : fsp.length = n at *
        generalize hm : fd.length = m at *
        have HN := Lib.hid hn
        have HM := Lib.hid hm
        clear hn hm
        have hk0 : k = 0 ∨ 0 < k := by omega
        by_cases q1 : 50 < n
        · have q1' : (50 : Int) < (n : Int) := by omega
          rcases hk0 with rfl | hk0
          · simp only [Nat.zero_mul, Nat.add_zero] at x2 x4
            go_wp2_with fail
            go_ret
            exact lpost (by simp)
          · go_wp2_with fail
            go_ret
            exact lpost (by simp)
        · have q1' : ¬ (50 : Int) < (n : Int) := by omega
          by_cases q2 : 1100 < m
          · have q2' : (1100 : Int) < (m : Int) := by omega
            rcases hk0 with rfl | hk0
            · simp only [Nat.zero_mul, Nat.add_zero] at x2 x4
              go_wp2_with fail
              go_ret
              exact lpost (by simp)
            · go_wp2_with fail
              go_ret
              exact lpost (by simp)
          · have q2' : ¬ (1100 : Int) < (m : Int) := by omega
            have HNX : Hid (∀ x ∈ l.take (k + 1), x.f.sp.length ≤ 50 ∧ x.f.d.length ≤ 1100) := Lib.hid (by
              intro x hx
              rw [HT.out] at hx
              rcases List.mem_append.1 hx with hx | hx
              · exact hok.out x hx
              · obtain rfl := List.mem_singleton.1 hx
                exact ⟨by simp only [HN.out]; omega, by simp only [HM.out]; omega⟩)
            clear q1 q2
            rcases hk0 with rfl | hk0
            · simp only [Nat.zero_mul, Nat.add_zero] at x2 x4
              go_wp2_with fail
              go_round
              case rel => exact ⟨1, by go_num, by omega, HNX.out |> Lib.hid⟩
              case measure => simp [intOf]; omega
            · go_wp2_with fail
              go_round
              case rel => exact ⟨k + 1, by go_num, by omega, HNX.out |> Lib.hid⟩
              case measure => simp [intOf]; omega
      · obtain rfl : k = l.length := by omega
        go_wp2_with fail
        go_ret
        refine lpost fun _ => ⟨by omega, ?_⟩
        have := hok.out
        rwa [List.take_length] at this
#print axioms light_any
end Go.Proofs.YtgcgmgcgbnepeaaDoor
