/- header.Read: its results, as the four boxes hold them; its door. -/
import Derived.Test.YtgnjmmaahpngpaaDoorHRead
namespace Go.Proofs.YtgnjmmaahpngpaaDoor
open Go Go.RowKit

theorem laid_ra {w : World} {H lo : Nat} (hl : H + 4 ≤ lo) {v : Value} {zs : List Int} (h : Ra lo w v zs) (c0 c1 c2 c3 c4 c5 c6 c7 s e x : Value) :
    Ra lo ((((((((((((w.setCell ⟨H, 0, none⟩ c0).setCell ⟨H, 1, none⟩ c1).setCell ⟨H, 2, none⟩ c2).setCell ⟨H, 3, none⟩ c3).setCell ⟨H, 4, none⟩ c4).setCell ⟨H, 5, none⟩ c5).setCell ⟨H, 6, none⟩ c6).setCell ⟨H, 7, none⟩ c7).setCell ⟨H + 1, 0, none⟩ s).setCell ⟨H + 2, 0, none⟩ e).setCell ⟨H + 3, 0, none⟩ x).drew) v zs :=
  ((((((((((((h.set (p := ⟨H, 0, none⟩) (by simp only; omega) c0).set (p := ⟨H, 1, none⟩) (by simp only; omega) c1).set (p := ⟨H, 2, none⟩) (by simp only; omega) c2).set (p := ⟨H, 3, none⟩) (by simp only; omega) c3).set (p := ⟨H, 4, none⟩) (by simp only; omega) c4).set (p := ⟨H, 5, none⟩) (by simp only; omega) c5).set (p := ⟨H, 6, none⟩) (by simp only; omega) c6).set (p := ⟨H, 7, none⟩) (by simp only; omega) c7).set (p := ⟨H + 1, 0, none⟩) (by simp only; omega) s).set (p := ⟨H + 2, 0, none⟩) (by simp only; omega) e).set (p := ⟨H + 3, 0, none⟩) (by simp only; omega) x).drew)
theorem read_results (tmps : Array Value) (w : World) (H : Nat) (c0 c1 c2 c3 c4 c5 c6 c7 : Value) (s e x : Int) (h2 : tmps[2]?.getD undef = .pointer (some ⟨H, 0, none⟩)) (h3 : tmps[3]?.getD undef = .pointer (some ⟨H + 1, 0, none⟩)) (h4 : tmps[4]?.getD undef = .pointer (some ⟨H + 2, 0, none⟩)) (h5 : tmps[5]?.getD undef = .pointer (some ⟨H + 3, 0, none⟩))
    (hL : Laid H #[c0, c1, c2, c3, c4, c5, c6, c7] (.int .i64 s) (.int .i64 e) (.int .i64 x) w) :
    (results Tryd.f21 tmps).run Tryd.prog w = .ok (.tuple #[.agg #[c0, c1, c2, c3, c4, c5, c6, c7], .int .i64 s, .int .i64 e, .int .i64 x]) w := by
  have hcc := fun i => cell_of_row w H i _ 29 (0, 0) hL.h
  have a0 := hcc 0
  have a1 := hcc 1
  have a2 := hcc 2
  have a3 := hcc 3
  have a4 := hcc 4
  have a5 := hcc 5
  have a6 := hcc 6
  have a7 := hcc 7
  clear hcc
  have b0 := cell_of_row w (H + 1) 0 _ 3 (0, 0) hL.s
  have b1 := cell_of_row w (H + 2) 0 _ 3 (0, 0) hL.e
  have b2 := cell_of_row w (H + 3) 0 _ 33 (0, 0) hL.x
  simp [results, Tryd.results21, h2, h3, h4, h5, asAddr, a0, a1, a2, a3, a4, a5, a6, a7, b0, b1, b2, go_sem]
/-- Behind a return: the results are those that the boxes hold. -/
theorem door_idle (tmps : Array Value) (w : World) (H : Nat) (c0 c1 c2 c3 c4 c5 c6 c7 : Value) (s e x : Int) (h2 : tmps[2]?.getD undef = .pointer (some ⟨H, 0, none⟩)) (h3 : tmps[3]?.getD undef = .pointer (some ⟨H + 1, 0, none⟩)) (h4 : tmps[4]?.getD undef = .pointer (some ⟨H + 2, 0, none⟩)) (h5 : tmps[5]?.getD undef = .pointer (some ⟨H + 3, 0, none⟩))
    (hL : Laid H #[c0, c1, c2, c3, c4, c5, c6, c7] (.int .i64 s) (.int .i64 e) (.int .i64 x) w) {R : Ending → World → Prop} (hR : R (.returned (.tuple #[.agg #[c0, c1, c2, c3, c4, c5, c6, c7], .int .i64 s, .int .i64 e, .int .i64 x])) w) :
    bodyPostD Tryd.prog Tryd.f21 R .ret ⟨tmps, [{ target := Target.fn (Fn.func 26) #[.pointer (some ⟨H, 0, none⟩), .pointer (some ⟨H + 1, 0, none⟩), .pointer (some ⟨H + 2, 0, none⟩), .pointer (some ⟨H + 3, 0, none⟩)], args := #[] }]⟩ w := by
  refine leaves_cons (f := 26) (args := #[.pointer (some ⟨H, 0, none⟩), .pointer (some ⟨H + 1, 0, none⟩), .pointer (some ⟨H + 2, 0, none⟩), .pointer (some ⟨H + 3, 0, none⟩)]) (by simp) (by simp [go_sem]) ?_
  refine (catch_idle H w).mono ?_
  rintro e' u' w'' ⟨rfl, rfl, rfl⟩
  exact ⟨_, read_results tmps w H c0 c1 c2 c3 c4 c5 c6 c7 s e x h2 h3 h4 h5 hL, hR⟩
/-- Behind a panic of an error's number: no header, and the error. -/
theorem door_panic (tmps : Array Value) (w : World) (H : Nat) (k : Int) (hB : Boxes H w) (h2 : tmps[2]?.getD undef = .pointer (some ⟨H, 0, none⟩)) (h3 : tmps[3]?.getD undef = .pointer (some ⟨H + 1, 0, none⟩)) (h4 : tmps[4]?.getD undef = .pointer (some ⟨H + 2, 0, none⟩)) (h5 : tmps[5]?.getD undef = .pointer (some ⟨H + 3, 0, none⟩))
    {R : Ending → World → Prop} (hR : ∀ w', Below H w w' → R (.returned (.tuple #[.agg zcells, .int .i64 0, .int .i64 0, .int .i64 k])) w') :
    bodyPostD Tryd.prog Tryd.f21 R (.panic [{ v := .iface 33 (.int .i64 k), recovered := false }]) ⟨tmps, [{ target := Target.fn (Fn.func 26) #[.pointer (some ⟨H, 0, none⟩), .pointer (some ⟨H + 1, 0, none⟩), .pointer (some ⟨H + 2, 0, none⟩), .pointer (some ⟨H + 3, 0, none⟩)], args := #[] }]⟩ w := by
  refine leaves_cons (f := 26) (args := #[.pointer (some ⟨H, 0, none⟩), .pointer (some ⟨H + 1, 0, none⟩), .pointer (some ⟨H + 2, 0, none⟩), .pointer (some ⟨H + 3, 0, none⟩)]) (by simp) (by simp [go_sem]) ?_
  refine (catch_panicking H w k hB).mono ?_
  rintro e' u' w'' ⟨rfl, rfl, hL, hb⟩
  exact ⟨_, read_results tmps w'' H _ _ _ _ _ _ _ _ 0 0 k h2 h3 h4 h5 hL, hR w'' hb⟩
#print axioms door_idle
#print axioms door_panic
end Go.Proofs.YtgnjmmaahpngpaaDoor
