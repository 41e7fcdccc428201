/- asks tells of which kind each part of a term has to be. -/
import Derived.Test.YtmplcibaoanlnaaSmall
namespace Go.Proofs.Ytmplcibaoanlnaa
open Go Go.RowKit

theorem info3 : (Try.prog.info? 3).map (fun i => (i.zero, i.size, i.bytes)) = some (some (.int .i64 0), 1, 8) := by kernel_rfl
/-- The kinds that the parts of a term of kind k have to be of, where n parts are given: 0 stands for any. -/
def askL (k : Int) (n : Nat) : Option (List Int) :=
  if k = 3 then if 16 < n then none else some (List.replicate n 0)
  else if k = 4 then some [0] else if k = 5 then some [0, 0] else if k = 6 ∨ k = 10 then some [0, 1, 0]
  else if k = 7 then some [2] else if k = 8 then some [2, 7] else if k = 9 then some [2, 0] else none

/-- What asks leaves. -/
def Asked (w : World) (r : Option (List Int)) (e : Ending) (w' : World) : Prop :=
  Below w.heap.size w w' ∧ match r with
    | none => e = .returned (.tuple #[.slice none 0 0, .bool false])
    | some l => ∃ v, e = .returned (.tuple #[v, .bool true]) ∧ Rd .i64 w' v l

set_option maxHeartbeats 1000000 in
set_option maxRecDepth 20000 in
theorem asks_any {w : World} (k : Int) (n : Nat) (hn : n ≤ 1000000) : Calls Try.prog 32 #[.int .i64 k, .int .i64 n] w fun e w' => Asked w (askL k n) e w' := by
  by_cases h3 : k = 3
  · subst h3
    by_cases h16 : 16 < n
    · have E : Hid (askL 3 n = none) := Lib.hid (by simp [askL, h16])
      have h16' : (16 : Int) < (n : Int) := by omega
      clear h16
      go_enter Try.func32, Try.ntmps32
      go_wp2
      go_ret2
      rw [E.out]
      exact ⟨Below.refl _ _, rfl⟩
    · have E : Hid (askL 3 n = some (List.replicate n 0)) := Lib.hid (by simp [askL, h16])
      have h16' : ¬ (16 : Int) < (n : Int) := by omega
      clear h16
      obtain ⟨i, hi, hz0, hz1, hz2⟩ := info_parts info3
      go_enter Try.func32, Try.ntmps32
      go_wp2_with (at_make; refine wpList_make_full _ rfl _ _ 59 rfl w.heap.size 3 i (.int .i64 0) 1 Try.underlying59 hi hz0 hz1 .i64 .i64 _ _ n rfl rfl rfl rfl (by rw [hz2]; omega) (by unfold maxLen; omega) (Nat.le_refl _) ?_; intro w1 hown1 hg1)
      go_ret2
      rw [E.out]
      refine ⟨below_made hg1, _, rfl, ?_⟩
      have e : (madeCells (Value.int .i64 0).cells (n * 1)).toList = cs .i64 (List.replicate n 0) := by
        rw [Nat.mul_one]; exact (toList_madeCells_one _ n).trans (by simp [cs])
      rw [e] at hown1
      exact (Rd.of_own hown1).1
  · have lit : ∀ (l : List Int), l.length ≤ 1000 → Rd .i64 (w.alloc (.cells (cs .i64 l).toArray 3)) (.slice (some ⟨w.heap.size, 0, none⟩) l.length l.length) l := fun l hl => Rd.lit .i64 3 w l hl
    have LIT := Lib.hid lit
    clear lit
    by_cases h4 : k = 4
    · subst h4
      have E : Hid (askL 4 n = some [0]) := Lib.hid (by simp [askL])
      clear h3
      go_enter Try.func32, Try.ntmps32
      go_wp2
      go_ret2
      rw [E.out]
      exact ⟨below_alloc _ _, _, rfl, LIT.out [0] (by decide)⟩
    · by_cases h5 : k = 5
      · subst h5
        have E : Hid (askL 5 n = some [0, 0]) := Lib.hid (by simp [askL])
        clear h3 h4
        go_enter Try.func32, Try.ntmps32
        go_wp2
        go_ret2
        rw [E.out]
        exact ⟨below_alloc _ _, _, rfl, LIT.out [0, 0] (by decide)⟩
      · by_cases h6 : k = 6
        · subst h6
          have E : Hid (askL 6 n = some [0, 1, 0]) := Lib.hid (by simp [askL])
          clear h3 h4 h5
          go_enter Try.func32, Try.ntmps32
          go_wp2
          go_ret2
          rw [E.out]
          exact ⟨below_alloc _ _, _, rfl, LIT.out [0, 1, 0] (by decide)⟩
        · by_cases h10 : k = 10
          · subst h10
            have E : Hid (askL 10 n = some [0, 1, 0]) := Lib.hid (by simp [askL])
            clear h3 h4 h5 h6
            go_enter Try.func32, Try.ntmps32
            go_wp2
            go_ret2
            rw [E.out]
            exact ⟨below_alloc _ _, _, rfl, LIT.out [0, 1, 0] (by decide)⟩
          · by_cases h7 : k = 7
            · subst h7
              have E : Hid (askL 7 n = some [2]) := Lib.hid (by simp [askL])
              clear h3 h4 h5 h6 h10
              go_enter Try.func32, Try.ntmps32
              go_wp2
              go_ret2
              rw [E.out]
              exact ⟨below_alloc _ _, _, rfl, LIT.out [2] (by decide)⟩
            · by_cases h8 : k = 8
              · subst h8
                have E : Hid (askL 8 n = some [2, 7]) := Lib.hid (by simp [askL])
                clear h3 h4 h5 h6 h10 h7
                go_enter Try.func32, Try.ntmps32
                go_wp2
                go_ret2
                rw [E.out]
                exact ⟨below_alloc _ _, _, rfl, LIT.out [2, 7] (by decide)⟩
              · by_cases h9 : k = 9
                · subst h9
                  have E : Hid (askL 9 n = some [2, 0]) := Lib.hid (by simp [askL])
                  clear h3 h4 h5 h6 h10 h7 h8
                  go_enter Try.func32, Try.ntmps32
                  go_wp2
                  go_ret2
                  rw [E.out]
                  exact ⟨below_alloc _ _, _, rfl, LIT.out [2, 0] (by decide)⟩
                · have E : Hid (askL k n = none) := Lib.hid (by simp [askL, h3, h4, h5, h6, h7, h8, h9, h10])
                  have b3 : (k == 3) = false := beq_eq_false_iff_ne.2 h3
                  have b4 : (k == 4) = false := beq_eq_false_iff_ne.2 h4
                  have b5 : (k == 5) = false := beq_eq_false_iff_ne.2 h5
                  have b6 : (k == 6) = false := beq_eq_false_iff_ne.2 h6
                  have b7 : (k == 7) = false := beq_eq_false_iff_ne.2 h7
                  have b8 : (k == 8) = false := beq_eq_false_iff_ne.2 h8
                  have b9 : (k == 9) = false := beq_eq_false_iff_ne.2 h9
                  have b10 : (k == 10) = false := beq_eq_false_iff_ne.2 h10
                  clear h3 h4 h5 h6 h7 h8 h9 h10
                  go_enter Try.func32, Try.ntmps32
                  go_wp2
                  go_ret2
                  rw [E.out]
                  exact ⟨Below.refl _ _, rfl⟩
#print axioms asks_any
end Go.Proofs.Ytmplcibaoanlnaa
