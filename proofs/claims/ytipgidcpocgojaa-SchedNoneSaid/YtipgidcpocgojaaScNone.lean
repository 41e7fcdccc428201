/- SchedNone's walk: of terms that are none nothing is derived. -/
import Derived.Test.YtipgidcpocgojaaSc3
namespace Go.Proofs.Ytipgidcpocgojaa
open Go Go.RowKit

set_option maxRecDepth 20000 in
set_option maxHeartbeats 1600000 in
theorem snone_main (h x : Int) (hx : Hid (Far x)) (hc : (decide (0 ≤ h) = true ∧ decide (h ≤ 100) = true ∧ x = 0) ∨ (decide (0 ≤ h) = false ∧ x = h) ∨ (decide (0 ≤ h) = true ∧ decide (h ≤ 100) = false ∧ x = h)) (w : World) :
    Calls Try.prog 7 #[.int .i64 h] w fun e w' => e = .returned (.bool true) ∧ Below w.heap.size w w' := by
  rcases hc with ⟨t0, t1, rfl⟩ | ⟨t0, rfl⟩ | ⟨t0, t1, rfl⟩
  all_goals
    go_enter Try.func7, Try.ntmps7
    go_wp2_with fail
    refine (St.new w).mono ?_
    rintro e w1 ⟨tb, mb, rfl, s1⟩
    go_wp2_with fail
    refine (s1.secret (by simp) (z := 1) rfl).mono ?_
    rintro e w2 ⟨rfl, s2⟩
    clear s1
    go_wp2_with fail
    refine (shakenTraffic_none s2 1 _ (.inr hx.out) (n := 1) (by simp) (by omega)).mono ?_
    rintro e w3 ⟨rfl, m3⟩
    clear s2
    obtain ⟨N3, n3, s3⟩ := m3
    have HN3 := Lib.hid n3
    have n3' : N3.length < 65536 := by omega
    clear n3
    go_wp2_with fail
    refine (s3.beginS n3').mono ?_
    rintro e w4 ⟨rfl, s4⟩
    clear s3 n3'
    have n4 : (textN N3 ByteArray.empty).2.length ≤ 8 := by
      have := textN_len N3 ByteArray.empty
      have := HN3.out
      omega
    generalize textN N3 ByteArray.empty = T at *
    obtain ⟨N4, hN4⟩ : ∃ N4, N4 = T.2 := ⟨_, rfl⟩
    rw [← hN4] at s4 n4
    have HN4 := Lib.hid n4
    clear n4 hN4
    go_wp2_with fail
    refine (mainTraffic_none s4 _ _ (.inl hx.out) HN4.out (by omega)).mono ?_
    rintro e w5 ⟨rfl, N5, n5, s5⟩
    have HN5 := Lib.hid n5
    clear s4 n5
    go_wp2_with fail
    refine (next_none s5 _ hx.out HN5.out (by omega)).mono ?_
    rintro e w6 ⟨rfl, N6, n6, s6⟩
    have HN6 := Lib.hid n6
    clear s5 n6
    go_wp2_with fail
    refine (main_none s6 _ hx.out HN6.out (by omega)).mono ?_
    rintro e w7 ⟨rfl, N7, n7, s7⟩
    have HN7 := Lib.hid n7
    clear s6 n7
    go_wp2_with fail
    refine (finished_none s7 _ _ hx.out HN7.out (by omega)).mono ?_
    rintro e w8 ⟨rfl, N8, n8, s8⟩
    have HN8 := Lib.hid n8
    clear s7 n8
    go_wp2_with fail
    refine (signed_none s8 _ hx.out HN8.out (by omega)).mono ?_
    rintro e w9 ⟨rfl, N9, n9, s9⟩
    have HN9 := Lib.hid n9
    clear s8 n9
    go_wp2_with fail
    refine (resume_none s9 _ _ (.inl hx.out) HN9.out (by omega)).mono ?_
    rintro e w10 ⟨rfl, N10, n10, s10⟩
    have HN10 := Lib.hid n10
    clear s9 n10
    go_wp2_with fail
    refine (shaken_none s10 _ _ hx.out HN10.out (by omega)).mono ?_
    rintro e w11 ⟨rfl, N11, n11, s11⟩
    have HB := Lib.hid s11.bel
    clear s10 n11 s11
    go_wp2_with fail
    refine (awake15 w11).mono ?_
    rintro e w12 ⟨rfl, b12⟩
    go_wp2_with fail
    go_ret
    exact ⟨rfl, HB.out.trans (b12.mono HB.out.size)⟩
theorem snone_walk (h : Int) (w : World) :
    Calls Try.prog 7 #[.int .i64 h] w fun e w' => e = .returned (.bool true) ∧ Below w.heap.size w w' := by
  by_cases h0 : 0 ≤ h
  · by_cases h1 : h ≤ 100
    · exact snone_main h 0 (Lib.hid far0) (.inl ⟨decide_eq_true h0, decide_eq_true h1, rfl⟩) w
    · exact snone_main h h (Lib.hid (.inr (by omega))) (.inr (.inr ⟨decide_eq_true h0, decide_eq_false h1, rfl⟩)) w
  · exact snone_main h h (Lib.hid (.inl (by omega))) (.inr (.inl ⟨decide_eq_false h0, rfl⟩)) w
#print axioms snone_walk
end Go.Proofs.Ytipgidcpocgojaa
