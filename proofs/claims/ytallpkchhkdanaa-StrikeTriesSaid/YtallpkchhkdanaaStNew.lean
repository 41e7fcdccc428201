/- strike: the program's New, Many; Try whatever the times; what the chapter's example says. -/
import Derived.Test.YtallpkchhkdanaaStTry
namespace Go.Proofs.Ytallpkchhkdanaa
open Go Go.RowKit
open Go.Maps (Keyed)

def winN (n : Int) : Int := if n < 0 then 0 else n
def roomN (n : Int) : Int := if n < 0 then 0 else if 65536 < n then 65536 else n
abbrev newW (w : World) (a b : Int) : World := (w.alloc (.map #[] 0)).alloc (.cells #[.int .i64 a, .int .i64 b, .map (some w.heap.size), .int .i64 9223372036854775807] 60)
theorem new_st (w : World) {a b : Int} (h0 : 0 ≤ a) (h1 : a ≤ 9223372036854775807) : St (newW w a b) (w.heap.size + 1) w.heap.size a b [] := by
  refine ⟨⟨h0, h1⟩, OkL.nil, by omega, 9223372036854775807, .map [], ?_, ?_, SaysL.nil, (fun p h => by cases h), by decide, by decide⟩
  · have := heap_alloc_new (w.alloc (.map #[] 0)) (.cells #[.int .i64 a, .int .i64 b, .map (some w.heap.size), .int .i64 9223372036854775807] 60)
    rw [World.size_alloc] at this
    exact this
  · exact (World.ownsMap_made _ _ _ _).alloc _
theorem new_below (w : World) (a b : Int) : Below w.heap.size w (newW w a b) :=
  (below_alloc w _).trans ((below_alloc _ _).mono (below_alloc w (.map #[] 0)).size)
set_option maxHeartbeats 1000000 in
theorem new_eq (w : World) (a b : Int) : Calls Try.prog 9 #[.int .i64 a, .int .i64 b] w fun e w' => e = .returned (.pointer (some ⟨w.heap.size + 1, 0, none⟩)) ∧ w' = newW w (winN a) (roomN b) := by
  have hmm := @run_makeMap Try.prog
  unfold winN roomN
  by_cases h1 : a < 0
  · have m1 : max a 0 = 0 := by omega
    rw [if_pos h1]
    by_cases h2 : b < 0
    · rw [if_pos h2]
      go_enter Try.func9, Try.ntmps9
      go_wp2_with fail
      go_ret
      exact ⟨rfl, rfl⟩
    · rw [if_neg h2]
      by_cases h3 : 65536 < b
      · rw [if_pos h3]
        have h2' : 0 ≤ b := by omega
        have h3' : ¬ b ≤ 65536 := by omega
        go_enter Try.func9, Try.ntmps9
        go_wp2_with fail
        go_ret
        exact ⟨rfl, rfl⟩
      · rw [if_neg h3]
        have h2' : 0 ≤ b := by omega
        have h3' : b ≤ 65536 := by omega
        go_enter Try.func9, Try.ntmps9
        go_wp2_with fail
        go_ret
        exact ⟨rfl, rfl⟩
  · rw [if_neg h1]
    have h1' : 0 ≤ a := by omega
    by_cases h2 : b < 0
    · rw [if_pos h2]
      go_enter Try.func9, Try.ntmps9
      go_wp2_with fail
      go_ret
      exact ⟨rfl, rfl⟩
    · rw [if_neg h2]
      by_cases h3 : 65536 < b
      · rw [if_pos h3]
        have h2' : 0 ≤ b := by omega
        have h3' : ¬ b ≤ 65536 := by omega
        go_enter Try.func9, Try.ntmps9
        go_wp2_with fail
        go_ret
        exact ⟨rfl, rfl⟩
      · rw [if_neg h3]
        have h2' : 0 ≤ b := by omega
        have h3' : b ≤ 65536 := by omega
        go_enter Try.func9, Try.ntmps9
        go_wp2_with fail
        go_ret
        exact ⟨rfl, rfl⟩
theorem many_any {w : World} {B mb : Nat} {win room : Int} {L : List Sp} (h : St w B mb win room L) : Calls Try.prog 13 #[.pointer (some ⟨B, 0, none⟩)] w fun e w' => e = .returned (.int .i64 L.length) ∧ w = w' := by
  obtain ⟨o, D, hbox, hmap, hsay, _⟩ := h.inner
  obtain ⟨_, _, c2, _, _⟩ := box_cells hbox
  have hlen : ∀ ty, (Builtin.len_ #[58] ty #[.map (some mb)]).run Try.prog w = .ok (.int .i64 L.length) w := fun ty => by
    rw [← hsay.size]; exact hmap.len Try.underlying58 ty
  clear h hbox hmap hsay
  go_enter Try.func13, Try.ntmps13
  go_wp2_with fail
  go_ret
  exact ⟨rfl, rfl⟩
theorem many_nil (w : World) : Calls Try.prog 13 #[.pointer none] w fun e w' => e = .returned (.int .i64 0) ∧ w = w' := by
  go_enter Try.func13, Try.ntmps13
  go_wp2_with fail
  go_ret
  exact ⟨rfl, rfl⟩
theorem try_any {w : World} {B mb : Nat} {win room : Int} {L : List Sp} (h : St w B mb win room L) (hl : L.length ≤ 100000) {n made now : Int} (hn : i64 n) (hm : i64 made) (hw : i64 now) :
    Calls Try.prog 11 #[.pointer (some ⟨B, 0, none⟩), .int .i64 n, .int .i64 made, .int .i64 now] w fun e w' => e = .returned (.int .i64 (tryE win room L n made now)) ∧ St w' B mb win room (tryL win room L n made now) ∧ Bt B mb w w' := by
  unfold i64 at hm hw
  by_cases h1 : made < 0 ∨ now < 0
  · refine (try_arg (p := some ⟨B, 0, none⟩) (n := n) (Or.inr h1)).mono fun e w' ⟨he, e2⟩ => ?_
    subst e2
    unfold tryE tryL
    rw [if_pos h1, if_pos h1]
    exact ⟨he, h, Bt.refl _ _ _⟩
  · by_cases h2 : now < made ∨ win < now - made
    · refine (try_old h (n := n) (by omega) hm.2 (by omega) hw.2 h2).mono fun e w' ⟨he, e2⟩ => ?_
      subst e2
      unfold tryE tryL
      rw [if_neg h1, if_neg h1, if_pos h2, if_pos h2]
      exact ⟨he, h, Bt.refl _ _ _⟩
    · exact try_in h hn (by omega) hm.2 (by omega) hw.2 h2 hl
theorem try_to {w : World} {B mb : Nat} {win room : Int} {L M : List Sp} {E : Int} (h : St w B mb win room L) (hl : L.length ≤ 100000) {n made now : Int} (hn : i64 n) (hm : i64 made) (hw : i64 now) (e : tryE win room L n made now = E ∧ tryL win room L n made now = M) :
    Calls Try.prog 11 #[.pointer (some ⟨B, 0, none⟩), .int .i64 n, .int .i64 made, .int .i64 now] w fun e w' => e = .returned (.int .i64 E) ∧ St w' B mb win room M ∧ Bt B mb w w' := by
  have := try_any h hl hn hm hw
  rw [e.1, e.2] at this
  exact this
theorem ex_1 : tryE 5 1 [] 7 10 10 = 0 ∧ tryL 5 1 [] 7 10 10 = [(7, 10)] := by decide
theorem ex_2 : tryE 5 1 [(7, 10)] 7 10 12 = 10 ∧ tryL 5 1 [(7, 10)] 7 10 12 = [(7, 10)] := by decide
theorem ex_3 : tryE 5 1 [(7, 10)] 8 16 16 = 0 ∧ tryL 5 1 [(7, 10)] 8 16 16 = [(8, 16)] := by decide
theorem dec64 {n : Int} (h : (decide (-9223372036854775808 ≤ n) && decide (n ≤ 9223372036854775807)) = true) : i64 n := by
  unfold i64; simpa using h
set_option maxHeartbeats 1000000 in
theorem sawake_any (w : World) : Calls Try.prog 14 #[] w fun e w' => e = .returned (.bool true) ∧ Below w.heap.size w w' := by
  have hnew := new_eq w 5 1
  rw [show winN 5 = 5 by decide, show roomN 1 = 1 by decide] at hnew
  have hS := new_st w (a := 5) (b := 1) (by decide) (by decide)
  have HB := Lib.hid (new_below w 5 1)
  go_enter Try.func14, Try.ntmps14
  go_wp2_with (first
    | (go_at_call 9; refine hnew.mono ?_; rintro e w1 ⟨rfl, rfl⟩)
    | (go_at_call 13; refine (many_any hS3).mono ?_; rintro e w4 ⟨rfl, rfl⟩)
    | (go_at_call 11; refine (try_to hS2 (by simp) (dec64 rfl) (dec64 rfl) (dec64 rfl) ex_3).mono ?_; rintro e w3 ⟨rfl, hS3, hb3⟩)
    | (go_at_call 11; refine (try_to hS1 (by simp) (dec64 rfl) (dec64 rfl) (dec64 rfl) ex_2).mono ?_; rintro e w3 ⟨rfl, hS2, hb2⟩)
    | (go_at_call 11; refine (try_to hS (by simp) (dec64 rfl) (dec64 rfl) (dec64 rfl) ex_1).mono ?_; rintro e w3 ⟨rfl, hS1, hb1⟩))
  go_ret
  refine ⟨rfl, ?_⟩
  have hs := HB.out.size
  exact ((hb1.trans hb2).trans hb3).below HB.out (by omega) (Nat.le_refl _) hs
end Go.Proofs.Ytallpkchhkdanaa
