/- The reference's Text and Secret; the first same node is the program's. -/
import Derived.Test.YtbhfilmbokaboaaRadd
namespace Go.Proofs.Ytbhfilmbokaboaa
open Go Go.RowKit

/-- What the reference's calls leave that put a node in. -/
def RPut (w : World) (B rb : Nat) (nv : Value) (L : List (Nd × Value)) (n : Nd) (e : Ending) (w' : World) : Prop :=
  (∃ c, idxR 1 (nds L) n = some c ∧ e = .returned (.int .i64 c) ∧ Below w.heap.size w w') ∨
  (idxR 1 (nds L) n = none ∧ e = .returned (.int .i64 ((L.length : Int) + 1)) ∧ ∃ nv' pv, RTbl w' B rb nv' (L ++ [(n, pv)]) ∧ Frm rb rb nv w w' ∧ Moved w nv nv')
theorem RPut.val {w : World} {B rb : Nat} {nv : Value} {L : List (Nd × Value)} {n : Nd} {e : Ending} {w' : World} (h : RPut w B rb nv L n e w') : ∃ z, e = .returned (.int .i64 z) := by
  rcases h with ⟨c, _, e, _⟩ | ⟨_, e, _⟩
  · exact ⟨c, e⟩
  · exact ⟨_, e⟩

set_option maxHeartbeats 400000 in
set_option maxRecDepth 20000 in
theorem rtext_any {w : World} {B rb : Nat} {nv : Value} {L : List (Nd × Value)} (h : RTbl w B rb nv L) (s : ByteArray) (hs : s.size ≤ 2048) (hroom : L.length < 65536) :
    Calls Try.prog 55 #[.pointer (some ⟨rb, 0, none⟩), .string s] w fun e w' => RPut w B rb nv L (1, s, []) e w' := by
  have hA := radd_any h 1 s [] (.slice none 0 0) (World.ownsRow_nil _ _ _ _) hroom
  have hd : decide ((2048 : Int) < (s.size : Int)) = false := by rw [decide_eq_false_iff_not]; omega
  have hsI : ¬ ((2048 : Int) < (s.size : Int)) := by omega
  clear h hroom
  go_enter Try.func55, Try.ntmps55
  go_wp2_with fail
  refine hA.mono ?_
  intro e w1 h1
  have h2 : RPut w B rb nv L (1, s, []) e w1 := by
    rcases h1 with h1 | ⟨h1, h2, nv', h3⟩
    · exact .inl h1
    · exact .inr ⟨h1, h2, nv', _, h3⟩
  obtain ⟨z, rfl⟩ := h2.val
  have H2 := Lib.hid h2
  clear h1 h2 hA
  go_wp2_with fail
  go_ret
  exact H2.out
set_option maxHeartbeats 400000 in
set_option maxRecDepth 20000 in
theorem rsecret_any {w : World} {B rb : Nat} {nv : Value} {L : List (Nd × Value)} (h : RTbl w B rb nv L) (hroom : L.length < 65536) :
    Calls Try.prog 56 #[.pointer (some ⟨rb, 0, none⟩)] w fun e w' => RPut w B rb nv L secretNd e w' := by
  have hA := radd_any h 2 ByteArray.empty [] (.slice none 0 0) (World.ownsRow_nil _ _ _ _) hroom
  clear h hroom
  go_enter Try.func56, Try.ntmps56
  go_wp2_with fail
  refine hA.mono ?_
  intro e w1 h1
  have h2 : RPut w B rb nv L secretNd e w1 := by
    rcases h1 with h1 | ⟨h1, h2, nv', h3⟩
    · exact .inl h1
    · exact .inr ⟨h1, h2, nv', _, h3⟩
  obtain ⟨z, rfl⟩ := h2.val
  have H2 := Lib.hid h2
  clear h1 h2 hA
  go_wp2_with fail
  go_ret
  exact H2.out
/-- The first same node, in both tables' words. -/
theorem idxR_N (N : List Nd) (n : Nd) (hN : ∀ m ∈ N, ∀ p ∈ m.2.2, 1 ≤ p) (hn : ∀ p ∈ n.2.2, 1 ≤ p) (i : Int) : idxR i N n = idxN i N n := by
  induction N generalizing i with
  | nil => rfl
  | cons m r ih =>
    have e : (sameN m n = true) ↔ (m.1 = n.1 ∧ m.2.1 = n.2.1 ∧ pad m.2.2 = pad n.2.2 ∧ n.1 ≠ 2) := by
      simp only [sameN, Bool.and_eq_true, decide_eq_true_eq, Bool.not_eq_true', decide_eq_false_iff_not]
      constructor
      · rintro ⟨⟨⟨h1, h2⟩, h3⟩, h4⟩
        exact ⟨h2, h3, by rw [h4], fun e => h1 (h2.trans e)⟩
      · rintro ⟨h1, h2, h3, h4⟩
        exact ⟨⟨⟨fun e => h4 (h1.symm.trans e), h1⟩, h2⟩, pad_inj (hN m List.mem_cons_self) hn h3⟩
    unfold idxR idxN
    rw [ih (fun m' hm' => hN m' (List.mem_cons_of_mem _ hm'))]
    by_cases h : sameN m n = true
    · rw [if_pos h, if_pos (e.1 h)]
    · rw [if_neg h, if_neg (fun h' => h (e.2 h'))]
#print axioms rtext_any
#print axioms idxR_N
end Go.Proofs.Ytbhfilmbokaboaa
