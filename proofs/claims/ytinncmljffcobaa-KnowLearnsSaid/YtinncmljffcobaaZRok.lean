/- Which parts the reference takes: the same as the program. -/
import Derived.Test.YtinncmljffcobaaZRadd
import Derived.Test.YtinncmljffcobaaZLookNo
namespace Go.Proofs.Ytinncmljffcobaa
open Go Go.RowKit

/-- What the reference's calls leave that put a node in. -/
def RPut (w : World) (B rb : Nat) (nv : Value) (L : List (Nd × Value)) (n : Nd) (e : Ending) (w' : World) : Prop :=
  (∃ c, idxR 1 (nds L) n = some c ∧ e = .returned (.int .i64 c) ∧ Below w.heap.size w w') ∨
  (idxR 1 (nds L) n = none ∧ e = .returned (.int .i64 ((L.length : Int) + 1)) ∧ ∃ nv' pv, RTbl w' B rb nv' (L ++ [(n, pv)]) ∧ Frm rb rb nv w w' ∧ Moved w nv nv' ∧ ∀ g, pv.ownBlock = some g → w.heap.size ≤ g)
theorem RPut.val {w : World} {B rb : Nat} {nv : Value} {L : List (Nd × Value)} {n : Nd} {e : Ending} {w' : World} (h : RPut w B rb nv L n e w') : ∃ z, e = .returned (.int .i64 z) := by
  rcases h with ⟨c, _, e, _⟩ | ⟨_, e, _⟩
  · exact ⟨c, e⟩
  · exact ⟨_, e⟩

set_option maxHeartbeats 400000 in
set_option maxRecDepth 20000 in
theorem rtext_any {w : World} {B rb : Nat} {nv : Value} {L : List (Nd × Value)} (h : RTbl w B rb nv L) (s : ByteArray) (hs : s.size ≤ 2048) (hroom : L.length < 65536) :
    Calls Try.prog 26 #[.pointer (some ⟨rb, 0, none⟩), .string s] w fun e w' => RPut w B rb nv L (1, s, []) e w' := by
  have hA := radd_any h 1 s [] (.slice none 0 0) (World.ownsRow_nil _ _ _ _) hroom
  have hd : decide ((2048 : Int) < (s.size : Int)) = false := by rw [decide_eq_false_iff_not]; omega
  have hsI : ¬ ((2048 : Int) < (s.size : Int)) := by omega
  clear h hroom
  go_enter Try.func26, Try.ntmps26
  go_wp2_with fail
  refine hA.mono ?_
  intro e w1 h1
  have h2 : RPut w B rb nv L (1, s, []) e w1 := by
    rcases h1 with h1 | ⟨h1, h2, nv', h3⟩
    · exact .inl h1
    · exact .inr ⟨h1, h2, nv', _, h3.1, h3.2.1, h3.2.2, fun g hg => by cases hg⟩
  obtain ⟨z, rfl⟩ := h2.val
  have H2 := Lib.hid h2
  clear h1 h2 hA
  go_wp2_with fail
  go_ret
  exact H2.out
set_option maxHeartbeats 400000 in
set_option maxRecDepth 20000 in
theorem rsecret_any {w : World} {B rb : Nat} {nv : Value} {L : List (Nd × Value)} (h : RTbl w B rb nv L) (hroom : L.length < 65536) :
    Calls Try.prog 28 #[.pointer (some ⟨rb, 0, none⟩)] w fun e w' => RPut w B rb nv L secretNd e w' := by
  have hA := radd_any h 2 ByteArray.empty [] (.slice none 0 0) (World.ownsRow_nil _ _ _ _) hroom
  clear h hroom
  go_enter Try.func28, Try.ntmps28
  go_wp2_with fail
  refine hA.mono ?_
  intro e w1 h1
  have h2 : RPut w B rb nv L secretNd e w1 := by
    rcases h1 with h1 | ⟨h1, h2, nv', h3⟩
    · exact .inl h1
    · exact .inr ⟨h1, h2, nv', _, h3.1, h3.2.1, h3.2.2, fun g hg => by cases hg⟩
  obtain ⟨z, rfl⟩ := h2.val
  have H2 := Lib.hid h2
  clear h1 h2 hA
  go_wp2_with fail
  go_ret
  exact H2.out
/-- The first same node, in both tables' words. -/
theorem idxR_N (N : List Nd) (n : Nd) (hN : ∀ m ∈ N, ∀ p ∈ m.2.2, 1 ≤ p) (hn : ∀ p ∈ n.2.2, 1 ≤ p) (i : Int) : idxR i N n = idxN i N n := by
  induction N generalizing i with
  | nil => rfl
  | cons m r ih =>
    have e : (sameN m n = true) ↔ (m.1 = n.1 ∧ m.2.1 = n.2.1 ∧ pad m.2.2 = pad n.2.2 ∧ n.1 ≠ 2) := by
      simp only [sameN, Bool.and_eq_true, decide_eq_true_eq, Bool.not_eq_true', decide_eq_false_iff_not]
      constructor
      · rintro ⟨⟨⟨h1, h2⟩, h3⟩, h4⟩
        exact ⟨h2, h3, by rw [h4], fun e => h1 (h2.trans e)⟩
      · rintro ⟨h1, h2, h3, h4⟩
        exact ⟨⟨⟨fun e => h4 (h1.symm.trans e), h1⟩, h2⟩, pad_inj (hN m List.mem_cons_self) hn h3⟩
    unfold idxR idxN
    rw [ih (fun m' hm' => hN m' (List.mem_cons_of_mem _ hm'))]
    by_cases h : sameN m n = true
    · rw [if_pos h, if_pos (e.1 h)]
    · rw [if_neg h, if_neg (fun h' => h (e.2 h'))]
#print axioms rtext_any
#print axioms idxR_N
end Go.Proofs.Ytinncmljffcobaa
namespace Go.Proofs.Ytinncmljffcobaa
open Go Go.RowKit

def toldN (n m : Nd) : Bool := decide (n.1 = m.1) && decide (n.2.1 = m.2.1) && decide (n.2.2 = m.2.2)
end Go.Proofs.Ytinncmljffcobaa
namespace Go.Proofs.Ytinncmljffcobaa
open Go Go.RowKit

/-- The reference's table behind a call on the program's. -/
theorem RTbl.beside {w w' : World} {B rb : Nat} {nv : Value} {L : List (Nd × Value)} (h : RTbl w B rb nv L) {B' tb mb : Nat} {tv : Value} {M : List (Nd × Value)} {f : Int → ByteArray → List Int → Option Int} (ht : Tbl w B' tb mb tv M f) (hf : Frm tb mb tv w w') : RTbl w' B rb nv L := by
  refine h.same fun k hk => ?_
  have key : ∀ {c : Array Value} {e : TypeId}, w.heap[k]? = some (.cells c e (0, 0)) → e ≠ 61 → e ≠ 53 → w'.heap[k]? = w.heap[k]? := fun {c e} hc h1 h2 =>
    ht.other hf (blk_lt hc) (fun c' fr e' => by rw [hc] at e'; cases e'; exact h1 rfl) (fun c' fr e' => by rw [hc] at e'; cases e'; exact h2 rfl) (fun es c' e' => by rw [hc] at e'; cases e')
  rcases hk with rfl | hk | ⟨p, hp, hk⟩
  · exact key h.tab (by decide) (by decide)
  · obtain ⟨cur, hc⟩ := own_blk h.nodes hk
    exact key hc (by decide) (by decide)
  · obtain ⟨cur, hc⟩ := own_blk (h.parts p hp) hk
    exact key hc (by decide) (by decide)
/-- The program's table behind a call on the reference's. -/
theorem Tbl.beside {w w' : World} {B rb : Nat} {nv : Value} {L : List (Nd × Value)} (h : RTbl w B rb nv L) {B' tb mb : Nat} {tv : Value} {M : List (Nd × Value)} {f : Int → ByteArray → List Int → Option Int} (ht : Tbl w B' tb mb tv M f) (hf : Frm rb rb nv w w') : Tbl w' B' tb mb tv M f := by
  refine ht.same fun k hk => ?_
  have key : ∀ {o : Obj}, w.heap[k]? = some o → (∀ c, o ≠ .cells c 30 (0, 0)) → (∀ c, o ≠ .cells c 69 (0, 0)) → w'.heap[k]? = w.heap[k]? := fun {o} ho h1 h2 => by
    have hne : k ≠ rb := fun e => by
      subst e
      rw [h.tab] at ho; cases ho; exact h1 _ rfl
    refine hf.block k (blk_lt ho) hne hne fun e => ?_
    obtain ⟨cur, hc⟩ := own_blk h.nodes e.symm
    rw [ho] at hc; cases hc; exact h2 _ rfl
  rcases hk with rfl | rfl | hk | ⟨p, hp, hk⟩
  · exact key ht.tab (fun c e => by cases e) (fun c e => by cases e)
  · obtain ⟨D, ⟨es, clock, hb, _⟩, _⟩ := ht.map
    exact key hb (fun c e => by cases e) (fun c e => by cases e)
  · obtain ⟨cur, hc⟩ := own_blk ht.nodes hk
    exact key hc (fun c e => by cases e) (fun c e => by cases e)
  · obtain ⟨cur, hc⟩ := own_blk (ht.parts p hp) hk
    exact key hc (fun c e => by cases e) (fun c e => by cases e)
/-- What a call on the reference's table leaves, told from the base on. -/
theorem RTbl.below {w w' : World} {B rb : Nat} {nv : Value} {L : List (Nd × Value)} (h : RTbl w B rb nv L) (hf : Frm rb rb nv w w') : Below B w w' := by
  refine ⟨hf.os, hf.tape, hf.output, hf.size, fun k hk => ?_⟩
  have h1 := h.brb
  by_cases hkw : k < w.heap.size
  · refine hf.block k hkw (by omega) (by omega) fun e => ?_
    have := (h.nodes.lt k e.symm).1
    omega
  · have h2 := blk_lt h.tab
    omega
#print axioms RTbl.beside
#print axioms Tbl.beside
#print axioms RTbl.below
end Go.Proofs.Ytinncmljffcobaa
namespace Go.Proofs.Ytinncmljffcobaa
open Go Go.RowKit

/-- The reference's switch. -/
def refOk (N : List Nd) (k : Int) (ps : List Int) : Bool :=
  if k = 3 then decide (ps.length ≤ 16) else if k = 4 then decide (ps.length = 1) else if k = 5 then decide (ps.length = 2)
  else if k = 6 ∨ k = 10 then decide (ps.length = 3) && decide (kindN N (ps.getD 1 0) = 1)
  else if k = 7 then decide (ps.length = 1) && decide (kindN N (ps.getD 0 0) = 2)
  else if k = 8 then decide (ps.length = 2) && decide (kindN N (ps.getD 0 0) = 2) && decide (kindN N (ps.getD 1 0) = 7)
  else if k = 9 then decide (ps.length = 2) && decide (kindN N (ps.getD 0 0) = 2) else false

theorem kindN_iff {N : List Nd} (hk : ∀ m ∈ N, m.1 ≠ 0) (p : Int) : kindN N p ≠ 0 ↔ 1 ≤ p ∧ p ≤ (N.length : Int) := by
  constructor
  · intro h
    by_cases h1 : p < 1 ∨ (N.length : Int) < p
    · exact absurd (kindN_out N p h1) h
    · omega
  · rintro ⟨h1, h2⟩
    unfold kindN
    rw [if_neg (by omega)]
    have hlt : (p - 1).toNat < N.length := by omega
    rw [List.getElem?_eq_getElem hlt]
    exact hk _ (List.getElem_mem hlt)
theorem okN_in {N : List Nd} (hk : ∀ m ∈ N, m.1 ≠ 0) (a p : Int) (h : kindN N p ≠ 0) : okN N a p = (decide (a = 0) || decide (a = kindN N p)) := by
  obtain ⟨h1, h2⟩ := (kindN_iff hk p).1 h
  simp [okN, h1, h2]
theorem fits_none {N : List Nd} (hk : ∀ m ∈ N, m.1 ≠ 0) (k : Int) (ps : List Int) (j : Nat) (hj : j < ps.length) (h : kindN N (ps.getD j 0) = 0) : fitsN N k ps = false := by
  unfold fitsN
  cases askL k ps.length with
  | none => rfl
  | some l =>
    simp only [Bool.and_eq_false_iff, decide_eq_false_iff_not]
    refine .inr ?_
    rw [List.all_eq_false]
    refine ⟨j, List.mem_range.2 hj, ?_⟩
    have : ¬ (1 ≤ ps.getD j 0 ∧ ps.getD j 0 ≤ (N.length : Int)) := fun e => (kindN_iff hk _).2 e h
    unfold okN
    simp only [Bool.and_eq_true, decide_eq_true_eq]
    exact fun e => this e.1
theorem fits_ref {N : List Nd} (hk : ∀ m ∈ N, m.1 ≠ 0) (k : Int) (ps : List Int) (hall : ∀ j, j < ps.length → kindN N (ps.getD j 0) ≠ 0) : fitsN N k ps = refOk N k ps := by
  have hok : ∀ a j, j < ps.length → okN N a (ps.getD j 0) = (decide (a = 0) || decide (a = kindN N (ps.getD j 0))) := fun a j hj => okN_in hk a _ (hall j hj)
  clear hall
  unfold fitsN refOk askL
  by_cases h3 : k = 3
  · rw [if_pos h3, if_pos h3]
    by_cases h16 : 16 < ps.length
    · rw [if_pos h16]; exact (decide_eq_false (by omega)).symm
    · rw [if_neg h16]
      rw [decide_eq_true (show ps.length ≤ 16 by omega)]
      simp only [List.length_replicate, decide_true, Bool.true_and, List.all_eq_true, List.mem_range]
      intro j hj
      rw [hok _ j hj]
      simp [List.getD, hj]
  · rw [if_neg h3, if_neg h3]
    have two : ∀ (l : List Int), (decide (l.length = ps.length) && (List.range ps.length).all fun j => okN N (l.getD j 0) (ps.getD j 0)) = (decide (l.length = ps.length) && (List.range ps.length).all fun j => decide (l.getD j 0 = 0) || decide (l.getD j 0 = kindN N (ps.getD j 0))) := fun l => by
      congr 1
      rw [Bool.eq_iff_iff, List.all_eq_true, List.all_eq_true]
      constructor
      · intro h j hj; rw [← hok _ j (List.mem_range.1 hj)]; exact h j hj
      · intro h j hj; rw [hok _ j (List.mem_range.1 hj)]; exact h j hj
    have sw : ∀ n : Nat, decide (n = ps.length) = decide (ps.length = n) := fun n => decide_eq_decide.2 eq_comm
    have one : ∀ (l : List Int) (b : Bool), (ps.length = l.length → ((List.range l.length).all fun j => decide (l.getD j 0 = 0) || decide (l.getD j 0 = kindN N (ps.getD j 0))) = b) →
        (decide (l.length = ps.length) && (List.range ps.length).all fun j => okN N (l.getD j 0) (ps.getD j 0)) = (decide (ps.length = l.length) && b) := fun l b h => by
      rw [two, sw]
      by_cases hl : ps.length = l.length
      · rw [hl, h hl]
      · rw [decide_eq_false hl]; rfl
    have sy : ∀ x y : Int, decide (x = y) = decide (y = x) := fun x y => decide_eq_decide.2 eq_comm
    by_cases h4 : k = 4
    · rw [if_pos h4, if_pos h4]
      exact (one [0] true (fun _ => rfl)).trans (by simp)
    · rw [if_neg h4, if_neg h4]
      by_cases h5 : k = 5
      · rw [if_pos h5, if_pos h5]
        exact (one [0, 0] true (fun _ => rfl)).trans (by simp)
      · rw [if_neg h5, if_neg h5]
        by_cases h6 : k = 6 ∨ k = 10
        · rw [if_pos h6, if_pos h6]
          exact one [0, 1, 0] _ (fun _ => by simp [List.range_succ, sy 1])
        · rw [if_neg h6, if_neg h6]
          by_cases h7 : k = 7
          · rw [if_pos h7, if_pos h7]
            exact one [2] _ (fun _ => by simp [List.range_succ, sy 2])
          · rw [if_neg h7, if_neg h7]
            by_cases h8 : k = 8
            · rw [if_pos h8, if_pos h8, Bool.and_assoc]
              exact one [2, 7] _ (fun _ => by simp [List.range_succ, sy 2, sy 7])
            · rw [if_neg h8, if_neg h8]
              by_cases h9 : k = 9
              · rw [if_pos h9, if_pos h9]
                exact one [2, 0] _ (fun _ => by simp [List.range_succ, sy 2])
              · rw [if_neg h9, if_neg h9]
#print axioms fits_ref
end Go.Proofs.Ytinncmljffcobaa
