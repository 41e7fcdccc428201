/- stream.Put. -/
import Derived.Test.YtfgjlfcadpmkhaaSJoin
namespace Go.Proofs.Ytfgjlfcadpmkhaa
open Go Go.RowKit
variable {gs : List Nat}

theorem ends_gt {E : Int → Option (List Int)} {at' c : Int} {n : Nat} (L : List Int) (h0 : c < at') (h : ∀ x ∈ L, c < x) : c < (ends E at' n L).1 := by
  have key : ∀ (R : List Int), (∀ x ∈ R, c < x) → c < (ends E at' n R.reverse).1 := by
    intro R
    induction R with
    | nil => exact fun _ => h0
    | cons x R ih =>
      intro hR
      rw [List.reverse_cons, ends_snoc]
      have h1 := ih fun s hs => hR s (List.mem_cons_of_mem _ hs)
      have h2 := hR x List.mem_cons_self
      simp only; omega
  have := key L.reverse (fun s hs => h s (List.mem_reverse.1 hs))
  rwa [List.reverse_reverse] at this
theorem ends_lt {E : Int → Option (List Int)} {at' c : Int} {n : Nat} (L : List Int) (h0 : at' + n < c) (h : ∀ x ∈ L, x + (pc E x).length < c) : (ends E at' n L).2 < c := by
  have key : ∀ (R : List Int), (∀ x ∈ R, x + (pc E x).length < c) → (ends E at' n R.reverse).2 < c := by
    intro R
    induction R with
    | nil => exact fun _ => h0
    | cons x R ih =>
      intro hR
      rw [List.reverse_cons, ends_snoc]
      have h1 := ih fun s hs => hR s (List.mem_cons_of_mem _ hs)
      have h2 := hR x List.mem_cons_self
      simp only; omega
  have := key L.reverse (fun s hs => h s (List.mem_reverse.1 hs))
  rwa [List.reverse_reverse] at this
/-- Which pieces a list holds. -/
def Nears (E : Int → Option (List Int)) (at' : Int) (n : Nat) (L : List Int) : Prop := ∀ s, s ∈ L ↔ ∃ l, E s = some l ∧ Touch at' n s l.length
theorem whole_len {E : Int → Option (List Int)} {at' : Int} {zs L : List Int} : (wholeB E at' zs (ends E at' zs.length L).1 ((ends E at' zs.length L).2 - (ends E at' zs.length L).1).toNat L).length = ((ends E at' zs.length L).2 - (ends E at' zs.length L).1).toNat := by
  have hle := ends_le E at' zs.length L
  refine bufK_len L _ ((splice_len ?_).trans (by simp)) (fun s hs => ?_)
  · simp only [List.length_replicate]; omega
  · have := hle.2.2 s hs; omega
theorem pcs_join {t : Nat} {E : Int → Option (List Int)} {at' : Int} {zs L : List Int} (hP : Pcs t E) (hL : Nears E at' zs.length L) (hz : zs ≠ []) (hat : (t : Int) ≤ at' ∧ at' + zs.length ≤ t + 4096) : Pcs t (joinE E at' zs L) := by
  have hzl := List.length_pos_iff.2 hz
  have hle := ends_le E at' zs.length L
  have hin := ends_in (E := E) (t := (t : Int)) (n := zs.length) L hat (fun s hs => by
    obtain ⟨l, hl, _⟩ := (hL s).1 hs
    have := hP.lo s l hl
    simp only [pc, hl, Option.getD_some]
    omega)
  have hw := whole_len (E := E) (at' := at') (zs := zs) (L := L)
  have hout : ∀ s l, E s = some l → s ∉ L → s + l.length < (ends E at' zs.length L).1 ∨ (ends E at' zs.length L).2 < s := by
    intro s l hE hs
    have hpl := hP.lo s l hE
    have hnt : ¬ Touch at' zs.length s l.length := fun h => hs ((hL s).2 ⟨l, hE, h⟩)
    have hcase : s + l.length < at' ∨ at' + zs.length < s := by
      unfold Touch at hnt; omega
    rcases hcase with h | h
    · refine .inl (ends_gt L h fun x hx => ?_)
      obtain ⟨l', hl', ht⟩ := (hL x).1 hx
      rcases Int.lt_trichotomy s x with h1 | h1 | h1
      · exact hP.gap s l x l' hE hl' h1
      · exact absurd (h1 ▸ hx) hs
      · have := hP.gap x l' s l hl' hE h1
        have h2 := ht.2
        omega
    · refine .inr (ends_lt L h fun x hx => ?_)
      obtain ⟨l', hl', ht⟩ := (hL x).1 hx
      simp only [pc, hl', Option.getD_some]
      rcases Int.lt_trichotomy s x with h1 | h1 | h1
      · have := hP.gap s l x l' hE hl' h1
        have h2 := ht.1
        omega
      · exact absurd (h1 ▸ hx) hs
      · exact hP.gap x l' s l hl' hE h1
  refine ⟨fun s l h => ?_, fun s l s' l' h h' hlt => ?_⟩
  · unfold joinE at h
    by_cases h1 : s = (ends E at' zs.length L).1
    · rw [if_pos h1] at h
      cases h
      refine ⟨by omega, fun e => ?_, by rw [hw]; omega⟩
      rw [e] at hw
      simp only [List.length_nil] at hw
      omega
    · rw [if_neg h1] at h
      by_cases h2 : s ∈ L
      · rw [if_pos h2] at h; cases h
      · rw [if_neg h2] at h
        exact hP.lo s l h
  · unfold joinE at h h'
    by_cases h1 : s = (ends E at' zs.length L).1
    · rw [if_pos h1] at h
      cases h
      rw [hw]
      rw [if_neg (by omega)] at h'
      by_cases h2 : s' ∈ L
      · rw [if_pos h2] at h'; cases h'
      · rw [if_neg h2] at h'
        have := hout s' l' h' h2
        have hp := hP.lo s' l' h'
        omega
    · rw [if_neg h1] at h
      by_cases h2 : s ∈ L
      · rw [if_pos h2] at h; cases h
      · rw [if_neg h2] at h
        have ho := hout s l h h2
        by_cases h3 : s' = (ends E at' zs.length L).1
        · omega
        · rw [if_neg h3] at h'
          by_cases h4 : s' ∈ L
          · rw [if_pos h4] at h'; cases h'
          · rw [if_neg h4] at h'
            exact hP.gap s l s' l' h h' hlt

/-- What join does to a stream. -/
def Joined (gs : List Nat) (w : World) (B : Nat) (mo : Option Nat) (t N : Nat) (E : Int → Option (List Int)) (w' : World) : Prop :=
  ∃ mb', St gs w' B (some mb') t N E ∧ (mo = none ∧ w.heap.size ≤ mb' ∧ Chg [B] w w' ∨ mo = some mb' ∧ Chg [mb'] w w')
theorem near_any {w : World} {B t N : Nat} {mo : Option Nat} {E : Int → Option (List Int)} {v : Value} {zs : List Int} (at' : Int) (hN : N ≤ 1000000) (h : St gs w B mo t N E) (hr : Rd w v zs) (hp : Plain v) (h0 : 0 ≤ at' ∧ at' ≤ 2000000000) (hl : zs.length ≤ 1000000) :
    Calls Try.prog 13 #[.pointer (some ⟨B, 0, none⟩), .int .i64 at', v] w (NearPost w at' zs E) := by
  cases mo with
  | none => exact near_none at' h hr
  | some mb => exact near_some at' hN h hr hp h0 hl
theorem join_any {w : World} {B t N base : Nat} {mo : Option Nat} {E : Int → Option (List Int)} {v lv : Value} {zs L : List Int} (at' : Int) (hN : N ≤ 1000000) (h : St gs w B mo t N E) (hr : Rd w v zs) (hp : Plain v) (hL : w.ownsRow base 3 1 lv L.length (L.map (Value.int .i64))) (hnd : L.Nodup) (hlen : L.length ≤ 1000000)
    (hn : Nears E at' zs.length L) (hz : zs ≠ []) (hat : (t : Int) ≤ at' ∧ at' + zs.length ≤ t + 4096) :
    Calls Try.prog 14 #[.pointer (some ⟨B, 0, none⟩), .int .i64 at', v, lv] w fun e w' => e = .returned (.tuple #[]) ∧ Joined gs w B mo t (N + 1) (joinE E at' zs L) w' := by
  have hpj := pcs_join h.pcs hn hz hat
  rcases h.mp with ⟨rfl, hE⟩ | ⟨mb, f, rfl, hM, hV⟩
  · have hL0 : L = [] := by
      cases L with
      | nil => rfl
      | cons x L =>
        obtain ⟨l, hl, _⟩ := (hn x).1 List.mem_cons_self
        rw [hE x] at hl; cases hl
    subst hL0
    have hl0 : ∃ la lc, lv = .slice la 0 lc := by
      rcases hL.2 with ⟨h1, h2⟩ | ⟨g, cap, cur, h1, _⟩
      · exact ⟨none, 0, by rw [h1]⟩
      · exact ⟨_, _, h1⟩
    refine (join_none (gs := gs) at' h.gl h.box h.tb hr hl0 hat).mono fun e w' ⟨he, mb, f', h1, h2, h3, h4, h5⟩ => ⟨he, mb, ?_, .inl ⟨rfl, h1, h2⟩⟩
    have e1 : joinE E at' zs [] = fun k => if k = at' then some zs else none := by
      funext k
      unfold joinE
      have e2 : ends E at' zs.length [] = (at', at' + zs.length) := rfl
      rw [e2]
      by_cases hk : k = at'
      · simp only [hk, if_true]
        simp [wholeB, splice, show at' + (zs.length : Int) - at' = zs.length by omega]
      · simp [hk, hE k]
    rw [e1] at hpj ⊢
    exact ⟨h3, .inr ⟨mb, f', rfl, h4.mono (by omega), h5⟩, hpj, h.tb, fun g hg => Nat.lt_of_lt_of_le (h.gl g hg) h2.size⟩
  · refine (join_some at' hN h.box hM h.gl hV h.pcs h.tb hr hp hL hnd hlen (fun s hs => ?_) hat).mono fun e w' ⟨he, h1, f', h2, h3⟩ => ⟨he, mb, ⟨?_, .inr ⟨mb, f', rfl, h2, h3⟩, hpj, h.tb, fun g hg => Nat.lt_of_lt_of_le (h.gl g hg) h1.size⟩, .inr ⟨rfl, h1⟩⟩
    · obtain ⟨l, hl, _⟩ := (hn s).1 hs
      exact ⟨l, hl⟩
    · rw [h1.block B h.lt (by simpa using hM.not_cells h.box)]
      exact h.box
#print axioms join_any
end Go.Proofs.Ytfgjlfcadpmkhaa
