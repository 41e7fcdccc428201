/- Streams of one piece. -/
import Derived.Test.YtfgjlfcadpmkhaaSNext
namespace Go.Proofs.Ytfgjlfcadpmkhaa
open Go Go.RowKit
variable {gs : List Nat}

/-- One piece. -/
def oneE (s : Int) (l : List Int) : Int → Option (List Int) := fun k => if k = s then some l else none
theorem one_some {s k : Int} {l m : List Int} (h : oneE s l k = some m) : k = s ∧ m = l := by
  unfold oneE at h
  by_cases e : k = s
  · rw [if_pos e] at h; cases h; exact ⟨e, rfl⟩
  · rw [if_neg e] at h; cases h
theorem only_one {s : Int} {L : List Int} (hn : L.Nodup) (h : ∀ x, x ∈ L ↔ x = s) : L = [s] := by
  cases L with
  | nil => exact absurd ((h s).2 rfl) (by simp)
  | cons x L =>
    have hx : x = s := (h x).1 List.mem_cons_self
    subst hx
    cases L with
    | nil => rfl
    | cons y L =>
      have hy : y = x := (h y).1 (List.mem_cons_of_mem _ List.mem_cons_self)
      subst hy
      simp at hn
/-- A first piece. -/
theorem put_first {w : World} {B t N : Nat} {mo : Option Nat} {E : Int → Option (List Int)} {v : Value} {zs : List Int} (at' : Int) (hN : N ≤ 1000000) (h : St gs w B mo t N E) (hE : ∀ k, E k = none) (hr : Rd w v zs) (hp : Plain v) (hl : zs.length ≤ 1000000)
    (hz : zs ≠ []) (ht : (t : Int) ≤ at') (h2 : at' ≤ 1073741824) (h3 : at' + zs.length ≤ t + 4096) :
    Calls Try.prog 7 #[.pointer (some ⟨B, 0, none⟩), .int .i64 at', v] w fun e w' => e = .returned (.int .i64 0) ∧ Joined gs w B mo t (N + 1) (oneE at' zs) w' := by
  have hzz : putZ t at' zs = zs := by unfold putZ; rw [show ((t : Int) - at').toNat = 0 by omega]; rfl
  have ha : putA t at' = at' := by unfold putA; omega
  refine (put_any at' hN h hr hp hl).mono fun e w' hpost => ?_
  rcases hpost with ⟨c, rfl, hc, _⟩ | ⟨rfl, _, _, _, L, hnd, hL, _, hj⟩
  · exfalso
    cases hc with
    | arg h => omega
    | long _ _ h => omega
    | none _ _ h => exact hz (hzz ▸ h)
    | proto _ _ _ h => obtain ⟨s, l, h, _⟩ := h; rw [hE] at h; cases h
  · refine ⟨rfl, ?_⟩
    have hL0 : L = [] := by
      cases L with
      | nil => rfl
      | cons x L => obtain ⟨l, h, _⟩ := (hL x).1 List.mem_cons_self; rw [hE] at h; cases h
    subst hL0
    rw [hzz, ha] at hj
    have e1 : joinE E at' zs [] = oneE at' zs := by
      funext k
      unfold joinE oneE
      have e2 : ends E at' zs.length [] = (at', at' + zs.length) := rfl
      rw [e2]
      by_cases hk : k = at'
      · simp only [hk, if_true]
        simp [wholeB, splice, show at' + (zs.length : Int) - at' = zs.length by omega]
      · simp [hk, hE k]
    rw [e1] at hj
    exact hj.out
/-- A piece that touches the one that is held, and is like it. -/
theorem put_touch {w : World} {B t N : Nat} {mo : Option Nat} {v : Value} {zs l : List Int} (at' s : Int) (hN : N ≤ 1000000) (h : St gs w B mo t N (oneE s l)) (hr : Rd w v zs) (hp : Plain v) (hl : zs.length ≤ 1000000)
    (hz : zs ≠ []) (ht : (t : Int) ≤ at') (h2 : at' ≤ 1073741824) (h3 : at' + zs.length ≤ t + 4096) (htc : Touch at' zs.length s l.length) (hal : Alike at' zs s l) :
    Calls Try.prog 7 #[.pointer (some ⟨B, 0, none⟩), .int .i64 at', v] w fun e w' => e = .returned (.int .i64 0) ∧ Joined gs w B mo t (N + 1) (joinE (oneE s l) at' zs [s]) w' := by
  have hzz : putZ t at' zs = zs := by unfold putZ; rw [show ((t : Int) - at').toNat = 0 by omega]; rfl
  have ha : putA t at' = at' := by unfold putA; omega
  refine (put_any at' hN h hr hp hl).mono fun e w' hpost => ?_
  rcases hpost with ⟨c, rfl, hc, _⟩ | ⟨rfl, _, _, _, L, hnd, hL, _, hj⟩
  · exfalso
    cases hc with
    | arg h => omega
    | long _ _ h => omega
    | none _ _ h => exact hz (hzz ▸ h)
    | proto _ _ _ h =>
      obtain ⟨s', l', h, _, h4⟩ := h
      rw [hzz, ha] at h4
      obtain ⟨rfl, rfl⟩ := one_some h
      exact h4 hal
  · refine ⟨rfl, ?_⟩
    rw [hzz, ha] at hj hL
    have hL1 : L = [s] := only_one hnd fun x => by
      rw [hL x]
      constructor
      · rintro ⟨l', h, _⟩; exact (one_some h).1
      · rintro rfl; exact ⟨l, by simp [oneE], htc⟩
    subst hL1
    exact hj.out
/-- A piece that touches the one that is held, and is not like it. -/
theorem put_clash {w : World} {B t N : Nat} {mo : Option Nat} {v : Value} {zs l : List Int} (at' s : Int) (hN : N ≤ 1000000) (h : St gs w B mo t N (oneE s l)) (hr : Rd w v zs) (hp : Plain v) (hl : zs.length ≤ 1000000)
    (hz : zs ≠ []) (ht : (t : Int) ≤ at') (h2 : at' ≤ 1073741824) (h3 : at' + zs.length ≤ t + 4096) (htc : Touch at' zs.length s l.length) (hal : ¬ Alike at' zs s l) :
    Calls Try.prog 7 #[.pointer (some ⟨B, 0, none⟩), .int .i64 at', v] w fun e w' => e = .returned (.int .i64 12) ∧ Below w.heap.size w w' := by
  have hzz : putZ t at' zs = zs := by unfold putZ; rw [show ((t : Int) - at').toNat = 0 by omega]; rfl
  have ha : putA t at' = at' := by unfold putA; omega
  refine (put_any at' hN h hr hp hl).mono fun e w' hpost => ?_
  rcases hpost with ⟨c, rfl, hc, hb⟩ | ⟨rfl, _, _, _, L, hnd, hL, h5, hj⟩
  · cases hc with
    | arg h => omega
    | long _ _ h => omega
    | none _ _ h => exact absurd (hzz ▸ h) hz
    | proto _ _ _ h => exact ⟨rfl, hb⟩
  · exfalso
    rw [hzz, ha] at h5
    exact hal (h5 s l (by simp [oneE]) htc)
/-- An empty stream. -/
theorem St.fresh {w : World} {B : Nat} (hgl : ∀ g ∈ gs, g < w.heap.size) (hb : w.heap[B]? = some (.cells #[.int .i64 0, .map none] 26 (0, 0))) : St gs w B none 0 0 (fun _ => none) :=
  ⟨hb, .inl ⟨rfl, fun _ => rfl⟩, ⟨fun _ _ h => (by cases h), fun _ _ _ _ h => (by cases h)⟩, by omega, hgl⟩
/-- Nothing that is older than the stream has changed. -/
theorem Joined.below {w w' : World} {B t N lo : Nat} {mo : Option Nat} {E : Int → Option (List Int)} (h : Joined gs w B mo t N E w') (hw : lo ≤ w.heap.size) (hB : lo ≤ B) (hm : ∀ mb, mo = some mb → lo ≤ mb) :
    ∃ mb, St gs w' B (some mb) t N E ∧ lo ≤ mb ∧ Below lo w w' := by
  obtain ⟨mb, h1, h2⟩ := h
  rcases h2 with ⟨_, b, c⟩ | ⟨a, c⟩
  · exact ⟨mb, h1, by omega, ⟨c.os, c.tape, c.output, c.size, fun k hk => c.block k (by omega) (by simp; omega)⟩⟩
  · have := hm mb a
    exact ⟨mb, h1, this, ⟨c.os, c.tape, c.output, c.size, fun k hk => c.block k (by omega) (by simp; omega)⟩⟩
#print axioms put_touch
end Go.Proofs.Ytfgjlfcadpmkhaa
