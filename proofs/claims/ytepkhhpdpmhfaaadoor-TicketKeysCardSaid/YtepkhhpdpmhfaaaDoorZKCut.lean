/- What stays but for one block; parts of a slice. -/
import Derived.Test.YtepkhhpdpmhfaaaDoorZClone
import Derived.Deep.RegionWith
import Derived.RegionTactic
import Derived.BigRegion
import Derived.Laws.Cover3
import Derived.Laws.Rows
import Derived.Lib.BufferMore
import Derived.Laws.IdiomRangeMap
namespace Go.Proofs.YtepkhhpdpmhfaaaDoor
open Go Go.RowKit

/-- The bytes behind their length, what stands behind them, an error's number. -/
def tk (zs : List Int) : List Int × List Int × Int :=
  if (rd zs).2.2 ≠ 0 then ([], [], (rd zs).2.2)
  else if (zs.length : Int) - (rd zs).2.1 < (rd zs).1 then ([], [], 2)
  else ((zs.drop (rd zs).2.1.toNat).take (rd zs).1.toNat, (zs.drop (rd zs).2.1.toNat).drop (rd zs).1.toNat, 0)

theorem val_nonneg (zs : List Int) (h : Byt zs) : 0 ≤ val zs := by
  cases zs with
  | nil => simp [val]
  | cons x r => exact (vf_bd (x % 64) (by omega) (by omega) r (fun z hz => h z (by simp [hz]))).1
theorem rd_bd (zs : List Int) (h : Byt zs) : (0 ≤ (rd zs).1) ∧ ((rd zs).2.2 = 0 → 1 ≤ (rd zs).2.1 ∧ (rd zs).2.1 ≤ zs.length ∧ (rd zs).1 < 4611686018427387904) ∧ ((rd zs).2.2 = 0 ∨ (rd zs).2.2 = 2 ∨ (rd zs).2.2 = 3) := by
  cases zs with
  | nil => exact ⟨by decide, by decide, by decide⟩
  | cons z r =>
    simp only [rd]
    split
    · exact ⟨by simp, by simp, by simp⟩
    · rename_i hlt
      split
      · rename_i hs
        refine ⟨val_nonneg _ (h.take _), fun _ => ⟨?_, ?_, ?_⟩, by simp⟩
        · rcases fs_cases z (h z (by simp)) with ⟨_, e⟩ | ⟨_, e⟩ | ⟨_, e⟩ | ⟨_, e⟩ <;> simp only [e] <;> omega
        · simp only; omega
        · simp only
          rcases sz_cases (val ((z :: r).take (fs z))) with ⟨h0, _⟩ | ⟨_, h1, _⟩
          · rw [h0] at hs
            rcases fs_cases z (h z (by simp)) with ⟨_, e⟩ | ⟨_, e⟩ | ⟨_, e⟩ | ⟨_, e⟩ <;> rw [e] at hs <;> omega
          · exact h1
      · exact ⟨by simp, by simp, by simp⟩

theorem Rd.drop {w : World} {b off n cap k : Nat} {zs : List Int} (h : Rd w (.slice (some ⟨b, off, none⟩) n cap) zs) (hk : k ≤ zs.length) (ao : Option Addr) (hao : k < cap → ao = some ⟨b, off + k, none⟩) (hao2 : ao ≠ none) :
    Rd w (.slice ao (n - k) (cap - k)) (zs.drop k) := by
  obtain ⟨ao', cap', hv, h1, h2, h3, h4, hc⟩ := h
  simp only [Value.slice.injEq] at hv
  obtain ⟨rfl, rfl, rfl⟩ := hv
  have hl : (zs.drop k).length = zs.length - k := by simp
  refine ⟨ao, cap - k, by rw [hl], by omega, by omega, fun h => absurd h hao2, h4.drop k, fun a ha j hj => ?_⟩
  rw [hl] at hj
  rw [hao (by omega)] at ha
  cases ha
  have := hc _ rfl (k + j) (by omega)
  rw [Addr.add_lit] at this ⊢
  rw [Nat.add_assoc, this]
  simp [List.getD]

theorem tk_err (zs : List Int) (N S E : Int) (h : rd zs = (N, S, E)) (hE : E ≠ 0) : tk zs = ([], [], E) := by
  simp [tk, h, hE]
theorem tk_short (zs : List Int) (N S : Int) (h : rd zs = (N, S, 0)) (hl : (zs.length : Int) - S < N) : tk zs = ([], [], 2) := by
  simp [tk, h, hl]
theorem tk_ok (zs : List Int) (m s : Nat) (h : rd zs = ((m : Int), (s : Int), 0)) (hl : s + m ≤ zs.length) : tk zs = ((zs.drop s).take m, (zs.drop s).drop m, 0) := by
  have : ¬ (zs.length : Int) - s < m := by omega
  simp [tk, h, this]

/-- What Take leaves. -/
def Took (w : World) (r : List Int × List Int × Int) (e : Ending) (w' : World) : Prop :=
  ∃ v1 v2, e = .returned (.tuple #[v1, v2, .int .i64 r.2.2]) ∧ Rd w' v1 r.1 ∧ Rd w' v2 r.2.1 ∧ Below w.heap.size w w'

set_option maxHeartbeats 1000000 in
theorem take_any {w : World} {v : Value} {zs : List Int} (h : Rd w v zs) (hz : zs.length ≤ 100000) :
    Calls Tryd.prog 37 #[v] w fun e w' => Took w (tk zs) e w' := by
  have hr := read_any h
  have hbyt := h.byt
  obtain ⟨hN0, hok, hE⟩ := rd_bd zs hbyt
  generalize hrd : rd zs = r at *
  obtain ⟨N, S, E⟩ := r
  simp only at hr hN0 hok hE
  rcases h.cases with ⟨rfl, ao, cap, rfl, hcap⟩ | ⟨b, off, cap, rfl, hpos, hlc, hcap, _, _⟩
  · obtain ⟨rfl, rfl, rfl⟩ : N = 0 ∧ S = 0 ∧ E = 2 := by
      have : rd [] = (0, 0, 2) := rfl
      rw [this] at hrd
      simp only [Prod.mk.injEq] at hrd
      exact ⟨hrd.1.symm, hrd.2.1.symm, hrd.2.2.symm⟩
    have HT := Lib.hid (tk_err [] 0 0 2 hrd (by decide))
    clear hrd h hok hE
    go_enter Tryd.func37, Tryd.ntmps37
    go_wp2_with (go_at_call 36; refine hr.mono ?_; rintro e w' ⟨rfl, rfl⟩)
    go_ret3
    rw [HT.out]
    exact ⟨_, _, rfl, Rd.nil _, Rd.nil _, Below.refl _ _⟩
  · rcases hE with rfl | hE
    · obtain ⟨hs1, hs2, hs3⟩ := hok rfl
      obtain ⟨m, rfl⟩ := Int.eq_ofNat_of_zero_le hN0
      obtain ⟨s, rfl⟩ := Int.eq_ofNat_of_zero_le (show 0 ≤ S by omega)
      have hs1' : 1 ≤ s := by omega
      have hs2' : s ≤ zs.length := by omega
      clear hok hs1 hs2 hN0 hs3
      by_cases hle : s + m ≤ zs.length
      · have HT := Lib.hid (tk_ok zs m s hrd hle)
        clear hrd
        have gB : ∀ ao, (s < cap → ao = some ⟨b, off + s, none⟩) → ao ≠ none → Rd w (.slice ao (zs.length - s) (cap - s)) (zs.drop s) := fun ao h1 h2 => h.drop hs2' ao h1 h2
        have hlB : (zs.drop s).length = zs.length - s := by simp
        by_cases hcs : cap = s
        · obtain rfl : s = zs.length := by omega
          obtain rfl : m = 0 := by omega
          subst hcs
          have g1 := gB (some ⟨b, off, none⟩) (by omega) (by simp)
          simp only [Nat.sub_self] at g1
          have e : List.drop zs.length zs = [] := List.drop_eq_nil_of_le (Nat.le_refl _)
          rw [e] at g1 HT
          have gA : Rd w (.slice (some ⟨b, off, none⟩) 0 0) ([] : List Int) := g1
          have gC := gA
          have lA : ([] : List Int).length ≤ 140737488355328 := by decide
          have lC := lA
          clear g1 gB h hlB e
          go_enter Tryd.func37, Tryd.ntmps37
          go_wp2_with (go_at_call 36; refine hr.mono ?_; rintro e w' ⟨rfl, rfl⟩)
          go_region_with (first
            | (go_at_call 50; have hx := hbA; clear hx; refine (clone_any (gC.below ((Below.refl _ _).drew.trans hbA)) lC).mono ?_; rintro e wC ⟨vC, rfl, hownC, hbC⟩)
            | (go_at_call 50; refine (clone_any (gA.below (Below.refl _ _).drew) lA).mono ?_; rintro e wA ⟨vA, rfl, hownA, hbA⟩))
          all_goals
            go_wp2
            go_ret3
            rw [HT.out]
            first
              | exact ⟨_, _, rfl, ((Rd.of_own hownA gA.byt).1).below hbC, (Rd.of_own hownC gC.byt).1, ((Below.refl _ _).drew.trans hbA).trans (hbC.mono hbA.size)⟩
              | exact ⟨_, _, rfl, (Rd.of_own hownC gC.byt).1, ((Rd.of_own hownA gA.byt).1).below hbC, ((Below.refl _ _).drew.trans hbA).trans (hbC.mono hbA.size)⟩
        · have g1 := gB (some ⟨b, off + s, none⟩) (fun _ => rfl) (by simp)
          have gA := g1.take m (by omega)
          have lA : (List.take m (List.drop s zs)).length ≤ 140737488355328 := by simp; omega
          have lC : (List.drop m (List.drop s zs)).length ≤ 140737488355328 := by simp; omega
          by_cases hcm : cap - s = m
          · have gC := g1.drop (k := m) (by omega) (some ⟨b, off + s, none⟩) (by omega) (by simp)
            generalize List.take m (List.drop s zs) = ZA at *
            generalize List.drop m (List.drop s zs) = ZC at *
            clear g1 gB h hlB
            rw [hcm] at gA
            rw [hcm, Nat.sub_self] at gC
            go_enter Tryd.func37, Tryd.ntmps37
            go_wp2_with (go_at_call 36; refine hr.mono ?_; rintro e w' ⟨rfl, rfl⟩)
            go_region_with (first
              | (go_at_call_of 50 (Value.slice (some (Addr.mk b (off + s) none)) m m); refine (clone_any (gA.below ?_) ?_).mono ?_; (next => first | exact (Below.refl _ _).drew | exact (Below.refl _ _).drew.trans hbC); (next => exact lA); rintro e wA ⟨vA, rfl, hownA, hbA⟩)
              | (go_at_call 50; refine (clone_any (gC.below ?_) ?_).mono ?_; (next => first | exact (Below.refl _ _).drew | exact (Below.refl _ _).drew.trans hbA); (next => exact lC); rintro e wC ⟨vC, rfl, hownC, hbC⟩))
            all_goals
              go_wp2
              go_ret3
              rw [HT.out]
              first
                | exact ⟨_, _, rfl, ((Rd.of_own hownA gA.byt).1).below hbC, (Rd.of_own hownC gC.byt).1, ((Below.refl _ _).drew.trans hbA).trans (hbC.mono hbA.size)⟩
                | exact ⟨_, _, rfl, (Rd.of_own hownA gA.byt).1, ((Rd.of_own hownC gC.byt).1).below hbA, ((Below.refl _ _).drew.trans hbC).trans (hbA.mono hbC.size)⟩
          · have gC := g1.drop (k := m) (by omega) (some ⟨b, off + s + m, none⟩) (fun _ => rfl) (by simp)
            generalize List.take m (List.drop s zs) = ZA at *
            generalize List.drop m (List.drop s zs) = ZC at *
            clear g1 gB h hlB
            go_enter Tryd.func37, Tryd.ntmps37
            go_wp2_with (go_at_call 36; refine hr.mono ?_; rintro e w' ⟨rfl, rfl⟩)
            go_region_with (first
              | (go_at_call_of 50 (Value.slice (some (Addr.mk b (off + s) none)) m (cap - s)); refine (clone_any (gA.below ?_) ?_).mono ?_; (next => first | exact (Below.refl _ _).drew | exact (Below.refl _ _).drew.trans hbC); (next => exact lA); rintro e wA ⟨vA, rfl, hownA, hbA⟩)
              | (go_at_call 50; refine (clone_any (gC.below ?_) ?_).mono ?_; (next => first | exact (Below.refl _ _).drew | exact (Below.refl _ _).drew.trans hbA); (next => exact lC); rintro e wC ⟨vC, rfl, hownC, hbC⟩))
            all_goals
              go_wp2
              go_ret3
              rw [HT.out]
              first
                | exact ⟨_, _, rfl, ((Rd.of_own hownA gA.byt).1).below hbC, (Rd.of_own hownC gC.byt).1, ((Below.refl _ _).drew.trans hbA).trans (hbC.mono hbA.size)⟩
                | exact ⟨_, _, rfl, (Rd.of_own hownA gA.byt).1, ((Rd.of_own hownC gC.byt).1).below hbA, ((Below.refl _ _).drew.trans hbC).trans (hbA.mono hbC.size)⟩
      · have HT := Lib.hid (tk_short zs m s hrd (by omega))
        clear hrd
        have hlt : (zs.length : Int) - (s : Int) < (m : Int) := by omega
        by_cases hcs : cap = s
        · subst hcs
          go_enter Tryd.func37, Tryd.ntmps37
          go_wp2_with (go_at_call 36; refine hr.mono ?_; rintro e w' ⟨rfl, rfl⟩)
          go_ret3
          rw [HT.out]
          exact ⟨_, _, rfl, Rd.nil _, Rd.nil _, Below.refl _ _⟩
        · go_enter Tryd.func37, Tryd.ntmps37
          go_wp2_with (go_at_call 36; refine hr.mono ?_; rintro e w' ⟨rfl, rfl⟩)
          go_ret3
          rw [HT.out]
          exact ⟨_, _, rfl, Rd.nil _, Rd.nil _, Below.refl _ _⟩
    · have HT := Lib.hid (tk_err zs N S E hrd (by omega))
      clear hrd hok
      rcases hE with rfl | rfl
      all_goals
        go_enter Tryd.func37, Tryd.ntmps37
        go_wp2_with (go_at_call 36; refine hr.mono ?_; rintro e w' ⟨rfl, rfl⟩)
        go_ret3
        rw [HT.out]
        exact ⟨_, _, rfl, Rd.nil _, Rd.nil _, Below.refl _ _⟩
#print axioms take_any
end Go.Proofs.YtepkhhpdpmhfaaaDoor
namespace Go.Proofs.YtepkhhpdpmhfaaaDoor
open Go Go.RowKit

/-- Nothing but the block B has changed of what was there. -/
structure But (B : Nat) (w w' : World) : Prop where
  os : w'.os = w.os
  tape : w'.tape = w.tape
  output : w'.output = w.output
  size : w.heap.size ≤ w'.heap.size
  block : ∀ k, k < w.heap.size → k ≠ B → w'.heap[k]? = w.heap[k]?
theorem But.refl (B : Nat) (w : World) : But B w w := ⟨rfl, rfl, rfl, Nat.le_refl _, fun _ _ _ => rfl⟩
theorem But.trans {B : Nat} {a b c : World} (h : But B a b) (k : But B b c) : But B a c :=
  ⟨k.os.trans h.os, k.tape.trans h.tape, k.output.trans h.output, Nat.le_trans h.size k.size, fun i hi hn => (k.block i (Nat.lt_of_lt_of_le hi h.size) hn).trans (h.block i hi hn)⟩
theorem But.of_below {B : Nat} {w w' : World} (h : Below w.heap.size w w') : But B w w' := ⟨h.os, h.tape, h.output, h.size, fun k hk _ => h.block k hk⟩
theorem But.below {B : Nat} {w0 w w' : World} (h : But B w w') (hb : Below w0.heap.size w0 w) (hB : w0.heap.size ≤ B) : Below w0.heap.size w0 w' :=
  ⟨h.os.trans hb.os, h.tape.trans hb.tape, h.output.trans hb.output, Nat.le_trans hb.size h.size, fun k hk => (h.block k (Nat.lt_of_lt_of_le hk hb.size) (by omega)).trans (hb.block k hk)⟩
theorem But.set (w : World) (B i : Nat) (v : Value) : But B w (w.setCell ⟨B, i, none⟩ v) :=
  ⟨rfl, rfl, rfl, by simp [World.setCell], fun k _ hn => Below.heap_setCell _ _ _ _ hn⟩
theorem But.drew {B : Nat} {w w' : World} (h : But B w w') : But B w w'.drew := ⟨h.os, h.tape, h.output, h.size, h.block⟩
theorem But.drewN {B : Nat} {w : World} : ∀ n, But B w (w.drewN n)
  | 0 => But.refl _ _
  | n + 1 => (But.drewN n).drew
/-- A slice's value that a cut can go through. -/
def Plain (v : Value) : Prop := v = .slice none 0 0 ∨ ∃ b off n cap, v = .slice (some ⟨b, off, none⟩) n cap
theorem rd_part {w : World} {ao : Option Addr} {cap : Nat} {zs : List Int} (h : Rd w (.slice ao zs.length cap) zs) (hp : Plain (.slice ao zs.length cap)) (t k : Nat) (ht : t + k ≤ zs.length) :
    Rd w (.slice (Option.map (fun x => x.add t) ao) k (cap - t)) ((zs.drop t).take k) ∧ Plain (.slice (Option.map (fun x => x.add t) ao) k (cap - t)) := by
  obtain ⟨ao', cap', e, h1, h2, h3, h4, h5⟩ := h
  simp only [Value.slice.injEq] at e
  obtain ⟨rfl, _, rfl⟩ := e
  have hl : ((zs.drop t).take k).length = k := by simp; omega
  rcases hp with hp | ⟨b, off, n', c', hp⟩
  · simp only [Value.slice.injEq] at hp
    obtain ⟨rfl, hz, rfl⟩ := hp
    have hk : k = 0 := by omega
    subst hk
    have ht0 : t = 0 := by omega
    subst ht0
    exact ⟨by simpa using Rd.nil w, .inl (by simp)⟩
  · simp only [Value.slice.injEq] at hp
    obtain ⟨rfl, _, _⟩ := hp
    have e : (⟨b, off, none⟩ : Addr).add t = ⟨b, off + t, none⟩ := Addr.add_lit _ _ _
    simp only [Option.map_some, e]
    refine ⟨⟨_, cap - t, by rw [hl], by omega, by omega, (fun h => by cases h), (h4.drop t).take k, fun a ha j hj => ?_⟩, .inr ⟨_, _, _, _, rfl⟩⟩
    cases ha
    rw [hl] at hj
    have := h5 _ rfl (t + j) (by omega)
    rw [Addr.add_lit] at this ⊢
    rw [show off + t + j = off + (t + j) from by omega, this]
    simp [List.getD, hj]
theorem rd_part0 {w : World} {ao : Option Addr} {cap : Nat} {zs : List Int} (h : Rd w (.slice ao zs.length cap) zs) (hp : Plain (.slice ao zs.length cap)) (t k : Nat) (ht : t + k ≤ zs.length) (hc : cap = t) :
    Rd w (.slice ao k 0) ((zs.drop t).take k) ∧ Plain (.slice ao k 0) := by
  obtain ⟨ao', cap', e, h1, h2, h3, h4, h5⟩ := h
  simp only [Value.slice.injEq] at e
  obtain ⟨rfl, _, rfl⟩ := e
  have hk : k = 0 := by omega
  subst hk
  rw [List.take_zero]
  refine ⟨⟨ao, 0, rfl, Nat.le_refl _, by omega, fun _ => rfl, Byt.nil, fun a _ j hj => by simp at hj⟩, ?_⟩
  rcases hp with hp | ⟨b, off, n', c', hp⟩
  · simp only [Value.slice.injEq] at hp
    obtain ⟨rfl, _⟩ := hp
    exact .inl rfl
  · simp only [Value.slice.injEq] at hp
    obtain ⟨rfl, _⟩ := hp
    exact .inr ⟨_, _, _, _, rfl⟩
/-- What is left behind a number, whichever way it is cut. -/
theorem rd_bound {zs : List Int} (hb : Byt zs) : ∃ s : Nat, (rd zs).2.1 = (s : Int) ∧ s ≤ zs.length := by
  have h := rd_bd zs hb
  by_cases he : (rd zs).2.2 = 0
  · obtain ⟨h1, h2, _⟩ := h.2.1 he
    exact ⟨(rd zs).2.1.toNat, by omega, by omega⟩
  · refine ⟨0, ?_, Nat.zero_le _⟩
    cases zs with
    | nil => rfl
    | cons z r =>
      simp only [rd] at he ⊢
      split
      · rfl
      · rename_i h1
        rw [if_neg h1] at he
        split
        · rename_i h2
          rw [if_pos h2] at he
          exact absurd rfl he
        · rfl
#print axioms rd_part0
end Go.Proofs.YtepkhhpdpmhfaaaDoor
