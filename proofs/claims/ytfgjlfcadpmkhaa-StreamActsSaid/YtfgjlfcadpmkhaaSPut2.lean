/- stream.Put: the walk. -/
import Derived.Test.YtfgjlfcadpmkhaaSPut
namespace Go.Proofs.Ytfgjlfcadpmkhaa
open Go Go.RowKit
variable {gs : List Nat}

/-- Where a piece stands behind what is taken, and what of it. -/
def putA (t : Nat) (at' : Int) : Int := max at' t
def putZ (t : Nat) (at' : Int) (zs : List Int) : List Int := zs.drop (t - at').toNat
/-- Which answer Put gives. -/
inductive PutC (t : Nat) (E : Int → Option (List Int)) (at' : Int) (zs : List Int) : Int → Prop
  | arg : at' < 0 ∨ 1073741824 < at' → PutC t E at' zs 1
  | long : 0 ≤ at' ∧ at' ≤ 1073741824 → zs ≠ [] → t + 4096 < at' + zs.length → PutC t E at' zs 4
  | none : 0 ≤ at' ∧ at' ≤ 1073741824 → (zs = [] ∨ at' + zs.length ≤ t + 4096) → putZ t at' zs = [] → PutC t E at' zs 0
  | proto : 0 ≤ at' ∧ at' ≤ 1073741824 → (zs = [] ∨ at' + zs.length ≤ t + 4096) → putZ t at' zs ≠ [] → (∃ s l, E s = some l ∧ Touch (putA t at') (putZ t at' zs).length s l.length ∧ ¬ Alike (putA t at') (putZ t at' zs) s l) → PutC t E at' zs 12
def PutPost (gs : List Nat) (w : World) (B : Nat) (mo : Option Nat) (t N : Nat) (E : Int → Option (List Int)) (at' : Int) (zs : List Int) (e : Ending) (w' : World) : Prop :=
  (∃ c, e = .returned (.int .i64 c) ∧ PutC t E at' zs c ∧ Below w.heap.size w w') ∨
  (e = .returned (.int .i64 0) ∧ (0 ≤ at' ∧ at' ≤ 1073741824) ∧ (zs = [] ∨ at' + zs.length ≤ t + 4096) ∧ putZ t at' zs ≠ [] ∧ ∃ L, L.Nodup ∧ Nears E (putA t at') (putZ t at' zs).length L ∧
    (∀ s l, E s = some l → Touch (putA t at') (putZ t at' zs).length s l.length → Alike (putA t at') (putZ t at' zs) s l) ∧ Hid (Joined gs w B mo t (N + 1) (joinE E (putA t at') (putZ t at' zs) L) w'))
theorem Joined.from {w w0 w' : World} {B t N : Nat} {mo : Option Nat} {E : Int → Option (List Int)} (h : Joined gs w0 B mo t N E w') (hb : Below w.heap.size w w0) : Joined gs w B mo t N E w' := by
  obtain ⟨mb, h1, h2⟩ := h
  refine ⟨mb, h1, ?_⟩
  rcases h2 with ⟨a, b, c⟩ | ⟨a, c⟩
  · exact .inl ⟨a, Nat.le_trans hb.size b, (Chg.of_below hb).trans c⟩
  · exact .inr ⟨a, (Chg.of_below hb).trans c⟩

set_option maxRecDepth 20000 in
set_option maxHeartbeats 4000000 in
theorem put_any {w : World} {B t N : Nat} {mo : Option Nat} {E : Int → Option (List Int)} {v : Value} {zs : List Int} (at' : Int) (hN : N ≤ 1000000) (h : St gs w B mo t N E) (hr : Rd w v zs) (hp : Plain v) (hl : zs.length ≤ 1000000) :
    Calls Try.prog 7 #[.pointer (some ⟨B, 0, none⟩), .int .i64 at', v] w (PutPost gs w B mo t N E at' zs) := by
  obtain ⟨c0, c1, cf⟩ := h.cells
  have HS := Lib.hid h
  have HR := Lib.hid hr
  have HP := Lib.hid hp
  have HN := Lib.hid hN
  have htb := h.tb
  obtain ⟨ao, cap, rfl⟩ := hr.shape
  clear h hN
  by_cases h1 : at' < 0
  · clear hr hp
    go_enter Try.func7, Try.ntmps7
    go_wp2_with fail
    go_ret
    exact .inl ⟨1, rfl, .arg (.inl h1), Below.refl _ _⟩
  by_cases h2 : 1073741824 < at'
  · clear hr hp
    go_enter Try.func7, Try.ntmps7
    go_wp2_with fail
    go_ret
    exact .inl ⟨1, rfl, .arg (.inr h2), Below.refl _ _⟩
  have hat : 0 ≤ at' ∧ at' ≤ 1073741824 := ⟨by omega, by omega⟩
  have w1 : IntKind.i64.wrap (at' + (zs.length : Int)) = at' + (zs.length : Int) := IntWalk.i64_in _ ⟨by omega, by omega⟩
  have w2 : IntKind.i64.wrap ((t : Int) + 4096) = (t : Int) + 4096 := IntWalk.i64_in _ ⟨by omega, by omega⟩
  have w3 : IntKind.i64.wrap ((t : Int) - at') = (t : Int) - at' := IntWalk.i64_in _ ⟨by omega, by omega⟩
  by_cases hz : zs = []
  · subst hz
    have hzz : putZ t at' [] = [] := by unfold putZ; simp
    simp only [List.length_nil, Int.natCast_zero, Int.add_zero] at w1
    by_cases h4 : at' < (t : Int)
    · obtain ⟨a1, hs1, _⟩ := part_l hr hp 0 (Nat.zero_le _)
      simp only [List.length_nil, Nat.sub_zero, Int.natCast_zero] at hs1
      have h6 : ¬ (t : Int) - at' ≤ 0 := by omega
      clear hr hp
      go_enter Try.func7, Try.ntmps7
      go_wp2_with fail
      go_ret
      exact .inl ⟨0, rfl, .none hat (.inl rfl) hzz, Below.refl _ _⟩
    · clear hr hp
      go_enter Try.func7, Try.ntmps7
      go_wp2_with fail
      go_ret
      exact .inl ⟨0, rfl, .none hat (.inl rfl) hzz, Below.refl _ _⟩
  have hzl := List.length_pos_iff.2 hz
  by_cases h3 : (t : Int) + 4096 < at' + (zs.length : Int)
  · clear hr hp
    go_enter Try.func7, Try.ntmps7
    go_wp2_with fail
    go_ret
    exact .inl ⟨4, rfl, .long hat hz h3, Below.refl _ _⟩
  have hlo : zs = [] ∨ at' + zs.length ≤ t + 4096 := .inr (by omega)
  by_cases h4 : at' < (t : Int)
  · by_cases h5 : (t : Int) - at' < (zs.length : Int)
    · obtain ⟨k, hk⟩ : ∃ k : Nat, (t : Int) - at' = (k : Int) := ⟨((t : Int) - at').toNat, by omega⟩
      have h6 : (t : Int) - at' ≤ (zs.length : Int) := by omega
      obtain ⟨a1, hs1, hr1, hp1⟩ := part_l hr hp k (by omega)
      have ha : putA t at' = (t : Int) := by unfold putA; omega
      have hzz : putZ t at' zs = zs.drop k := by unfold putZ; rw [hk, Int.toNat_natCast]
      have hdl : (zs.drop k).length = zs.length - k := by simp
      have HA := Lib.hid (And.intro ha hzz)
      have HR1 := Lib.hid hr1
      have HP1 := Lib.hid hp1
      have HZ1 := Lib.hid (show zs.drop k ≠ [] from fun e => by rw [e] at hdl; simp at hdl; omega)
      have HNE := Lib.hid (near_any (t : Int) HN.out HS.out hr1 hp1 ⟨by omega, by omega⟩ (by omega))
      have hlt1 : decide (0 < zs.length - k) = true := decide_eq_true (by omega)
      have hne1 : decide (zs.length - k = 0) = false := decide_eq_false (by omega)
      rw [hk] at w3 h6
      have HDL := Lib.hid hdl
      have HK := Lib.hid hk
      clear hdl hr hp hr1 hp1 ha hzz
      go_enter Try.func7, Try.ntmps7
      go_wp2_with fail
      refine HNE.out.mono ?_
      rintro e wn ⟨lv, L, ok, rfl, hb, hcase⟩
      have HB := Lib.hid hb
      rcases hcase with ⟨rfl, ho, hnd, hll, hiff, hal⟩ | ⟨rfl, s, l, hE, ht, hna⟩
      · have HJ := Lib.hid (join_any (t : Int) HN.out (HS.out.below hb) (HR1.out.below hb) HP1.out ho hnd hll hiff HZ1.out ⟨by omega, by rw [HDL.out]; have := HK.out; omega⟩)
        have HQ := Lib.hid (And.intro hnd (And.intro hiff hal))
        clear ho hnd hll hiff hal hb
        go_wp2_with fail
        refine HJ.out.mono ?_
        rintro e wj ⟨rfl, hj⟩
        have HJJ := Lib.hid (hj.from HB.out)
        clear hj
        go_wp2_with fail
        go_ret
        refine .inr ⟨rfl, hat, hlo, ?_, L, HQ.out.1, ?_, ?_, ?_⟩
        all_goals rw [HA.out.2]
        · exact HZ1.out
        all_goals rw [HA.out.1]
        · exact HQ.out.2.1
        · exact HQ.out.2.2
        · exact HJJ
      · have HQ := Lib.hid (And.intro hE (And.intro ht hna))
        clear hE ht hna hb
        go_wp2_with fail
        go_ret
        refine .inl ⟨12, rfl, .proto hat hlo (by rw [HA.out.2]; exact HZ1.out) ⟨s, l, HQ.out.1, ?_, ?_⟩, HB.out⟩
        all_goals rw [HA.out.2, HA.out.1]
        · exact HQ.out.2.1
        · exact HQ.out.2.2
    · have hzz : putZ t at' zs = [] := by unfold putZ; exact List.drop_eq_nil_of_le (by omega)
      obtain ⟨a1, hs1, _⟩ := part_l hr hp zs.length (Nat.le_refl _)
      simp only [Nat.sub_self] at hs1
      by_cases h7 : (t : Int) - at' = (zs.length : Int)
      · have h6 : (zs.length : Int) ≤ (zs.length : Int) := Int.le_refl _
        rw [h7] at w3
        clear hr hp
        go_enter Try.func7, Try.ntmps7
        go_wp2_with fail
        go_ret
        exact .inl ⟨0, rfl, .none hat hlo hzz, Below.refl _ _⟩
      · have h6 : ¬ (t : Int) - at' ≤ (zs.length : Int) := by omega
        clear hr hp
        go_enter Try.func7, Try.ntmps7
        go_wp2_with fail
        go_ret
        exact .inl ⟨0, rfl, .none hat hlo hzz, Below.refl _ _⟩
  · have ha : putA t at' = at' := by unfold putA; omega
    have hzz : putZ t at' zs = zs := by unfold putZ; rw [show ((t : Int) - at').toNat = 0 by omega]; rfl
    have HA := Lib.hid (And.intro ha hzz)
    have HR1 := HR
    have HP1 := HP
    have HZ1 := Lib.hid hz
    have HNE := Lib.hid (near_any at' HN.out HS.out hr hp ⟨by omega, by omega⟩ hl)
    clear hr hp ha hzz
    go_enter Try.func7, Try.ntmps7
    go_wp2_with fail
    refine HNE.out.mono ?_
    rintro e wn ⟨lv, L, ok, rfl, hb, hcase⟩
    have HB := Lib.hid hb
    rcases hcase with ⟨rfl, ho, hnd, hll, hiff, hal⟩ | ⟨rfl, s, l, hE, ht, hna⟩
    · have HJ := Lib.hid (join_any at' HN.out (HS.out.below hb) (HR1.out.below hb) HP1.out ho hnd hll hiff HZ1.out ⟨by omega, by omega⟩)
      have HQ := Lib.hid (And.intro hnd (And.intro hiff hal))
      clear ho hnd hll hiff hal hb
      go_wp2_with fail
      refine HJ.out.mono ?_
      rintro e wj ⟨rfl, hj⟩
      have HJJ := Lib.hid (hj.from HB.out)
      clear hj
      go_wp2_with fail
      go_ret
      refine .inr ⟨rfl, hat, hlo, ?_, L, HQ.out.1, ?_, ?_, ?_⟩
      all_goals rw [HA.out.2]
      · exact HZ1.out
      all_goals rw [HA.out.1]
      · exact HQ.out.2.1
      · exact HQ.out.2.2
      · exact HJJ
    · have HQ := Lib.hid (And.intro hE (And.intro ht hna))
      clear hE ht hna hb
      go_wp2_with fail
      go_ret
      refine .inl ⟨12, rfl, .proto hat hlo (by rw [HA.out.2]; exact HZ1.out) ⟨s, l, HQ.out.1, ?_, ?_⟩, HB.out⟩
      all_goals rw [HA.out.2, HA.out.1]
      · exact HQ.out.2.1
      · exact HQ.out.2.2
#print axioms put_any
end Go.Proofs.Ytfgjlfcadpmkhaa
