/- A stream whose pieces are parts of given bytes. -/
import Derived.Test.YthfmpnikchlhlaaSCov
import Derived.Test.YthfmpnikchlhlaaSMsg
namespace Go.Proofs.Ythfmpnikchlhlaa
open Go Go.RowKit

/-- The stream in box B, nothing of it older than lo; its bytes are those that A tells. -/
def Sg (w : World) (lo B t N : Nat) (A : Int → Int) (E : Int → Option (List Int)) : Prop := ∃ mo, St w B mo t N E ∧ lo ≤ B ∧ (∀ mb, mo = some mb → lo ≤ mb) ∧ AgreeE A E
theorem Sg.below {w w' : World} {lo B t N : Nat} {A : Int → Int} {E : Int → Option (List Int)} (h : Sg w lo B t N A E) (hb : Below w.heap.size w w') : Sg w' lo B t N A E := by
  obtain ⟨mo, h1, h2, h3, h4⟩ := h
  exact ⟨mo, h1.below hb, h2, h3, h4⟩
theorem Sg.pcs {w : World} {lo B t N : Nat} {A : Int → Int} {E : Int → Option (List Int)} (h : Sg w lo B t N A E) : Pcs t E := by obtain ⟨_, h, _⟩ := h; exact h.pcs
theorem Sg.agree {w : World} {lo B t N : Nat} {A : Int → Int} {E : Int → Option (List Int)} (h : Sg w lo B t N A E) : AgreeE A E := by obtain ⟨_, _, _, _, h⟩ := h; exact h
theorem Agree.drop {A : Int → Int} {s : Int} {l : List Int} (h : Agree A s l) (n : Nat) : Agree A (s + n) (l.drop n) := fun j hj => by
  have := h (n + j) (by simp at hj; omega)
  simp only [List.getD_eq_getElem?_getD, List.getElem?_drop] at this ⊢
  rw [this]
  congr 1
  omega
/-- A piece of the same bytes is always taken in. -/
theorem put_sg {w : World} {lo B t N : Nat} {A : Int → Int} {E : Int → Option (List Int)} {v : Value} {zs : List Int} (at' : Int) (hN : N ≤ 1000000) (h : Sg w lo B t N A E) (hlo : lo ≤ w.heap.size) (hr : Rd w v zs) (hp : Plain v) (hl : zs.length ≤ 1000000) (hz : Agree A at' zs)
    (h0 : 0 ≤ at' ∧ at' ≤ 1073741824) (h1 : at' + zs.length ≤ t + 4096) :
    ∃ B', B' = B ∧ Calls Try.prog 12 #[.pointer (some ⟨B, 0, none⟩), .int .i64 at', v] w fun e w' => e = .returned (.int .i64 0) ∧ ∃ E', Sg w' lo B t (N + 1) A E' ∧ (∀ p : Int, (t : Int) ≤ p → (Cov E' p ↔ (at' ≤ p ∧ p < at' + zs.length) ∨ Cov E p)) ∧ Below lo w w' := by
  refine ⟨B, rfl, ?_⟩
  obtain ⟨mo, hs, hB, hm, hA⟩ := h
  have hza : Agree A (putA t at') (putZ t at' zs) := by
    have := hz.drop ((t : Int) - at').toNat
    have e : at' + (((t : Int) - at').toNat : Int) = putA t at' := by unfold putA; omega
    rw [e] at this
    exact this
  have hzl : (putZ t at' zs).length = zs.length - ((t : Int) - at').toNat := by unfold putZ; simp
  refine (put_any at' hN hs hr hp hl).mono fun e w' hpost => ?_
  rcases hpost with ⟨c, rfl, hc, hb⟩ | ⟨rfl, _, _, hne, L, hnd, hL, _, hj⟩
  · cases hc with
    | arg h => omega
    | long _ _ h => omega
    | none _ _ hnil =>
      rw [hnil] at hzl
      simp only [List.length_nil] at hzl
      refine ⟨rfl, E, ⟨mo, ⟨(hs.below hb).box, ?_, hs.pcs, hs.tb⟩, hB, hm, hA⟩, fun p hp => ⟨.inr, fun h => ?_⟩, hb.mono hlo⟩
      · rcases (hs.below hb).mp with h | ⟨mb, f, a, b, c⟩
        · exact .inl h
        · exact .inr ⟨mb, f, a, b.mono (by omega), c⟩
      · rcases h with h | h
        · omega
        · exact h
    | proto _ _ _ hx =>
      obtain ⟨s, l, hE, ht, hna⟩ := hx
      exact absurd (alike_of hza (hA s l hE)) hna
  · obtain ⟨mb, hs', hm', hb⟩ := hj.out.below hlo hB hm
    refine ⟨rfl, _, ⟨some mb, hs', hB, fun b hb => by cases hb; exact hm', agree_join hL hza hA⟩, fun p hp => ?_, hb⟩
    rw [cov_join hL p, hzl]
    unfold putA
    constructor
    · rintro (h | h)
      · exact .inl (by omega)
      · exact .inr h
    · rintro (h | h)
      · exact .inl (by omega)
      · exact .inr h
/-- A message is taken, or none. -/
theorem next_sg {w : World} {lo B t N : Nat} {A : Int → Int} {E : Int → Option (List Int)} (hN : N ≤ 1000000) (h : Sg w lo B t N A E) (hlo : lo ≤ w.heap.size) (ht : t ≤ 1999990000) :
    Calls Try.prog 9 #[.pointer (some ⟨B, 0, none⟩)] w fun e w' =>
      (firstE (frontB t E) ≠ 0 ∧ e = .returned (.tuple #[.slice none 0 0, .int .i64 (firstE (frontB t E))]) ∧ Sg w' lo B t N A E ∧ Below lo w w') ∨
      (firstE (frontB t E) = 0 ∧ ∃ v, e = .returned (.tuple #[v, .int .i64 0]) ∧ Rd w' v ((frontB t E).take (headN (frontB t E) + 4)) ∧ Sg w' lo B (t + (headN (frontB t E) + 4)) (N + 1) A (nextE t E (headN (frontB t E) + 4)) ∧ Below lo w w') := by
  obtain ⟨mo, hs, hB, hm, hA⟩ := h
  refine (next_any hN hs ht).mono fun e w' hpost => ?_
  rcases hpost with ⟨h1, h2, hb⟩ | ⟨h1, v, mb, rfl, he, hr, _, hs', hc⟩
  · exact .inl ⟨h1, h2, ⟨mo, hs.below hb, hB, hm, hA⟩, hb.mono hlo⟩
  · have := hm mb rfl
    refine .inr ⟨h1, v, he, hr, ⟨some mb, hs', hB, hm, agree_next hA⟩, ⟨hc.os, hc.tape, hc.output, hc.size, fun k hk => hc.block k (by omega) (by simp; omega)⟩⟩

/-- A message: its head tells its length. -/
def IsMsg (m : List Int) : Prop := firstE m = 0 ∧ headN m + 4 = m.length
/-- The bytes that a list of messages makes. -/
theorem isMsg_of {kind : Int} {zs : List Int} (hk : 0 ≤ kind ∧ kind ≤ 255) (hl : zs.length ≤ 2000) : IsMsg (msgB kind zs) := by
  have e : msgB kind zs = headB kind zs.length ++ zs := by unfold msgB; rw [if_neg (by omega)]
  have hlen : (msgB kind zs).length = zs.length + 4 := by rw [e]; simp [headB]
  have hh : headN (msgB kind zs) = zs.length := by
    rw [e]
    unfold headN headB
    simp
    omega
  refine ⟨?_, by rw [hh, hlen]⟩
  unfold firstE
  rw [hh, hlen, if_neg (by omega), if_neg (by omega), if_neg (by omega)]
theorem headN_app' {a : List Int} (b : List Int) (h : 4 ≤ a.length) : headN (a ++ b) = headN a := by
  have g : ∀ i, i < 4 → (a ++ b).getD i 0 = a.getD i 0 := fun i hi => by
    simp only [List.getD_eq_getElem?_getD]
    rw [List.getElem?_append_left (by omega)]
  unfold headN
  rw [g 1 (by omega), g 2 (by omega), g 3 (by omega)]
/-- The front of what is left is a message, if it is long enough. -/
theorem front_long {m r : List Int} {f : Nat} (hm : IsMsg m) (hf : m.length ≤ f) : firstE ((m ++ r).take f) = 0 ∧ headN ((m ++ r).take f) + 4 = m.length ∧ ((m ++ r).take f).take m.length = m := by
  obtain ⟨h0, h1⟩ := hm
  obtain ⟨h4, h5, h6⟩ := first_ok h0
  have e : (m ++ r).take f = m ++ r.take (f - m.length) := by rw [List.take_append, List.take_of_length_le hf]
  have hh : headN (m ++ r.take (f - m.length)) = headN m := headN_app' _ h4
  rw [e]
  refine ⟨?_, by rw [hh, h1], by simp⟩
  unfold firstE
  rw [hh, if_neg (by simp; omega), if_neg (by omega), if_neg (by simp; omega)]
theorem front_short {m r : List Int} {f : Nat} (hm : IsMsg m) (hf : f < m.length) : firstE ((m ++ r).take f) ≠ 0 := by
  obtain ⟨h0, h1⟩ := hm
  obtain ⟨h4, h5, h6⟩ := first_ok h0
  have hl : ((m ++ r).take f).length = f := by simp; omega
  unfold firstE
  rw [hl]
  by_cases h : f < 4
  · rw [if_pos h]; decide
  · rw [if_neg h]
    have hh : headN ((m ++ r).take f) = headN m := by
      have e : m ++ r = (m ++ r).take f ++ (m ++ r).drop f := (List.take_append_drop f (m ++ r)).symm
      have k1 := headN_app' ((m ++ r).drop f) (a := (m ++ r).take f) (by rw [hl]; omega)
      rw [← e] at k1
      rw [← k1]
      exact headN_app' r h4
    rw [hh, if_neg (by omega), if_pos (by omega)]
    decide
/-- The front, as a part of all. -/
theorem front_is {t : Nat} {E : Int → Option (List Int)} {all : List Int} (hP : Pcs t E) (hA : AgreeE (fun p => all.getD p.toNat 0) E) (hc : ∀ p : Int, Cov E p → p < all.length) : frontB t E = (all.drop t).take (frontB t E).length := by
  have hag := agree_front (t := t) hA
  have hcov := (front_cov hP).1
  apply List.ext_getElem?
  intro j
  by_cases hj : j < (frontB t E).length
  · have h1 := hag j hj
    have h2 := hc _ (hcov (t + j) (by omega) (by omega))
    rw [List.getElem?_take, if_pos hj, List.getElem?_drop, List.getElem?_eq_getElem hj]
    simp only [List.getD_eq_getElem?_getD, List.getElem?_eq_getElem hj, Option.getD_some] at h1
    rw [h1, show ((t : Int) + (j : Int)).toNat = t + j by omega, List.getElem?_eq_getElem (show t + j < all.length by omega)]
    rfl
  · rw [List.getElem?_eq_none (by omega), List.getElem?_eq_none (by rw [List.length_take]; omega)]
#print axioms next_sg
end Go.Proofs.Ythfmpnikchlhlaa
