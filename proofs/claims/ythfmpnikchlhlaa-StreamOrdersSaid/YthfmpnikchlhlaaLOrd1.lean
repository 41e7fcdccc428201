/- law 13: StreamOrders: the stream and what is left, told beside the messages. -/
import Derived.Test.YthfmpnikchlhlaaLOrd0
namespace Go.Proofs.Ythfmpnikchlhlaa
open Go Go.RowKit

/-- Pieces one behind the other, up to p. -/
structure Parts (n : Nat) (fs : List (Nat × Nat)) (p : Nat) : Prop where
  ok : ∀ q ∈ fs, q.1 < q.2 ∧ q.2 ≤ n
  cov : ∀ x, x < p → ∃ q ∈ fs, q.1 ≤ x ∧ x < q.2
  le : p ≤ n
theorem Parts.nil (n : Nat) : Parts n [] 0 := ⟨fun _ h => (by cases h), fun x h => absurd h (Nat.not_lt_zero x), Nat.zero_le _⟩
theorem Parts.snoc {n p r : Nat} {fs : List (Nat × Nat)} (h : Parts n fs p) (h1 : p < r) (h2 : r ≤ n) : Parts n (fs ++ [(p, r)]) r := by
  refine ⟨fun q hq => ?_, fun x hx => ?_, h2⟩
  · rcases List.mem_append.1 hq with hq | hq
    · exact h.ok q hq
    · rw [List.mem_singleton.1 hq]; exact ⟨h1, h2⟩
  · by_cases hp : x < p
    · obtain ⟨q, hq, h3⟩ := h.cov x hp
      exact ⟨q, List.mem_append_left _ hq, h3⟩
    · exact ⟨(p, r), List.mem_append_right _ (List.mem_singleton.2 rfl), by omega, hx⟩
/-- The byte at a place. -/
def byteA (al : List Int) : Int → Int := fun p => al.getD p.toNat 0
/-- The stream behind i rounds, k messages taken. -/
structure Mid (X w2 : World) (ws : List (Value × List Int)) (fs : List (Nat × Nat)) (m0 i k t : Nat) (E : Int → Option (List Int)) : Prop where
  bl : Below X.heap.size X w2
  sg : Sg w2 X.heap.size X.heap.size t (i + k) (byteA (flat ws)) E
  kk : k ≤ ws.length
  tt : t = (flat (ws.take k)).length
  cv : ∀ p : Int, Cov E p → p < (flat ws).length
  hd : ∀ (j : Nat) q, j + m0 < i → fs[j]? = some q → ∀ x : Nat, q.1 ≤ x → x < q.2 → t ≤ x → Cov E x
theorem flat_drop (ws : List (Value × List Int)) (k : Nat) : (flat ws).drop (flat (ws.take k)).length = flat (ws.drop k) := by
  have e : flat ws = flat (ws.take k) ++ flat (ws.drop k) := by
    unfold flat
    rw [← List.flatten_append, ← List.map_append, List.take_append_drop]
  rw [e, List.drop_left]
theorem flat_take_le (ws : List (Value × List Int)) (k : Nat) : (flat (ws.take k)).length ≤ (flat ws).length := by
  have e : flat ws = flat (ws.take k) ++ flat (ws.drop k) := by
    unfold flat
    rw [← List.flatten_append, ← List.map_append, List.take_append_drop]
  rw [e, List.length_append]
  omega
theorem flat_cons (q : Value × List Int) (ws : List (Value × List Int)) : flat (q :: ws) = q.2 ++ flat ws := by simp [flat]
/-- A piece was put. -/
theorem Mid.put {X w2 w3 : World} {ws : List (Value × List Int)} {fs : List (Nat × Nat)} {m0 i k t : Nat} {E E' : Int → Option (List Int)} {q : Nat × Nat} (h : Mid X w2 ws fs m0 i k t E) (hq : q.1 < q.2 ∧ q.2 ≤ (flat ws).length) (hj : ∀ j q', j + m0 = i → fs[j]? = some q' → q' = q)
    (hs : Sg w3 X.heap.size X.heap.size t (i + k + 1) (byteA (flat ws)) E') (hc : ∀ p : Int, (t : Int) ≤ p → (Cov E' p ↔ ((q.1 : Int) ≤ p ∧ p < q.1 + ((q.2 - q.1 : Nat) : Int)) ∨ Cov E p)) (hb : Below X.heap.size w2 w3) : Mid X w3 ws fs m0 (i + 1) k t E' := by
  refine ⟨h.bl.trans hb, by rw [show i + 1 + k = i + k + 1 by omega]; exact hs, h.kk, h.tt, fun p hp => ?_, fun j q' hj1 hj2 x h1 h2 h3 => ?_⟩
  · have hpt : (t : Int) ≤ p := by
      obtain ⟨s, l, hE, h1, h2⟩ := hp
      have := (hs.pcs.lo s l hE).1
      omega
    rcases (hc p hpt).1 hp with h1 | h1
    · omega
    · exact h.cv p h1
  · refine (hc x (by omega)).2 ?_
    by_cases he : j + m0 = i
    · have := hj j q' he hj2
      subst this
      exact .inl (by omega)
    · exact .inr (h.hd j q' (by omega) hj2 x h1 h2 h3)
/-- Nothing was put. -/
theorem Mid.skip {X w2 : World} {ws : List (Value × List Int)} {fs : List (Nat × Nat)} {m0 i k t : Nat} {E : Int → Option (List Int)} (h : Mid X w2 ws fs m0 i k t E) (he : fs = []) : Mid X w2 ws fs m0 (i + 1) k t E := by
  refine ⟨h.bl, ?_, h.kk, h.tt, h.cv, fun j q _ hj => by rw [he] at hj; simp at hj⟩
  obtain ⟨mo, a, b, c, d⟩ := h.sg
  refine ⟨mo, ⟨a.box, ?_, a.pcs, a.tb⟩, b, c, d⟩
  rcases a.mp with e | ⟨mb, f, e1, e2, e3⟩
  · exact .inl e
  · exact .inr ⟨mb, f, e1, e2.mono (by omega), e3⟩
/-- What can be taken is the next message. -/
theorem Mid.front {X w2 : World} {ws : List (Value × List Int)} {fs : List (Nat × Nat)} {m0 i k t : Nat} {E : Int → Option (List Int)} (h : Mid X w2 ws fs m0 i k t E) (hm : ∀ q ∈ ws, IsMsg q.2) (he : firstE (frontB t E) = 0) :
    ∃ q, ws[k]? = some q ∧ headN (frontB t E) + 4 = q.2.length ∧ (frontB t E).take (headN (frontB t E) + 4) = q.2 := by
  have hfr := front_is h.sg.pcs h.sg.agree h.cv
  rw [h.tt, flat_drop] at hfr
  rw [← h.tt] at hfr
  cases hd : ws.drop k with
  | nil =>
    rw [hd] at hfr
    have e : frontB t E = [] := by rw [hfr]; simp [flat]
    rw [e] at he
    exact absurd he (by decide)
  | cons q r =>
    have hk : ws[k]? = some q := by
      have := congrArg (fun l => l[0]?) hd
      simpa using this
    have hmq := hm q (List.mem_of_getElem? hk)
    rw [hd, flat_cons] at hfr
    generalize hf : frontB t E = fr at *
    by_cases hlen : fr.length < q.2.length
    · rw [hfr] at he
      exact absurd he (front_short hmq hlen)
    · have hl := front_long (r := flat r) (f := fr.length) hmq (by omega)
      rw [← hfr] at hl
      exact ⟨q, hk, hl.2.1, by rw [hl.2.1]; exact hl.2.2⟩
/-- A message was taken. -/
theorem Mid.take {X w2 w3 : World} {ws : List (Value × List Int)} {fs : List (Nat × Nat)} {m0 i k t : Nat} {E : Int → Option (List Int)} {q : Value × List Int} {n : Nat} (h : Mid X w2 ws fs m0 i k t E) (hq : ws[k]? = some q) (hn : n = q.2.length) (hn0 : 0 < n) (hnf : n ≤ (frontB t E).length)
    (hs : Sg w3 X.heap.size X.heap.size (t + n) (i + k + 1) (byteA (flat ws)) (nextE t E n)) (hb : Below X.heap.size w2 w3) : Mid X w3 ws fs m0 i (k + 1) (t + n) (nextE t E n) := by
  have hcn := fun p => cov_next h.sg.pcs hnf hn0 p
  have hlt := (List.getElem?_eq_some_iff.1 hq).1
  refine ⟨h.bl.trans hb, hs, by omega, ?_, fun p hp => h.cv p ((hcn p).1 hp).2, fun j q' h1 h2 x h3 h4 h5 => (hcn x).2 ⟨by omega, h.hd j q' h1 h2 x h3 h4 (by omega)⟩⟩
  have e : ws.take (k + 1) = ws.take k ++ [q] := by
    have := List.take_append_getElem hlt
    rw [← this]
    have h2 := List.getElem?_eq_getElem hlt
    rw [hq] at h2
    rw [← Option.some.inj h2]
  rw [e, flat_snoc, List.length_append, ← h.tt, hn]
/-- When all was put, all is taken. -/
theorem Mid.done {X w2 : World} {ws : List (Value × List Int)} {fs : List (Nat × Nat)} {m0 i k t : Nat} {E : Int → Option (List Int)} (h : Mid X w2 ws fs m0 i k t E) (hm : ∀ q ∈ ws, IsMsg q.2) (hP : Parts (flat ws).length fs (flat ws).length) (hi : i = m0 + fs.length) (hfe : fs = [] ∨ firstE (frontB t E) ≠ 0) :
    k = ws.length ∧ t = (flat ws).length := by
  have hkk := h.kk
  by_cases hk : k < ws.length
  · exfalso
    have hq : ws[k]? = some ws[k] := List.getElem?_eq_getElem hk
    have hmq := hm _ (List.mem_of_getElem? hq)
    have hd : (flat ws).drop t = ws[k].2 ++ flat (ws.drop (k + 1)) := by
      rw [h.tt, flat_drop, List.drop_eq_getElem_cons hk, flat_cons]
    have h4 : 4 ≤ ws[k].2.length := (first_ok hmq.1).1
    have hlen := congrArg List.length hd
    simp only [List.length_drop, List.length_append] at hlen
    rcases hfe with he | he
    · obtain ⟨q, hq', _⟩ := hP.cov 0 (by omega)
      rw [he] at hq'
      cases hq'
    · have hall : ∀ p : Int, (t : Int) ≤ p → p < (flat ws).length → Cov E p := fun p h1 h2 => by
        obtain ⟨q, hq', h5, h6⟩ := hP.cov p.toNat (by omega)
        obtain ⟨j, hj⟩ := List.getElem?_of_mem hq'
        have hjl := (List.getElem?_eq_some_iff.1 hj).1
        have := h.hd j q (by omega) hj p.toNat h5 h6 (by omega)
        rwa [show ((p.toNat : Nat) : Int) = p by omega] at this
      have hfr := front_is h.sg.pcs h.sg.agree h.cv
      have hge : ¬ ((t : Int) + (frontB t E).length < (flat ws).length) := fun hlt => (front_cov h.sg.pcs).2 (hall _ (by omega) hlt)
      have hl := front_long (r := flat (ws.drop (k + 1))) (f := (frontB t E).length) hmq (by omega)
      rw [← hd, ← hfr] at hl
      exact he hl.1
  · have e : k = ws.length := by omega
    exact ⟨e, by rw [h.tt, e, List.take_length]⟩
theorem Mid.below {X w2 w3 : World} {ws : List (Value × List Int)} {fs : List (Nat × Nat)} {m0 i k t : Nat} {E : Int → Option (List Int)} (h : Mid X w2 ws fs m0 i k t E) (hb : Below w2.heap.size w2 w3) : Mid X w3 ws fs m0 i k t E :=
  ⟨h.bl.trans (hb.mono h.bl.size), h.sg.below hb, h.kk, h.tt, h.cv, h.hd⟩
theorem next_mid {X w2 : World} {ws : List (Value × List Int)} {fs : List (Nat × Nat)} {m0 i k t : Nat} {E : Int → Option (List Int)} (h : Mid X w2 ws fs m0 i k t E) (hm : ∀ q ∈ ws, IsMsg q.2) (hn : i + k ≤ 1000000) (hfl : (flat ws).length ≤ 1000) :
    Calls Try.prog 9 #[.pointer (some ⟨X.heap.size, 0, none⟩)] w2 fun e w3 =>
      (∃ ec, ec ≠ 0 ∧ e = .returned (.tuple #[.slice none 0 0, .int .i64 ec]) ∧ Mid X w3 ws fs m0 i k t E ∧ firstE (frontB t E) ≠ 0) ∨
      (∃ a n c q t' E', e = .returned (.tuple #[.slice a n c, .int .i64 0]) ∧ ws[k]? = some q ∧ Rd w3 (.slice a n c) q.2 ∧ Mid X w3 ws fs m0 i (k + 1) t' E') := by
  have ht : t ≤ 1000 := by have := flat_take_le ws k; rw [← h.tt] at this; omega
  refine (next_sg hn h.sg h.bl.size (by omega)).mono fun e w3 hpost => ?_
  rcases hpost with ⟨h1, rfl, hs, hb⟩ | ⟨h1, v, rfl, hr, hs, hb⟩
  · exact .inl ⟨_, h1, rfl, ⟨h.bl.trans hb, hs, h.kk, h.tt, h.cv, h.hd⟩, h1⟩
  · obtain ⟨q, hq, hl, ht'⟩ := h.front hm h1
    obtain ⟨h4, h5, h6⟩ := first_ok h1
    rw [ht'] at hr
    obtain ⟨a, n, c, rfl⟩ := hr.shape3
    exact .inr ⟨a, n, c, q, _, _, rfl, hq, hr, h.take hq hl (by omega) h6 (by rw [show i + k + 1 = i + k + 1 from rfl]; exact hs) hb⟩
theorem put_mid {X w2 : World} {ws : List (Value × List Int)} {fs : List (Nat × Nat)} {m0 i k t : Nat} {E : Int → Option (List Int)} {q : Nat × Nat} {v : Value} (h : Mid X w2 ws fs m0 i k t E) (hn : i + k ≤ 1000000) (hfl : (flat ws).length ≤ 1000) (hq : q.1 < q.2 ∧ q.2 ≤ (flat ws).length) (hj : ∀ j q', j + m0 = i → fs[j]? = some q' → q' = q)
    (hr : Rd w2 v (((flat ws).take q.2).drop q.1)) (hp : Plain v) :
    Calls Try.prog 12 #[.pointer (some ⟨X.heap.size, 0, none⟩), .int .i64 (q.1 : Int), v] w2 fun e w3 => e = .returned (.int .i64 0) ∧ ∃ E', Mid X w3 ws fs m0 (i + 1) k t E' := by
  have hlen : (((flat ws).take q.2).drop q.1).length = q.2 - q.1 := by simp; omega
  have hag : Agree (byteA (flat ws)) (q.1 : Int) (((flat ws).take q.2).drop q.1) := fun j hj' => by
    rw [hlen] at hj'
    unfold byteA
    rw [show ((q.1 : Int) + (j : Int)).toNat = q.1 + j by omega]
    simp only [List.getD_eq_getElem?_getD, List.getElem?_drop, List.getElem?_take]
    rw [if_pos (by omega)]
  obtain ⟨_, rfl, hc⟩ := put_sg (q.1 : Int) hn h.sg h.bl.size hr hp (by rw [hlen]; omega) hag ⟨by omega, by omega⟩ (by rw [hlen]; omega)
  refine hc.mono fun e w3 ⟨he, E', hs, hcv, hb⟩ => ⟨he, E', ?_⟩
  rw [hlen] at hcv
  exact h.put hq hj hs hcv hb
#print axioms put_mid
end Go.Proofs.Ythfmpnikchlhlaa
