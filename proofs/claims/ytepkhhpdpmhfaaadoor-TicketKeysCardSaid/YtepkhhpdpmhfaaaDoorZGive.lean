/- The function Give hands back a new slice: the bytes that came in, those of the part's length, the part; it writes nothing that was there. -/
import Derived.Test.YtepkhhpdpmhfaaaDoorZKCut
import Derived.Test.YtepkhhpdpmhfaaaDoorZClone
namespace Go.Proofs.YtepkhhpdpmhfaaaDoor
open Go Go.RowKit

theorem blkLt {w : World} {b : Nat} {o : Obj} (h : w.heap[b]? = some o) : b < w.heap.size := (Array.getElem?_eq_some_iff.1 h).1
theorem cells4 {w : World} {M : Nat} {T : TypeId} {c0 c1 c2 c3 : Value} (h : w.heap[M]? = some (.cells #[c0, c1, c2, c3] T (0, 0))) :
    w.cell? ⟨M, 0, none⟩ = some c0 ∧ w.cell? ⟨M, 1, none⟩ = some c1 ∧ w.cell? ⟨M, 2, none⟩ = some c2 ∧ w.cell? ⟨M, 3, none⟩ = some c3 ∧ ∀ j, w.frozen? ⟨M, j, none⟩ = false :=
  ⟨(cell_of_row w M 0 _ _ (0, 0) h).trans rfl, (cell_of_row w M 1 _ _ (0, 0) h).trans rfl, (cell_of_row w M 2 _ _ (0, 0) h).trans rfl, (cell_of_row w M 3 _ _ (0, 0) h).trans rfl, fun j => by simp [World.frozen?, h]⟩
theorem cells3 {w : World} {M : Nat} {T : TypeId} {c0 c1 c2 : Value} (h : w.heap[M]? = some (.cells #[c0, c1, c2] T (0, 0))) :
    w.cell? ⟨M, 0, none⟩ = some c0 ∧ w.cell? ⟨M, 1, none⟩ = some c1 ∧ w.cell? ⟨M, 2, none⟩ = some c2 ∧ ∀ j, w.frozen? ⟨M, j, none⟩ = false :=
  ⟨(cell_of_row w M 0 _ _ (0, 0) h).trans rfl, (cell_of_row w M 1 _ _ (0, 0) h).trans rfl, (cell_of_row w M 2 _ _ (0, 0) h).trans rfl, fun j => by simp [World.frozen?, h]⟩
theorem chain4_row {w : World} {M : Nat} {T : TypeId} {d0 d1 d2 d3 : Value} (h : w.heap[M]? = some (.cells #[d0, d1, d2, d3] T (0, 0))) (c0 c1 c2 c3 : Value) :
    ((((w.setCell ⟨M, 0, none⟩ c0).setCell ⟨M, 1, none⟩ c1).setCell ⟨M, 2, none⟩ c2).setCell ⟨M, 3, none⟩ c3).heap[M]? = some (.cells #[c0, c1, c2, c3] T (0, 0)) := by
  have e0 := heap_setCell_same _ M 0 _ T c0 h
  simp only [List.setIfInBounds_toArray, List.set_cons_zero] at e0
  have e1 := heap_setCell_same _ M 1 _ T c1 e0
  simp only [List.setIfInBounds_toArray, List.set_cons_zero, List.set_cons_succ] at e1
  have e2 := heap_setCell_same _ M 2 _ T c2 e1
  simp only [List.setIfInBounds_toArray, List.set_cons_zero, List.set_cons_succ] at e2
  have e3 := heap_setCell_same _ M 3 _ T c3 e2
  simp only [List.setIfInBounds_toArray, List.set_cons_zero, List.set_cons_succ] at e3
  exact e3
theorem chain3_row {w : World} {M : Nat} {T : TypeId} {d0 d1 d2 : Value} (h : w.heap[M]? = some (.cells #[d0, d1, d2] T (0, 0))) (c0 c1 c2 : Value) :
    (((w.setCell ⟨M, 0, none⟩ c0).setCell ⟨M, 1, none⟩ c1).setCell ⟨M, 2, none⟩ c2).heap[M]? = some (.cells #[c0, c1, c2] T (0, 0)) := by
  have e0 := heap_setCell_same _ M 0 _ T c0 h
  simp only [List.setIfInBounds_toArray, List.set_cons_zero] at e0
  have e1 := heap_setCell_same _ M 1 _ T c1 e0
  simp only [List.setIfInBounds_toArray, List.set_cons_zero, List.set_cons_succ] at e1
  have e2 := heap_setCell_same _ M 2 _ T c2 e1
  simp only [List.setIfInBounds_toArray, List.set_cons_zero, List.set_cons_succ] at e2
  exact e2
theorem chain4_but (w : World) (M : Nat) (c0 c1 c2 c3 : Value) : But M w ((((w.setCell ⟨M, 0, none⟩ c0).setCell ⟨M, 1, none⟩ c1).setCell ⟨M, 2, none⟩ c2).setCell ⟨M, 3, none⟩ c3) :=
  (((But.set _ M 0 c0).trans (But.set _ M 1 c1)).trans (But.set _ M 2 c2)).trans (But.set _ M 3 c3)
theorem chain3_but (w : World) (M : Nat) (c0 c1 c2 : Value) : But M w (((w.setCell ⟨M, 0, none⟩ c0).setCell ⟨M, 1, none⟩ c1).setCell ⟨M, 2, none⟩ c2) :=
  ((But.set _ M 0 c0).trans (But.set _ M 1 c1)).trans (But.set _ M 2 c2)
/-- What reads elsewhere reads so still. -/
theorem Rd.but {w w' : World} {M : Nat} {o : Obj} {v : Value} {zs : List Int} (h : Rd w v zs) (hb : But M w w') (hm : w.heap[M]? = some o) (ho : ∀ c e f, o = .cells c e f → ∀ x ∈ c.toList, ∀ z, x ≠ .int .u8 z) : Rd w' v zs := by
  obtain ⟨ao, cap, hv, h1, h2, h3, h4, hc⟩ := h
  refine ⟨ao, cap, hv, h1, h2, h3, h4, fun a ha j hj => ?_⟩
  have hj' := hc a ha j hj
  have hlt := cell_lt hj'
  by_cases e : (a.add j).block = M
  · exfalso
    unfold World.cell? at hj'
    rw [e, hm] at hj'
    cases o with
    | cells c t f =>
      simp only at hj'
      split at hj' <;> first | contradiction | skip
      all_goals
        first
          | (have := List.mem_of_getElem? (l := c.toList) (by simpa using hj'); exact ho c t f rfl _ this _ rfl)
          | skip
    | _ => simp at hj'
  · rw [← hj']
    unfold World.cell?
    rw [hb.block _ hlt e]
theorem res_token_read (tmps : Array Value) (w : World) (M : Nat) (c0 c1 c2 c3 x : Value) (h2 : tmps[2]?.getD undef = .pointer (some ⟨M, 0, none⟩)) (h3 : tmps[3]?.getD undef = x)
    (hL : w.heap[M]? = some (.cells #[c0, c1, c2, c3] 30 (0, 0))) :
    (results Tryd.f24 tmps).run Tryd.prog w = .ok (.tuple #[.agg #[c0, c1, c2, c3], x]) w := by
  have hcc := fun i => cell_of_row w M i _ 30 (0, 0) hL
  have a0 := hcc 0
  have a1 := hcc 1
  have a2 := hcc 2
  have a3 := hcc 3
  clear hcc
  simp [results, Tryd.results24, h2, h3, asAddr, a0, a1, a2, a3, go_sem]
theorem res_token_Look (tmps : Array Value) (w : World) (M : Nat) (c0 c1 c2 c3 x : Value) (h2 : tmps[6]?.getD undef = .pointer (some ⟨M, 0, none⟩)) (h3 : tmps[7]?.getD undef = x)
    (hL : w.heap[M]? = some (.cells #[c0, c1, c2, c3] 30 (0, 0))) :
    (results Tryd.f10 tmps).run Tryd.prog w = .ok (.tuple #[.agg #[c0, c1, c2, c3], x]) w := by
  have hcc := fun i => cell_of_row w M i _ 30 (0, 0) hL
  have a0 := hcc 0
  have a1 := hcc 1
  have a2 := hcc 2
  have a3 := hcc 3
  clear hcc
  simp [results, Tryd.results10, h2, h3, asAddr, a0, a1, a2, a3, go_sem]
theorem res_token_Check (tmps : Array Value) (w : World) (M : Nat) (c0 c1 c2 c3 x : Value) (h2 : tmps[12]?.getD undef = .pointer (some ⟨M, 0, none⟩)) (h3 : tmps[13]?.getD undef = x)
    (hL : w.heap[M]? = some (.cells #[c0, c1, c2, c3] 30 (0, 0))) :
    (results Tryd.f21 tmps).run Tryd.prog w = .ok (.tuple #[.agg #[c0, c1, c2, c3], x]) w := by
  have hcc := fun i => cell_of_row w M i _ 30 (0, 0) hL
  have a0 := hcc 0
  have a1 := hcc 1
  have a2 := hcc 2
  have a3 := hcc 3
  clear hcc
  simp [results, Tryd.results21, h2, h3, asAddr, a0, a1, a2, a3, go_sem]
theorem res_of (tmps : Array Value) (w : World) (M : Nat) (c0 c1 c2 c3 : Value) (h2 : tmps[2]?.getD undef = .pointer (some ⟨M, 0, none⟩))
    (hL : w.heap[M]? = some (.cells #[c0, c1, c2, c3] 30 (0, 0))) :
    (results Tryd.f8 tmps).run Tryd.prog w = .ok (.agg #[c0, c1, c2, c3]) w := by
  have hcc := fun i => cell_of_row w M i _ 30 (0, 0) hL
  have a0 := hcc 0
  have a1 := hcc 1
  have a2 := hcc 2
  have a3 := hcc 3
  clear hcc
  simp [results, Tryd.results8, h2, asAddr, a0, a1, a2, a3, go_sem]
theorem res_Redeem (tmps : Array Value) (w : World) (M : Nat) (c0 c1 c2 c3 x : Value) (h2 : tmps[8]?.getD undef = .pointer (some ⟨M, 0, none⟩)) (h3 : tmps[9]?.getD undef = x)
    (hL : w.heap[M]? = some (.cells #[c0, c1, c2, c3] 44 (0, 0))) :
    (results Tryd.f15 tmps).run Tryd.prog w = .ok (.tuple #[.agg #[c0, c1, c2, c3], x]) w := by
  have hcc := fun i => cell_of_row w M i _ 44 (0, 0) hL
  have a0 := hcc 0
  have a1 := hcc 1
  have a2 := hcc 2
  have a3 := hcc 3
  clear hcc
  simp [results, Tryd.results15, h2, h3, asAddr, a0, a1, a2, a3, go_sem]
theorem res_look (tmps : Array Value) (w : World) (M : Nat) (c0 c1 c2 c3 x : Value) (h2 : tmps[6]?.getD undef = .pointer (some ⟨M, 0, none⟩)) (h3 : tmps[7]?.getD undef = x)
    (hL : w.heap[M]? = some (.cells #[c0, c1, c2, c3] 44 (0, 0))) :
    (results Tryd.f29 tmps).run Tryd.prog w = .ok (.tuple #[.agg #[c0, c1, c2, c3], x]) w := by
  have hcc := fun i => cell_of_row w M i _ 44 (0, 0) hL
  have a0 := hcc 0
  have a1 := hcc 1
  have a2 := hcc 2
  have a3 := hcc 3
  clear hcc
  simp [results, Tryd.results29, h2, h3, asAddr, a0, a1, a2, a3, go_sem]
theorem res_tread (tmps : Array Value) (w : World) (M : Nat) (c0 c1 c2 x : Value) (h2 : tmps[2]?.getD undef = .pointer (some ⟨M, 0, none⟩)) (h3 : tmps[3]?.getD undef = x)
    (hL : w.heap[M]? = some (.cells #[c0, c1, c2] 3 (0, 0))) :
    (results Tryd.f46 tmps).run Tryd.prog w = .ok (.tuple #[.agg #[c0, c1, c2], x]) w := by
  have hcc := fun i => cell_of_row w M i _ 3 (0, 0) hL
  have a0 := hcc 0
  have a1 := hcc 1
  have a2 := hcc 2
  clear hcc
  simp [results, Tryd.results46, h2, h3, asAddr, a0, a1, a2, go_sem]
#print axioms res_token_read
end Go.Proofs.YtepkhhpdpmhfaaaDoor
namespace Go.Proofs.YtepkhhpdpmhfaaaDoor
open Go Go.RowKit

/-- A token's text. -/
def tokB (l : Bool) (a t : Int) (nm : List Int) : List Int := (if l then 1 else 0) :: (enc a ++ enc t ++ (enc nm.length ++ nm))
/-- What bytes say as a token. -/
def tokR (zs : List Int) : Option (Bool × Int × Int × List Int) :=
  match zs with
  | [] => none
  | z :: r =>
    if 1 < z then none
    else if (rd r).2.2 ≠ 0 then none
    else if (rd (r.drop (rd r).2.1.toNat)).2.2 ≠ 0 then none
    else
      let b := (r.drop (rd r).2.1.toNat).drop (rd (r.drop (rd r).2.1.toNat)).2.1.toNat
      if (tk b).2.2 ≠ 0 ∨ 0 < (tk b).2.1.length ∨ 20 < (tk b).1.length then none
      else some (decide (z = 1), (rd r).1, (rd (r.drop (rd r).2.1.toNat)).1, (tk b).1)
/-- One field: what is not read stays. -/
def nextP (zs : List Int) : Int × List Int := ((rd zs).1, zs.drop (rd zs).2.1.toNat)
/-- The program's way: field by field, asked at the end. -/
def tokQ (zs : List Int) : Option (Bool × Int × Int × List Int) :=
  let k := nextP zs
  let a := nextP k.2
  let c := nextP a.2
  let t := tk c.2
  if t.2.2 ≠ 0 ∨ 1 < k.1 ∨ 20 < t.1.length ∨ 0 < t.2.1.length then none else some (decide (k.1 = 1), a.1, c.1, t.1)
theorem rd_bad {zs : List Int} (h : (rd zs).2.2 ≠ 0) : nextP zs = (0, zs) ∧ (tk zs).2.2 ≠ 0 := by
  have e : rd zs = (0, 0, (rd zs).2.2) := by
    cases zs with
    | nil => rfl
    | cons z r =>
      simp only [rd] at h ⊢
      split
      · rfl
      · rename_i h1
        rw [if_neg h1] at h
        split
        · rename_i h2
          rw [if_pos h2] at h
          exact absurd rfl h
        · rfl
  constructor
  · unfold nextP
    rw [e]; rfl
  · rw [tk_err zs 0 0 _ e h]
    exact h
/-- A first number of 0 or 1 is its byte. -/
theorem rd_first {z : Int} {r : List Int} (hz : 0 ≤ z ∧ z ≤ 255) (h : z < 64) : rd (z :: r) = (z, 1, 0) := by
  have hf : fs z = 1 := by
    have : z / 64 = 0 := by omega
    simp [fs, this]
  have hv : val ((z :: r).take 1) = z := by
    simp [val, vf]; omega
  simp only [rd, hf, hv]
  rw [if_neg (by simp), if_pos]
  · rfl
  · simp [sz, h]; omega
theorem rd_big {z : Int} {r : List Int} (hb : Byt (z :: r)) (hz : 1 < z) (h : (rd (z :: r)).2.2 = 0) : 1 < (rd (z :: r)).1 := by
  have hz' := hb z (by simp)
  by_cases h6 : z < 64
  · rw [rd_first hz' h6]; exact hz
  · have hv0 := val_nonneg ((z :: r).take (fs z)) (hb.take _)
    simp only [rd] at h ⊢
    split at h
    · simp at h
    · rename_i h1
      rw [if_neg h1]
      split at h
      · rename_i h2
        rw [if_pos h2]
        show 1 < val ((z :: r).take (fs z))
        generalize val ((z :: r).take (fs z)) = v at *
        have h4 : fs z = 2 ∨ fs z = 4 ∨ fs z = 8 := by
          rcases fs_cases z hz' with ⟨a, b⟩ | ⟨a, b⟩ | ⟨a, b⟩ | ⟨a, b⟩
          · omega
          · exact .inl b
          · exact .inr (.inl b)
          · exact .inr (.inr b)
        by_cases hc : v < 64
        · exfalso
          have : sz v = 1 := by simp [sz, hc]; omega
          rw [this] at h2
          rcases h4 with e | e | e <;> rw [e] at h2 <;> omega
        · omega
      · simp at h
theorem tok_eq {zs : List Int} (hb : Byt zs) : tokQ zs = tokR zs := by
  cases zs with
  | nil => rfl
  | cons z r =>
    have hz := hb z (by simp)
    have hr : Byt r := fun x hx => hb x (by simp [hx])
    by_cases h1 : 1 < z
    · have e : tokR (z :: r) = none := by simp [tokR, h1]
      rw [e]
      unfold tokQ
      by_cases h0 : (rd (z :: r)).2.2 = 0
      · have := rd_big hb h1 h0
        simp only
        rw [if_pos (.inr (.inl this))]
      · obtain ⟨a, b⟩ := rd_bad h0
        simp only [a]
        rw [if_pos (.inl b)]
    · have hn : nextP (z :: r) = (z, r) := by
        unfold nextP
        rw [rd_first hz (by omega)]; rfl
      unfold tokQ tokR
      simp only [hn]
      rw [if_neg h1]
      by_cases h2 : (rd r).2.2 = 0
      · rw [if_neg (show ¬ (rd r).2.2 ≠ 0 by simpa using h2)]
        have e1 : nextP r = ((rd r).1, r.drop (rd r).2.1.toNat) := rfl
        simp only [e1]
        generalize r.drop (rd r).2.1.toNat = s at *
        by_cases h3 : (rd s).2.2 = 0
        · rw [if_neg (show ¬ (rd s).2.2 ≠ 0 by simpa using h3)]
          have e2 : nextP s = ((rd s).1, s.drop (rd s).2.1.toNat) := rfl
          simp only [e2]
          generalize tk (List.drop (rd s).2.1.toNat s) = t
          by_cases h4 : t.2.2 ≠ 0 ∨ 0 < t.2.1.length ∨ 20 < t.1.length
          · rw [if_pos (show t.2.2 ≠ 0 ∨ 1 < z ∨ 20 < t.1.length ∨ 0 < t.2.1.length from ?_), if_pos h4]
            rcases h4 with h | h | h
            · exact .inl h
            · exact .inr (.inr (.inr h))
            · exact .inr (.inr (.inl h))
          · rw [if_neg (show ¬ (t.2.2 ≠ 0 ∨ 1 < z ∨ 20 < t.1.length ∨ 0 < t.2.1.length) from ?_), if_neg h4]
            intro h
            apply h4
            rcases h with h | h | h | h
            · exact .inl h
            · exact absurd h h1
            · exact .inr (.inr h)
            · exact .inr (.inl h)
        · rw [if_pos (show (rd s).2.2 ≠ 0 from h3)]
          obtain ⟨a, b⟩ := rd_bad h3
          simp only [a]
          rw [if_pos (.inl b)]
      · rw [if_pos (show (rd r).2.2 ≠ 0 from h2)]
        obtain ⟨a, b⟩ := rd_bad h2
        have e3 : nextP r = (0, r) := a
        have e4 := rd_bad h2
        simp only [e3]
        rw [if_pos (.inl b)]
theorem tk_give (p r : List Int) (hp : p.length ≤ 1000) : tk (enc p.length ++ p ++ r) = (p, r, 0) := by
  have h := rd_enc p.length (by omega) (by omega) (p ++ r)
  rw [← List.append_assoc] at h
  have := tk_ok (enc p.length ++ p ++ r) p.length (enc p.length).length h (by simp)
  rw [this, List.append_assoc, List.drop_left]
  simp
/-- What is written is read as it was. -/
theorem tok_back (l : Bool) {a t : Int} {nm : List Int} (ha : 0 ≤ a ∧ a < 4611686018427387904) (ht : 0 ≤ t ∧ t < 4611686018427387904) (hn : nm.length ≤ 20) :
    tokR (tokB l a t nm) = some (l, a, t, nm) := by
  have e1 := rd_enc a ha.1 ha.2 (enc t ++ (enc nm.length ++ nm))
  have e2 := rd_enc t ht.1 ht.2 (enc nm.length ++ nm)
  have e3 := tk_give nm [] (by omega)
  rw [List.append_nil] at e3
  unfold tokB tokR
  simp only [List.append_assoc]
  rw [if_neg (by cases l <;> simp), e1]
  simp only [ne_eq, not_true_eq_false, if_false, Int.toNat_natCast, List.drop_left, e2, e3]
  rw [if_neg (by simp; omega)]
  cases l <;> simp
theorem tokB_byt (l : Bool) (a t : Int) {nm : List Int} (h : Byt nm) : Byt (tokB l a t nm) := by
  intro z hz
  unfold tokB at hz
  rcases List.mem_cons.1 hz with rfl | hz
  · cases l <;> decide
  · exact (((enc_byt a).app (enc_byt t)).app ((enc_byt _).app h)) z hz
theorem tokB_len (l : Bool) (a t : Int) (nm : List Int) : (tokB l a t nm).length ≤ 25 + nm.length := by
  have := enc_len a
  have := enc_len t
  have := enc_len (nm.length : Int)
  unfold tokB
  simp only [List.length_cons, List.length_append]
  omega
/-- Two say the same just if they are the same. -/
theorem tokB_inj {l l' : Bool} {a a' t t' : Int} {nm nm' : List Int} (ha : 0 ≤ a ∧ a < 4611686018427387904) (ht : 0 ≤ t ∧ t < 4611686018427387904) (hn : nm.length ≤ 20) (ha' : 0 ≤ a' ∧ a' < 4611686018427387904) (ht' : 0 ≤ t' ∧ t' < 4611686018427387904) (hn' : nm'.length ≤ 20)
    (h : tokB l a t nm = tokB l' a' t' nm') : l = l' ∧ a = a' ∧ t = t' ∧ nm = nm' := by
  have e1 := tok_back l ha ht hn
  rw [h, tok_back l' ha' ht' hn'] at e1
  simp only [Option.some.injEq, Prod.mk.injEq] at e1
  exact ⟨e1.1.symm, e1.2.1.symm, e1.2.2.1.symm, e1.2.2.2.symm⟩
theorem tokR_some {zs : List Int} {r : Bool × Int × Int × List Int} (hb : Byt zs) (h : tokR zs = some r) : 0 ≤ r.2.2.1 ∧ r.2.2.1 < 4611686018427387904 := by
  cases zs with
  | nil => cases h
  | cons z s =>
    have hs : Byt s := fun x hx => hb x (by simp [hx])
    unfold tokR at h
    simp only at h
    split at h
    · cases h
    · split at h
      · cases h
      · split at h
        · cases h
        · rename_i h3
          split at h
          · cases h
          · cases h
            have := rd_bd _ (hs.drop (rd s).2.1.toNat)
            have h3' : (rd (s.drop (rd s).2.1.toNat)).2.2 = 0 := by simpa using h3
            exact ⟨this.1, (this.2.1 h3').2.2⟩
#print axioms tok_eq
#print axioms tok_back
end Go.Proofs.YtepkhhpdpmhfaaaDoor
namespace Go.Proofs.YtepkhhpdpmhfaaaDoor
open Go Go.RowKit

set_option maxRecDepth 20000 in
set_option maxHeartbeats 800000 in
theorem give_any {w : World} {vb vp : Value} {zb zp : List Int} (hb : Rd w vb zb) (hp : Rd w vp zp) (h1 : zb.length ≤ 1000) (h2 : zp.length ≤ 1000) (ht : Tab w) (hw : 1 < w.heap.size) :
    Calls Tryd.prog 32 #[vb, vp] w fun e w' => ∃ v', e = .returned v' ∧ w'.ownsRow w.heap.size 5 1 v' (zb.length + (enc zp.length).length + zp.length) (by8 (zb ++ enc zp.length ++ zp)) ∧ Below w.heap.size w w' := by
  have hp' := hp
  obtain ⟨ab, cb, rfl, _⟩ := hp'
  have hl8 := enc_len zp.length
  go_enter Tryd.func32, Tryd.ntmps32
  go_wp2_with fail
  refine (append_any hb (by omega) (zp.length : Int) ht hw).mono ?_
  rintro e w1 ⟨v1, rfl, hown1, hb1⟩
  have gp := hp.below hb1
  have s1 := hb1.size
  go_wp2_with (at_builtin; refine wpList_append_bytes (.tmp 8) (.tmp 9) 22 rfl rfl info5 Tryd.underlying22 w.heap.size _ _ _ rfl hown1 _ zp rfl gp (by omega) s1 ?_; intro v2 w2 hown2 hb2)
  go_ret
  exact ⟨_, rfl, hown2, hb1.trans hb2⟩
#print axioms give_any
end Go.Proofs.YtepkhhpdpmhfaaaDoor
