/- What stream.Messages tells: one message, or not. -/
import Derived.Test.YtefcjggmlhoebaaDoorSFirst
import Derived.Test.YtefcjggmlhoebaaDoorSRMsgs
import Derived.Test.YtefcjggmlhoebaaDoorHlEq
namespace Go.Proofs.YtefcjggmlhoebaaDoor
open Go Go.RowKit

/-- A message's head. -/
def headB (kind : Int) (n : Nat) : List Int := [kind, (n : Int) / 65536, (n : Int) / 256 % 256, (n : Int) % 256]
/-- A message's bytes; none, if it may not be. -/
def msgB (kind : Int) (body : List Int) : List Int := if kind < 0 ∨ 255 < kind ∨ 2000 < body.length then [] else headB kind body.length ++ body
theorem headB_byt {kind : Int} {n : Nat} (hk : 0 ≤ kind ∧ kind ≤ 255) (hn : n ≤ 2000) : Byt (headB kind n) := by
  intro z hz
  simp only [headB, List.mem_cons, List.not_mem_nil, or_false] at hz
  rcases hz with rfl | rfl | rfl | rfl <;> omega
set_option maxRecDepth 20000 in
set_option maxHeartbeats 2000000 in
theorem message_any {w : World} {v : Value} {zs : List Int} (kind : Int) (hr : Rd w v zs) (hl : zs.length ≤ 1000000) :
    Calls Tryd.prog 20 #[.int .i64 kind, v] w fun e w' => ∃ v', e = .returned v' ∧ (Ra w.heap.size w' v' (msgB kind zs) ∧ Plain v') ∧ Below w.heap.size w w' := by
  obtain ⟨ao, cap, rfl⟩ := hr.shape
  have hn : ∀ w', Ra w.heap.size w' (.slice none 0 0) [] := fun w' => ⟨Rd.nil _, fun _ _ _ h => by cases h⟩
  by_cases h1 : kind < 0
  · have e : msgB kind zs = [] := by simp [msgB, h1]
    have HEE := Lib.hid e
    clear e
    have d1 : decide (kind < 0) = true := decide_eq_true h1
    clear hr
    go_enter Tryd.func20, Tryd.ntmps20
    go_wp2_with fail
    go_ret
    refine ⟨.slice none 0 0, rfl, ⟨?_, .inl rfl⟩, Below.refl _ _⟩
    rw [HEE.out]
    exact hn _
  · have d1 : decide (kind < 0) = false := decide_eq_false h1
    by_cases h2 : 255 < kind
    · have e : msgB kind zs = [] := by simp [msgB, h2]
      have HEE := Lib.hid e
      clear e
      have d2 : decide (255 < kind) = true := decide_eq_true h2
      clear hr
      go_enter Tryd.func20, Tryd.ntmps20
      go_wp2_with fail
      go_ret
      refine ⟨.slice none 0 0, rfl, ⟨?_, .inl rfl⟩, Below.refl _ _⟩
      rw [HEE.out]
      exact hn _
    · have d2 : decide (255 < kind) = false := decide_eq_false h2
      by_cases h3 : 2000 < zs.length
      · have e : msgB kind zs = [] := by simp [msgB, h3]
        have HEE := Lib.hid e
        clear e
        have d3 : decide (2000 < (zs.length : Int)) = true := decide_eq_true (by omega)
        clear hr
        go_enter Tryd.func20, Tryd.ntmps20
        go_wp2_with fail
        go_ret
        refine ⟨.slice none 0 0, rfl, ⟨?_, .inl rfl⟩, Below.refl _ _⟩
        rw [HEE.out]
        exact hn _
      · have e : msgB kind zs = headB kind zs.length ++ zs := by simp [msgB, h1, h2, h3]
        have HEE := Lib.hid e
        clear e
        have d3 : decide (2000 < (zs.length : Int)) = false := decide_eq_false (by omega)
        have hb := headB_byt (kind := kind) (n := zs.length) ⟨by omega, by omega⟩ (by omega)
        have w1 : IntKind.u8.wrap kind = kind := IntWalk.u8_in _ ⟨by omega, by omega⟩
        have hO := own_lit w [kind, (zs.length : Int) / 65536, (zs.length : Int) / 256, (zs.length : Int) % 256] (by simp)
        have hh : headB kind zs.length = [kind, (zs.length : Int) / 65536, (zs.length : Int) / 256, (zs.length : Int) % 256] := by
          unfold headB
          rw [show ((zs.length : Int) / 256 % 256) = (zs.length : Int) / 256 by omega]
        have hR := hr.alloc (.cells (by8 [kind, (zs.length : Int) / 65536, (zs.length : Int) / 256, (zs.length : Int) % 256]).toArray 5)
        have hB := below_alloc w (.cells (by8 [kind, (zs.length : Int) / 65536, (zs.length : Int) / 256, (zs.length : Int) % 256]).toArray 5)
        have hl' : 4 + zs.length ≤ 140737488355328 := by omega
        have hs : w.heap.size ≤ (w.alloc (.cells (by8 [kind, (zs.length : Int) / 65536, (zs.length : Int) / 256, (zs.length : Int) % 256]).toArray 5)).heap.size := by simp
        simp only [by8, List.map_cons, List.map_nil, List.length_cons, List.length_nil, Nat.zero_add, Nat.reduceAdd] at hO hR hB hs
        have HZ := Lib.hid hr.byt
        clear hr
        go_enter Tryd.func20, Tryd.ntmps20
        go_wp2_with (at_builtin; refine wpList_append_bytes (.tmp 29) (.tmp 30) 22 rfl rfl info5 Tryd.underlying22 w.heap.size _ 4 [kind, (zs.length : Int) / 65536, (zs.length : Int) / 256, (zs.length : Int) % 256] rfl hO _ zs rfl hR hl' hs ?_; intro v2 w2 hown2 hb2)
        go_ret
        have hown3 : w2.ownsRow w.heap.size 5 1 v2 (4 + zs.length) (by8 (msgB kind zs)) := by rw [HEE.out, hh]; exact hown2
        exact ⟨v2, rfl, ra_own hown3 (by rw [HEE.out]; exact hb.app HZ.out), hB.trans hb2⟩
set_option maxRecDepth 20000 in
set_option maxHeartbeats 2000000 in
theorem rmessage_any {w : World} {v : Value} {zs : List Int} (kind : Int) (hr : Rd w v zs) (hl : zs.length ≤ 1000000) :
    Calls Tryd.prog 36 #[.int .i64 kind, v] w fun e w' => ∃ v', e = .returned v' ∧ (Ra w.heap.size w' v' (msgB kind zs) ∧ Plain v') ∧ Below w.heap.size w w' := by
  obtain ⟨ao, cap, rfl⟩ := hr.shape
  have hn : ∀ w', Ra w.heap.size w' (.slice none 0 0) [] := fun w' => ⟨Rd.nil _, fun _ _ _ h => by cases h⟩
  by_cases h1 : kind < 0
  · have e : msgB kind zs = [] := by simp [msgB, h1]
    have HEE := Lib.hid e
    clear e
    have d1 : decide (kind < 0) = true := decide_eq_true h1
    clear hr
    go_enter Tryd.func36, Tryd.ntmps36
    go_wp2_with fail
    go_ret
    refine ⟨.slice none 0 0, rfl, ⟨?_, .inl rfl⟩, Below.refl _ _⟩
    rw [HEE.out]
    exact hn _
  · have d1 : decide (kind < 0) = false := decide_eq_false h1
    by_cases h2 : 255 < kind
    · have e : msgB kind zs = [] := by simp [msgB, h2]
      have HEE := Lib.hid e
      clear e
      have d2 : decide (255 < kind) = true := decide_eq_true h2
      clear hr
      go_enter Tryd.func36, Tryd.ntmps36
      go_wp2_with fail
      go_ret
      refine ⟨.slice none 0 0, rfl, ⟨?_, .inl rfl⟩, Below.refl _ _⟩
      rw [HEE.out]
      exact hn _
    · have d2 : decide (255 < kind) = false := decide_eq_false h2
      by_cases h3 : 2000 < zs.length
      · have e : msgB kind zs = [] := by simp [msgB, h3]
        have HEE := Lib.hid e
        clear e
        have d3 : decide (2000 < (zs.length : Int)) = true := decide_eq_true (by omega)
        clear hr
        go_enter Tryd.func36, Tryd.ntmps36
        go_wp2_with fail
        go_ret
        refine ⟨.slice none 0 0, rfl, ⟨?_, .inl rfl⟩, Below.refl _ _⟩
        rw [HEE.out]
        exact hn _
      · have e : msgB kind zs = headB kind zs.length ++ zs := by simp [msgB, h1, h2, h3]
        have HEE := Lib.hid e
        clear e
        have d3 : decide (2000 < (zs.length : Int)) = false := decide_eq_false (by omega)
        have hb := headB_byt (kind := kind) (n := zs.length) ⟨by omega, by omega⟩ (by omega)
        have w1 : IntKind.u8.wrap kind = kind := IntWalk.u8_in _ ⟨by omega, by omega⟩
        have hO := own_lit w [kind, (zs.length : Int) / 65536, (zs.length : Int) / 256 % 256, (zs.length : Int) % 256] (by simp)
        have hh : headB kind zs.length = [kind, (zs.length : Int) / 65536, (zs.length : Int) / 256 % 256, (zs.length : Int) % 256] := by
          rfl
        have hR := hr.alloc (.cells (by8 [kind, (zs.length : Int) / 65536, (zs.length : Int) / 256 % 256, (zs.length : Int) % 256]).toArray 5)
        have hB := below_alloc w (.cells (by8 [kind, (zs.length : Int) / 65536, (zs.length : Int) / 256 % 256, (zs.length : Int) % 256]).toArray 5)
        have hl' : 4 + zs.length ≤ 140737488355328 := by omega
        have hs : w.heap.size ≤ (w.alloc (.cells (by8 [kind, (zs.length : Int) / 65536, (zs.length : Int) / 256 % 256, (zs.length : Int) % 256]).toArray 5)).heap.size := by simp
        simp only [by8, List.map_cons, List.map_nil, List.length_cons, List.length_nil, Nat.zero_add, Nat.reduceAdd] at hO hR hB hs
        have HZ := Lib.hid hr.byt
        clear hr
        go_enter Tryd.func36, Tryd.ntmps36
        go_wp2_with (at_builtin; refine wpList_append_bytes (.tmp 30) (.tmp 31) 22 rfl rfl info5 Tryd.underlying22 w.heap.size _ 4 [kind, (zs.length : Int) / 65536, (zs.length : Int) / 256 % 256, (zs.length : Int) % 256] rfl hO _ zs rfl hR hl' hs ?_; intro v2 w2 hown2 hb2)
        go_ret
        have hown3 : w2.ownsRow w.heap.size 5 1 v2 (4 + zs.length) (by8 (msgB kind zs)) := by rw [HEE.out, hh]; exact hown2
        exact ⟨v2, rfl, ra_own hown3 (by rw [HEE.out]; exact hb.app HZ.out), hB.trans hb2⟩
#print axioms message_any
#print axioms rmessage_any
end Go.Proofs.YtefcjggmlhoebaaDoor
namespace Go.Proofs.YtefcjggmlhoebaaDoor
open Go Go.RowKit

/-- What a list of slices holds. -/
structure Lst (w : World) (lv : Value) (qs : List (Value × List Int)) (base : Nat) : Prop where
  own : w.ownsRow base 22 1 lv qs.length (qs.map (·.1))
  rd : ∀ q ∈ qs, Rd w q.1 q.2
theorem Lst.below {w w' : World} {lv : Value} {qs : List (Value × List Int)} {base : Nat} (h : Lst w lv qs base) (hb : Below w.heap.size w w') : Lst w' lv qs base := ⟨own_below h.own hb, fun q hq => (h.rd q hq).below hb⟩
theorem Lst.shape {w : World} {lv : Value} {qs : List (Value × List Int)} {base : Nat} (h : Lst w lv qs base) : ∃ a c, lv = .slice a qs.length c := by
  rcases h.own.2 with ⟨h1, h2⟩ | ⟨g, cap, cur, h1, _⟩
  · exact ⟨none, 0, by rw [h1, h2]⟩
  · exact ⟨_, _, h1⟩
theorem Lst.cell {w : World} {a : Option Addr} {n c : Nat} {qs : List (Value × List Int)} {base : Nat} (h : Lst w (.slice a n c) qs base) {k : Nat} {q : Value × List Int} (hk : qs[k]? = some q) : ∃ g, a = some ⟨g, 0, none⟩ ∧ w.cell? ⟨g, k, none⟩ = some q.1 := by
  have hlt := (List.getElem?_eq_some_iff.1 hk).1
  rcases h.own.2 with ⟨e1, e2⟩ | ⟨g, cap, cur, e1, _⟩
  · omega
  · simp only [Value.slice.injEq] at e1
    obtain ⟨rfl, _, _⟩ := e1
    have := World.ownsRow.cells h.own (by rfl) k q.1 (by simp [hk])
    rw [Addr.add_lit, show 0 + k = k by omega] at this
    exact ⟨g, rfl, this⟩
/-- What Messages tells, in short. -/
theorem MsgsPost.open {w : World} {zs : List Int} {e : Ending} {W : World} (h : MsgsPost w zs e W) : ∃ a c qs, e = .returned (.tuple #[.slice a qs.length c, .bool (decide ((msgP zs).2 = 0))]) ∧ Lst W (.slice a qs.length c) qs w.heap.size ∧ qs.map (·.2) = (if (msgP zs).2 = 0 then (msgP zs).1 else []) ∧ Below w.heap.size w W := by
  obtain ⟨lv, qs, ok, rfl, ho, hq, hc, hb⟩ := h
  obtain ⟨a, c, rfl⟩ := Lst.shape ⟨ho, hq⟩
  refine ⟨a, c, qs, ?_, ⟨ho, hq⟩, ?_, hb⟩
  · rcases hc with ⟨rfl, h1, _⟩ | ⟨rfl, h1, _⟩ <;> simp [h1]
  · rcases hc with ⟨_, h1, h2⟩ | ⟨_, h1, h2⟩
    · rw [if_pos h1, h2]
    · rw [if_neg h1, h2]; rfl

theorem msgP_end {zs : List Int} (h : msgP zs = ([], 0)) : zs = [] := by
  by_cases hz : zs = []
  · exact hz
  · exfalso
    by_cases he : firstE zs = 0
    · rw [msgP_ok hz he] at h
      simp at h
    · rw [msgP_err hz he] at h
      simp only [Prod.mk.injEq, true_and] at h
      exact he h
theorem one_msg {zs : List Int} (hb : Byt zs) (h : oneH zs) : msgP zs = ([zs], 0) := by
  obtain ⟨h1, h2, h3⟩ := h
  have hn := headN_eq hb
  unfold lenH at h2 h3
  have hz : zs ≠ [] := fun e => by rw [e] at h1; simp at h1
  have he : firstE zs = 0 := by
    unfold firstE
    rw [if_neg (by omega), if_neg (by omega), if_neg (by omega)]
  rw [msgP_ok hz he, List.take_of_length_le (by omega), List.drop_of_length_le (by omega), msgP_nil]
theorem msg_one {zs : List Int} (hb : Byt zs) {q : List Int} (h1 : (msgP zs).1 = [q]) (h2 : (msgP zs).2 = 0) : oneH zs ∧ q = zs := by
  have hz : zs ≠ [] := fun e => by rw [e, msgP_nil] at h1; simp at h1
  have he : firstE zs = 0 := by
    by_cases he : firstE zs = 0
    · exact he
    · rw [msgP_err hz he] at h1; simp at h1
  rw [msgP_ok hz he] at h1 h2
  simp only [List.cons.injEq] at h1
  have hd := msgP_end (zs := zs.drop (headN zs + 4)) (Prod.ext h1.2 h2)
  have hn := headN_eq hb
  have hl := congrArg List.length hd
  simp only [List.length_drop, List.length_nil] at hl
  unfold firstE at he
  by_cases a1 : zs.length < 4
  · rw [if_pos a1] at he; omega
  rw [if_neg a1] at he
  by_cases a2 : 2000 < headN zs
  · rw [if_pos a2] at he; omega
  rw [if_neg a2] at he
  by_cases a3 : zs.length < headN zs + 4
  · rw [if_pos a3] at he; omega
  refine ⟨⟨by omega, ?_, ?_⟩, ?_⟩
  · unfold lenH; omega
  · unfold lenH; omega
  · rw [← h1.1, List.take_of_length_le (by omega)]
/-- What Messages tells of bytes that are one message, and of others. -/
theorem MsgsPost.one {w : World} {zs : List Int} (hb : Byt zs) {e : Ending} {W : World} (h : MsgsPost w zs e W) : ∃ a c n ok, e = .returned (.tuple #[.slice a n c, .bool ok]) ∧ Below w.heap.size w W ∧
    ((n = 1 ∧ ok = true ∧ oneH zs ∧ ∃ g x b k, a = some ⟨g, 0, none⟩ ∧ W.cell? ⟨g, 0, none⟩ = some (.slice (some ⟨x, b, none⟩) zs.length k) ∧ Rd W (.slice (some ⟨x, b, none⟩) zs.length k) zs) ∨ ((ok = false ∨ n ≠ 1) ∧ ((n : Int) == 1) = false ∧ ¬ oneH zs)) := by
  obtain ⟨a, c, qs, rfl, hl, hq, hbl⟩ := h.open
  refine ⟨a, c, qs.length, _, rfl, hbl, ?_⟩
  by_cases h0 : (msgP zs).2 = 0
  · rw [if_pos h0] at hq
    rw [decide_eq_true h0]
    by_cases h1 : qs.length = 1
    · obtain ⟨q, rfl⟩ := List.length_eq_one_iff.1 h1
      simp only [List.map_cons, List.map_nil] at hq
      obtain ⟨ho, hqz⟩ := msg_one hb hq.symm h0
      obtain ⟨g, rfl, hcell⟩ := hl.cell (k := 0) (q := q) rfl
      have hr := hl.rd q (by simp)
      rw [hqz] at hr
      have hp4 := ho.1
      rcases hr.cases with ⟨e0, _⟩ | ⟨x, b, k, e1, _⟩
      · rw [e0] at hp4; simp at hp4
      · rw [e1] at hr hcell
        exact .inl ⟨rfl, rfl, ho, g, x, b, k, rfl, hcell, hr⟩
    · refine .inr ⟨.inr h1, by simp; omega, fun ho => h1 ?_⟩
      have := congrArg List.length hq
      rw [one_msg hb ho] at this
      simpa using this
  · rw [if_neg h0] at hq
    have hq0 : qs = [] := by simpa using hq
    subst hq0
    refine .inr ⟨.inl (decide_eq_false h0), by simp, fun ho => h0 ?_⟩
    rw [one_msg hb ho]
end Go.Proofs.YtefcjggmlhoebaaDoor
