/- stream.Message, and the document's: a message's bytes. -/
import Derived.Test.YthfmpnikchlhlaaSFirst
namespace Go.Proofs.Ythfmpnikchlhlaa
open Go Go.RowKit

/-- A message's head. -/
def headB (kind : Int) (n : Nat) : List Int := [kind, (n : Int) / 65536, (n : Int) / 256 % 256, (n : Int) % 256]
/-- A message's bytes; none, if it may not be. -/
def msgB (kind : Int) (body : List Int) : List Int := if kind < 0 ∨ 255 < kind ∨ 2000 < body.length then [] else headB kind body.length ++ body
theorem headB_byt {kind : Int} {n : Nat} (hk : 0 ≤ kind ∧ kind ≤ 255) (hn : n ≤ 2000) : Byt (headB kind n) := by
  intro z hz
  simp only [headB, List.mem_cons, List.not_mem_nil, or_false] at hz
  rcases hz with rfl | rfl | rfl | rfl <;> omega
set_option maxRecDepth 20000 in
set_option maxHeartbeats 2000000 in
theorem message_any {w : World} {v : Value} {zs : List Int} (kind : Int) (hr : Rd w v zs) (hl : zs.length ≤ 1000000) :
    Calls Try.prog 18 #[.int .i64 kind, v] w fun e w' => ∃ v', e = .returned v' ∧ (Ra w.heap.size w' v' (msgB kind zs) ∧ Plain v') ∧ Below w.heap.size w w' := by
  obtain ⟨ao, cap, rfl⟩ := hr.shape
  have hn : ∀ w', Ra w.heap.size w' (.slice none 0 0) [] := fun w' => ⟨Rd.nil _, fun _ _ _ h => by cases h⟩
  by_cases h1 : kind < 0
  · have e : msgB kind zs = [] := by simp [msgB, h1]
    have HEE := Lib.hid e
    clear e
    have d1 : decide (kind < 0) = true := decide_eq_true h1
    clear hr
    go_enter Try.func18, Try.ntmps18
    go_wp2_with fail
    go_ret
    refine ⟨.slice none 0 0, rfl, ⟨?_, .inl rfl⟩, Below.refl _ _⟩
    rw [HEE.out]
    exact hn _
  · have d1 : decide (kind < 0) = false := decide_eq_false h1
    by_cases h2 : 255 < kind
    · have e : msgB kind zs = [] := by simp [msgB, h2]
      have HEE := Lib.hid e
      clear e
      have d2 : decide (255 < kind) = true := decide_eq_true h2
      clear hr
      go_enter Try.func18, Try.ntmps18
      go_wp2_with fail
      go_ret
      refine ⟨.slice none 0 0, rfl, ⟨?_, .inl rfl⟩, Below.refl _ _⟩
      rw [HEE.out]
      exact hn _
    · have d2 : decide (255 < kind) = false := decide_eq_false h2
      by_cases h3 : 2000 < zs.length
      · have e : msgB kind zs = [] := by simp [msgB, h3]
        have HEE := Lib.hid e
        clear e
        have d3 : decide (2000 < (zs.length : Int)) = true := decide_eq_true (by omega)
        clear hr
        go_enter Try.func18, Try.ntmps18
        go_wp2_with fail
        go_ret
        refine ⟨.slice none 0 0, rfl, ⟨?_, .inl rfl⟩, Below.refl _ _⟩
        rw [HEE.out]
        exact hn _
      · have e : msgB kind zs = headB kind zs.length ++ zs := by simp [msgB, h1, h2, h3]
        have HEE := Lib.hid e
        clear e
        have d3 : decide (2000 < (zs.length : Int)) = false := decide_eq_false (by omega)
        have hb := headB_byt (kind := kind) (n := zs.length) ⟨by omega, by omega⟩ (by omega)
        have w1 : IntKind.u8.wrap kind = kind := IntWalk.u8_in _ ⟨by omega, by omega⟩
        have hO := own_lit w [kind, (zs.length : Int) / 65536, (zs.length : Int) / 256, (zs.length : Int) % 256] (by simp)
        have hh : headB kind zs.length = [kind, (zs.length : Int) / 65536, (zs.length : Int) / 256, (zs.length : Int) % 256] := by
          unfold headB
          rw [show ((zs.length : Int) / 256 % 256) = (zs.length : Int) / 256 by omega]
        have hR := hr.alloc (.cells (by8 [kind, (zs.length : Int) / 65536, (zs.length : Int) / 256, (zs.length : Int) % 256]).toArray 5)
        have hB := below_alloc w (.cells (by8 [kind, (zs.length : Int) / 65536, (zs.length : Int) / 256, (zs.length : Int) % 256]).toArray 5)
        have hl' : 4 + zs.length ≤ 140737488355328 := by omega
        have hs : w.heap.size ≤ (w.alloc (.cells (by8 [kind, (zs.length : Int) / 65536, (zs.length : Int) / 256, (zs.length : Int) % 256]).toArray 5)).heap.size := by simp
        simp only [by8, List.map_cons, List.map_nil, List.length_cons, List.length_nil, Nat.zero_add, Nat.reduceAdd] at hO hR hB hs
        have HZ := Lib.hid hr.byt
        clear hr
        go_enter Try.func18, Try.ntmps18
        go_wp2_with (at_builtin; refine wpList_append_bytes (.tmp 29) (.tmp 30) 29 rfl rfl info5 Try.underlying29 w.heap.size _ 4 [kind, (zs.length : Int) / 65536, (zs.length : Int) / 256, (zs.length : Int) % 256] rfl hO _ zs rfl hR hl' hs ?_; intro v2 w2 hown2 hb2)
        go_ret
        have hown3 : w2.ownsRow w.heap.size 5 1 v2 (4 + zs.length) (by8 (msgB kind zs)) := by rw [HEE.out, hh]; exact hown2
        exact ⟨v2, rfl, ra_own hown3 (by rw [HEE.out]; exact hb.app HZ.out), hB.trans hb2⟩
set_option maxRecDepth 20000 in
set_option maxHeartbeats 2000000 in
theorem rmessage_any {w : World} {v : Value} {zs : List Int} (kind : Int) (hr : Rd w v zs) (hl : zs.length ≤ 1000000) :
    Calls Try.prog 19 #[.int .i64 kind, v] w fun e w' => ∃ v', e = .returned v' ∧ (Ra w.heap.size w' v' (msgB kind zs) ∧ Plain v') ∧ Below w.heap.size w w' := by
  obtain ⟨ao, cap, rfl⟩ := hr.shape
  have hn : ∀ w', Ra w.heap.size w' (.slice none 0 0) [] := fun w' => ⟨Rd.nil _, fun _ _ _ h => by cases h⟩
  by_cases h1 : kind < 0
  · have e : msgB kind zs = [] := by simp [msgB, h1]
    have HEE := Lib.hid e
    clear e
    have d1 : decide (kind < 0) = true := decide_eq_true h1
    clear hr
    go_enter Try.func19, Try.ntmps19
    go_wp2_with fail
    go_ret
    refine ⟨.slice none 0 0, rfl, ⟨?_, .inl rfl⟩, Below.refl _ _⟩
    rw [HEE.out]
    exact hn _
  · have d1 : decide (kind < 0) = false := decide_eq_false h1
    by_cases h2 : 255 < kind
    · have e : msgB kind zs = [] := by simp [msgB, h2]
      have HEE := Lib.hid e
      clear e
      have d2 : decide (255 < kind) = true := decide_eq_true h2
      clear hr
      go_enter Try.func19, Try.ntmps19
      go_wp2_with fail
      go_ret
      refine ⟨.slice none 0 0, rfl, ⟨?_, .inl rfl⟩, Below.refl _ _⟩
      rw [HEE.out]
      exact hn _
    · have d2 : decide (255 < kind) = false := decide_eq_false h2
      by_cases h3 : 2000 < zs.length
      · have e : msgB kind zs = [] := by simp [msgB, h3]
        have HEE := Lib.hid e
        clear e
        have d3 : decide (2000 < (zs.length : Int)) = true := decide_eq_true (by omega)
        clear hr
        go_enter Try.func19, Try.ntmps19
        go_wp2_with fail
        go_ret
        refine ⟨.slice none 0 0, rfl, ⟨?_, .inl rfl⟩, Below.refl _ _⟩
        rw [HEE.out]
        exact hn _
      · have e : msgB kind zs = headB kind zs.length ++ zs := by simp [msgB, h1, h2, h3]
        have HEE := Lib.hid e
        clear e
        have d3 : decide (2000 < (zs.length : Int)) = false := decide_eq_false (by omega)
        have hb := headB_byt (kind := kind) (n := zs.length) ⟨by omega, by omega⟩ (by omega)
        have w1 : IntKind.u8.wrap kind = kind := IntWalk.u8_in _ ⟨by omega, by omega⟩
        have hO := own_lit w [kind, (zs.length : Int) / 65536, (zs.length : Int) / 256 % 256, (zs.length : Int) % 256] (by simp)
        have hh : headB kind zs.length = [kind, (zs.length : Int) / 65536, (zs.length : Int) / 256 % 256, (zs.length : Int) % 256] := by
          rfl
        have hR := hr.alloc (.cells (by8 [kind, (zs.length : Int) / 65536, (zs.length : Int) / 256 % 256, (zs.length : Int) % 256]).toArray 5)
        have hB := below_alloc w (.cells (by8 [kind, (zs.length : Int) / 65536, (zs.length : Int) / 256 % 256, (zs.length : Int) % 256]).toArray 5)
        have hl' : 4 + zs.length ≤ 140737488355328 := by omega
        have hs : w.heap.size ≤ (w.alloc (.cells (by8 [kind, (zs.length : Int) / 65536, (zs.length : Int) / 256 % 256, (zs.length : Int) % 256]).toArray 5)).heap.size := by simp
        simp only [by8, List.map_cons, List.map_nil, List.length_cons, List.length_nil, Nat.zero_add, Nat.reduceAdd] at hO hR hB hs
        have HZ := Lib.hid hr.byt
        clear hr
        go_enter Try.func19, Try.ntmps19
        go_wp2_with (at_builtin; refine wpList_append_bytes (.tmp 30) (.tmp 31) 29 rfl rfl info5 Try.underlying29 w.heap.size _ 4 [kind, (zs.length : Int) / 65536, (zs.length : Int) / 256 % 256, (zs.length : Int) % 256] rfl hO _ zs rfl hR hl' hs ?_; intro v2 w2 hown2 hb2)
        go_ret
        have hown3 : w2.ownsRow w.heap.size 5 1 v2 (4 + zs.length) (by8 (msgB kind zs)) := by rw [HEE.out, hh]; exact hown2
        exact ⟨v2, rfl, ra_own hown3 (by rw [HEE.out]; exact hb.app HZ.out), hB.trans hb2⟩
#print axioms message_any
#print axioms rmessage_any
end Go.Proofs.Ythfmpnikchlhlaa
