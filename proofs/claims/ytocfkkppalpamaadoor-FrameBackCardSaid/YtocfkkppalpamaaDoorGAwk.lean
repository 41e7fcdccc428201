/- frame: the chapter's example. -/
import Derived.Test.YtocfkkppalpamaaDoorGW6
import Derived.Test.YtocfkkppalpamaaDoorGSame
namespace Go.Proofs.YtocfkkppalpamaaDoor
open Go Go.RowKit

def exF : Fv := ⟨2, 0, [(7, 7), (3, 5)], 0, [], 0⟩
theorem exF_right : rightB exF = true := by decide +kernel
theorem exF_bytes : wrF exF = [2, 7, 1, 0, 0, 2] := by decide +kernel
set_option maxRecDepth 20000 in
set_option maxHeartbeats 2000000 in
theorem gawake_any {w : World} (ht : Tab w) : Calls Tryd.prog 17 #[] w fun e w' => e = .returned (.bool true) ∧ Below w.heap.size w w' := by
  have hb1 := below_alloc w (.cells #[.int .i64 7, .int .i64 7, .int .i64 3, .int .i64 5] 56)
  have hrs : Rs (w.alloc (.cells #[.int .i64 7, .int .i64 7, .int .i64 3, .int .i64 5] 56)) (.slice (some ⟨w.heap.size, 0, none⟩) 2 2) [(7, 7), (3, 5)] := by
    refine ⟨_, 2, rfl, by decide, by decide, (fun h => by cases h), fun a ha j hj => ?_⟩
    cases ha
    have hh := heap_alloc_new w (.cells #[.int .i64 7, .int .i64 7, .int .i64 3, .int .i64 5] 56)
    have hc := fun i => cell_of_row _ w.heap.size i _ _ (0, 0) hh
    have : j = 0 ∨ j = 1 := by simp at hj; omega
    rcases this with rfl | rfl
    · exact ⟨(hc 0).trans rfl, (hc 1).trans rfl⟩
    · exact ⟨(hc 2).trans rfl, (hc 3).trans rfl⟩
  have hfl : Fl ((w.alloc (.cells #[.int .i64 7, .int .i64 7, .int .i64 3, .int .i64 5] 56)).alloc (.cells #[.int .i64 2, .int .i64 0, .slice (some ⟨w.heap.size, 0, none⟩) 2 2, .int .i64 0, .slice none 0 0, .int .i64 0] 29)) (.slice (some ⟨w.heap.size + 1, 0, none⟩) 1 1) [⟨exF, .slice (some ⟨w.heap.size, 0, none⟩) 2 2, .slice none 0 0⟩] := by
    refine ⟨⟨_, 1, rfl, by simp, by simp [maxLen], (fun h => by cases h), fun a ha j e hj i u hu => ?_⟩, fun e he => ?_⟩
    · cases ha
      have hj0 : j = 0 := by
        have := (List.getElem?_eq_some_iff.1 hj).1
        simp at this; exact this
      subst hj0
      simp at hj
      subst hj
      have hh := heap_alloc_new (w.alloc (.cells #[.int .i64 7, .int .i64 7, .int .i64 3, .int .i64 5] 56)) (.cells #[.int .i64 2, .int .i64 0, .slice (some ⟨w.heap.size, 0, none⟩) 2 2, .int .i64 0, .slice none 0 0, .int .i64 0] 29)
      rw [World.size_alloc] at hh
      have hc := cell_of_row _ (w.heap.size + 1) (0 + (0 * 6 + i)) _ _ (0, 0) hh
      rw [Addr.add_lit, hc]
      simp only [Nat.zero_mul, Nat.zero_add]
      rw [← hu]
      simp [feC, exF]
    · simp at he
      subst he
      exact ⟨hrs.below (below_alloc _ _), Rd.nil _⟩
  have hW := gwrite_any hfl (by simp) (ht.below (hb1.trans ((below_alloc _ _).mono hb1.size))) (by simp)
  have HB := Lib.hid (hb1.trans ((below_alloc (w.alloc (.cells #[.int .i64 7, .int .i64 7, .int .i64 3, .int .i64 5] 56)) (.cells #[.int .i64 2, .int .i64 0, .slice (some ⟨w.heap.size, 0, none⟩) 2 2, .int .i64 0, .slice none 0 0, .int .i64 0] 29)).mono hb1.size))
  clear hb1 hrs hfl ht
  go_enter Tryd.func17, Tryd.ntmps17
  go_wp2_with fail
  refine hW.mono ?_
  rintro e w2 ⟨u, zs, n, rfl, ⟨hu, _⟩, hb2, hc⟩
  have hm : mayP [⟨exF, .slice (some ⟨w.heap.size, 0, none⟩) 2 2, .slice none 0 0⟩] := ⟨by simp, ⟨(right_iff _).1 exF_right, fun _ g q h => (by cases h), trivial⟩⟩
  have hz : zs = [2, 7, 1, 0, 0, 2] ∧ n = 0 := by
    have e : wrAll (List.map Fe.f [⟨exF, .slice (some ⟨w.heap.size, 0, none⟩) 2 2, .slice none 0 0⟩]) = [2, 7, 1, 0, 0, 2] := by
      simp only [List.map_cons, List.map_nil, wrAll, exF_bytes, List.append_nil]
    rw [e] at hc
    rcases hc with ⟨h, _⟩ | ⟨_, h, _⟩ | ⟨_, _, h, h2⟩
    · exact absurd hm h
    · simp at h
    · exact ⟨h, h2⟩
  obtain ⟨rfl, rfl⟩ := hz
  have HB2 := Lib.hid (HB.out.trans (hb2.mono HB.out.size))
  have hsm := fun (W : World) (h : Rd W u [2, 7, 1, 0, 0, 2]) (x : Value) (h2 : Rd W x [2, 7, 1, 0, 0, 2]) => same_true h h2
  have hl : Rd (w2.alloc (.cells (by8 [2, 7, 1, 0, 0, 2]).toArray 5)) (.slice (some ⟨w2.heap.size, 0, none⟩) 6 6) [2, 7, 1, 0, 0, 2] := Rd.lit w2 [2, 7, 1, 0, 0, 2] (by decide) (byt_of (by decide))
  have hs := hsm _ (hu.rd.alloc _) _ hl
  have HBA := Lib.hid (below_alloc w2 (.cells (by8 [2, 7, 1, 0, 0, 2]).toArray 5))
  obtain ⟨a, c, rfl⟩ := hu.rd.shape
  simp only [List.length_cons, List.length_nil, Nat.zero_add, Nat.reduceAdd] at *
  clear hW hsm hl hc hm hb2 hu
  go_wp2_with (go_at_call 16; refine hs.mono ?_; rintro e w3 ⟨rfl, hb3⟩)
  go_ret
  exact ⟨rfl, HB2.out.trans ((HBA.out.trans (hb3.mono HBA.out.size)).mono HB2.out.size)⟩
#print axioms gawake_any
end Go.Proofs.YtocfkkppalpamaaDoor
