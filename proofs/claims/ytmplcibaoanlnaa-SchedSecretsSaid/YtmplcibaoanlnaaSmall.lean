/- The table's small functions: Size, has, Secret, clone; and all of them on a table that is not there. -/
import Derived.Test.YtmplcibaoanlnaaAdd
namespace Go.Proofs.Ytmplcibaoanlnaa
open Go Go.RowKit

theorem info32 : (Try.prog.info? 26).map (fun i => (i.zero, i.size, i.bytes)) = some (some (.int .i64 0), 1, 8) := by kernel_rfl
set_option maxRecDepth 20000 in
theorem ret_int {k : IntKind} {a b : Int} (h : a = b) : Ending.returned (.int k a) = .returned (.int k b) := by rw [h]

set_option maxRecDepth 20000 in
theorem size_nil (w : World) : Calls Try.prog 41 #[.pointer none] w fun e w' => e = .returned (.int .i64 0) ∧ w = w' := by
  go_enter Try.func41, Try.ntmps41
  go_wp2
  go_ret
  exact ⟨rfl, rfl⟩
set_option maxHeartbeats 400000 in
set_option maxRecDepth 20000 in
theorem size_any {w : World} {B tb mb : Nat} {nv : Value} {L : List (Nd × Value)} {f : Int → ByteArray → List Int → Option Int} (h : Tbl w B tb mb nv L f) :
    Calls Try.prog 41 #[.pointer (some ⟨tb, 0, none⟩)] w fun e w' => e = .returned (.int .i64 (L.length : Int)) ∧ w = w' := by
  obtain ⟨ao, cap, hnv, _⟩ := own_shape h.nodes
  have hcT : w.cell? ⟨tb, 0, none⟩ = some nv := by simp [World.cell?, h.tab]
  subst hnv
  clear h
  go_enter Try.func41, Try.ntmps41
  go_wp2
  go_ret
  exact ⟨rfl, rfl⟩

set_option maxHeartbeats 400000 in
set_option maxRecDepth 20000 in
theorem has_yes {w : World} {B tb mb : Nat} {nv : Value} {L : List (Nd × Value)} {f : Int → ByteArray → List Int → Option Int} (h : Tbl w B tb mb nv L f) (t : Int) (h0 : 1 ≤ t) (h1 : t ≤ (L.length : Int)) :
    Calls Try.prog 33 #[.pointer (some ⟨tb, 0, none⟩), .int .i64 t] w fun e w' => e = .returned (.bool true) ∧ w = w' := by
  have hs := size_any h
  clear h
  generalize (L.length : Int) = n at *
  have h2 : 0 < t := by omega
  go_enter Try.func33, Try.ntmps33
  go_wp2_with (go_at_call 41; refine hs.mono ?_; rintro e w' ⟨rfl, rfl⟩)
  go_ret
  exact ⟨rfl, rfl⟩
set_option maxHeartbeats 400000 in
set_option maxRecDepth 20000 in
theorem has_no {w : World} {B tb mb : Nat} {nv : Value} {L : List (Nd × Value)} {f : Int → ByteArray → List Int → Option Int} (h : Tbl w B tb mb nv L f) (t : Int) (h0 : t < 1 ∨ (L.length : Int) < t) :
    Calls Try.prog 33 #[.pointer (some ⟨tb, 0, none⟩), .int .i64 t] w fun e w' => e = .returned (.bool false) ∧ w = w' := by
  have hs := size_any h
  clear h
  generalize (L.length : Int) = n at *
  by_cases h2 : 0 < t
  · have h1 : decide (t ≤ n) = false := by rw [decide_eq_false_iff_not]; omega
    clear h0
    go_enter Try.func33, Try.ntmps33
    go_wp2_with (go_at_call 41; refine hs.mono ?_; rintro e w' ⟨rfl, rfl⟩)
    go_ret
    exact ⟨rfl, rfl⟩
  · go_enter Try.func33, Try.ntmps33
    go_wp2_with (go_at_call 41; refine hs.mono ?_; rintro e w' ⟨rfl, rfl⟩)
    go_ret
    exact ⟨rfl, rfl⟩
set_option maxRecDepth 20000 in
theorem has_nil (w : World) (t : Int) : Calls Try.prog 33 #[.pointer none, .int .i64 t] w fun e w' => e = .returned (.bool false) ∧ w = w' := by
  by_cases h0 : 0 < t
  · have h1 : decide (t ≤ 0) = false := by rw [decide_eq_false_iff_not]; omega
    go_enter Try.func33, Try.ntmps33
    go_wp2_with (go_at_call 41; refine (size_nil _).mono ?_; rintro e w' ⟨rfl, rfl⟩)
    go_ret
    exact ⟨rfl, rfl⟩
  · go_enter Try.func33, Try.ntmps33
    go_wp2_with fail
    go_ret
    exact ⟨rfl, rfl⟩

set_option maxRecDepth 20000 in
theorem secret_nil (w : World) : Calls Try.prog 7 #[.pointer none] w fun e w' => e = .returned (.int .i64 0) ∧ w = w' := by
  go_enter Try.func7, Try.ntmps7
  go_wp2
  go_ret
  exact ⟨rfl, rfl⟩
/-- A secret's node. -/
def secretNd : Nd := (2, ByteArray.empty, [])
theorem secretNd_ok : NdOk secretNd := ⟨by decide, by decide, by decide, (fun p h => by cases h), (fun h => by cases h)⟩
set_option maxHeartbeats 400000 in
set_option maxRecDepth 20000 in
theorem secret_any {w : World} {B tb mb : Nat} {nv : Value} {L : List (Nd × Value)} (h : Tbl w B tb mb nv L (idx L)) (hroom : L.length < 65536) :
    Calls Try.prog 7 #[.pointer (some ⟨tb, 0, none⟩)] w fun e w' => e = .returned (.int .i64 ((L.length : Int) + 1)) ∧ ∃ nv', Tbl w' B tb mb nv' (L ++ [(secretNd, .slice none 0 0)]) (idx (L ++ [(secretNd, .slice none 0 0)])) ∧ Frm tb mb nv w w' ∧ Moved w nv nv' := by
  have hA := add_any h 2 ByteArray.empty [] (.slice none 0 0) secretNd_ok (World.ownsRow_nil _ _ _ _) hroom
  clear h hroom
  go_enter Try.func7, Try.ntmps7
  go_wp2_with fail
  refine hA.mono ?_
  rintro e w1 ⟨rfl, nv', ht, hf, hm, _⟩
  go_wp2_with fail
  go_ret
  refine ⟨rfl, nv', ?_, hf, hm⟩
  exact { ht with map := ht.map.congr fun k s ps _ => (idx_secret L _ rfl k s ps).symm }

set_option maxHeartbeats 400000 in
set_option maxRecDepth 20000 in
theorem clone_any {w : World} {v : Value} {zs : List Int} (h1 : Rd .i64 w v zs) (hb : zs.length ≤ 1000000) :
    Calls Try.prog 22 #[v] w fun e w' => ∃ v', e = .returned v' ∧ w'.ownsRow w.heap.size 26 1 v' zs.length (cs .i64 zs) ∧ Below w.heap.size w w' := by
  obtain ⟨i, hi, hz0, hz1, hz2⟩ := info_parts info32
  have h1' := h1
  obtain ⟨ao, cap, rfl, _⟩ := h1'
  have HB : zs.length ≤ maxLen := by unfold maxLen; omega
  go_enter Try.func22, Try.ntmps22
  go_wp2_with (first | (at_make; refine wpList_make_full _ rfl _ _ 31 rfl w.heap.size 26 i (.int .i64 0) 1 Try.underlying31 hi hz0 hz1 .i64 .i64 _ _ zs.length rfl rfl rfl rfl (by rw [hz2]; omega) HB (Nat.le_refl _) ?_; intro w1 hown1 hg1) | ((with_reducible show wpList _ _ _ _ _ _); refine wpList_copy_ints (o := ⟨some 9, _, _, _, _, _⟩) .i64 26 8 (.tmp 7) (.tmp 8) 31 rfl rfl info32 Try.underlying31 w.heap.size w.heap.size zs.length _ rfl hown1 _ zs rfl (h1.below (below_made hg1)) (Nat.le_refl _) ?_; intro w2 hown2 hb2))
  go_ret
  refine ⟨_, rfl, ?_, (below_made hg1).trans hb2⟩
  have e : List.drop zs.length (madeCells (Value.int .i64 0).cells (zs.length * 1)).toList = [] := List.drop_eq_nil_of_le (by simp [madeCells])
  rw [e, List.append_nil] at hown2
  exact hown2
#print axioms secret_any
#print axioms clone_any
end Go.Proofs.Ytmplcibaoanlnaa
