/- bytes.Equal: are two rows of bytes alike? -/
import Derived.Test.YtfgjlfcadpmkhaaSFirst
import Derived.Laws.BytesArg
namespace Go.Proofs.Ytfgjlfcadpmkhaa
open Go Go.RowKit

theorem str_conv {w : World} {v : Value} {zs : List Int} (h : Rd w v zs) : (convert 29 9 v).run Try.prog w = .ok (.string (strOfNums zs)) w := by
  rcases h.cases with ⟨rfl, a, c, rfl, _⟩ | ⟨b, off, cap, rfl, hp, hlc, hcm, hbl, hcell⟩
  · cases a with
    | none => exact run_convert_bytes_nil w 29 5 Try.underlying29 Try.underlying5 0 c 9 Try.underlying9
    | some ad =>
      rw [run_convert_bytes_string w 29 9 5 _ 0 c Try.underlying29 Try.underlying5 Try.underlying9]
      exact run_bytesToString w ad 0 c [] (by simp [loadCells, loadCellsFrom])
  · exact run_convert_bytes_arg w 29 5 Try.underlying29 Try.underlying5 b off zs.length cap zs rfl (fun i hi => hcell i hi) 9 Try.underlying9
theorem str_inj {xs ys : List Int} (hx : Byt xs) (hy : Byt ys) : ((strOfNums xs).toList == (strOfNums ys).toList) = decide (xs = ys) := by
  have key : ∀ (xs ys : List Int), Byt xs → Byt ys → xs.map (fun n => UInt8.ofNat n.toNat) = ys.map (fun n => UInt8.ofNat n.toNat) → xs = ys := by
    intro xs
    induction xs with
    | nil => intro ys _ _ h; cases ys with
      | nil => rfl
      | cons y ys => simp at h
    | cons x xs ih => intro ys hx hy h; cases ys with
      | nil => simp at h
      | cons y ys =>
        simp only [List.map_cons, List.cons.injEq] at h
        have h1 := hx x List.mem_cons_self
        have h2 := hy y List.mem_cons_self
        have e := congrArg UInt8.toNat h.1
        simp only [UInt8.toNat_ofNat'] at e
        have e1 : x = y := by omega
        rw [e1, ih ys (fun z hz => hx z (List.mem_cons_of_mem _ hz)) (fun z hz => hy z (List.mem_cons_of_mem _ hz)) h.2]
  rw [ByteArray.toList_eq, ByteArray.toList_eq]
  simp only [strOfNums]
  by_cases e : xs = ys
  · subst e; simp
  · rw [decide_eq_false e, beq_eq_false_iff_ne]
    intro h
    exact e (key xs ys hx hy (by simpa using h))
set_option maxRecDepth 20000 in
theorem equal_any {w : World} {v1 v2 : Value} {xs ys : List Int} (h1 : Rd w v1 xs) (h2 : Rd w v2 ys) :
    Calls Try.prog 16 #[v1, v2] w fun e w' => e = .returned (.bool (decide (xs = ys))) ∧ w' = w := by
  have c1 := str_conv h1
  have c2 := str_conv h2
  obtain ⟨a1, n1, k1, rfl⟩ := h1.shape3
  obtain ⟨a2, n2, k2, rfl⟩ := h2.shape3
  go_enter Try.func16, Try.ntmps16
  go_wp2_with fail
  go_ret
  refine ⟨?_, rfl⟩
  rw [← str_inj h1.byt h2.byt]
  rfl
#print axioms equal_any
end Go.Proofs.Ytfgjlfcadpmkhaa
