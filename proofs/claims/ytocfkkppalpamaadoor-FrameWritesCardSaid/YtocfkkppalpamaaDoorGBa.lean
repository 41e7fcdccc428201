/- frame: the document's Bytes: all kinds. -/
import Derived.Test.YtocfkkppalpamaaDoorGW4
import Derived.Test.YtocfkkppalpamaaDoorGR0
import Derived.Test.YtocfkkppalpamaaDoorBytes
import Derived.Test.YtocfkkppalpamaaDoorEnd
namespace Go.Proofs.YtocfkkppalpamaaDoor
open Go Go.RowKit

/-- The box and the first byte. -/
def V1 (w : World) (k c : Int) (sv : Value) (a : Int) (dv : Value) (t : Int) : World := (w.alloc (.cells #[.int .i64 k, .int .i64 c, sv, .int .i64 a, dv, .int .i64 t] 33)).alloc (.cells #[.int .u8 k] 5)
theorem V1_below (w : World) (k c : Int) (sv : Value) (a : Int) (dv : Value) (t : Int) : Below w.heap.size w (V1 w k c sv a dv t) := (below_alloc w _).alloc (by simp) _
theorem V1_size (w : World) (k c : Int) (sv : Value) (a : Int) (dv : Value) (t : Int) : (V1 w k c sv a dv t).heap.size = w.heap.size + 2 := by simp [V1]
theorem V1_row (w : World) (k c : Int) (sv : Value) (a : Int) (dv : Value) (t : Int) (h : 0 ≤ k ∧ k ≤ 255) : Rd (V1 w k c sv a dv t) (.slice (some ⟨w.heap.size + 1, 0, none⟩) 1 1) [k] := by
  have := Rd.lit (w.alloc (.cells #[.int .i64 k, .int .i64 c, sv, .int .i64 a, dv, .int .i64 t] 33)) [k] (by simp) (byt_one h)
  rw [World.size_alloc] at this
  exact this
theorem V1_own (w : World) (k c : Int) (sv : Value) (a : Int) (dv : Value) (t : Int) : (V1 w k c sv a dv t).ownsRow (w.heap.size + 1) 5 1 (.slice (some ⟨w.heap.size + 1, 0, none⟩) 1 1) 1 (by8 [k]) := by
  have := own_lit (w.alloc (.cells #[.int .i64 k, .int .i64 c, sv, .int .i64 a, dv, .int .i64 t] 33)) [k] (by simp)
  rw [World.size_alloc] at this
  exact this
theorem V1_box (w : World) (k c : Int) (sv : Value) (a : Int) (dv : Value) (t : Int) : (V1 w k c sv a dv t).heap[w.heap.size]? = some (.cells #[.int .i64 k, .int .i64 c, sv, .int .i64 a, dv, .int .i64 t] 33 (0, 0)) :=
  (Below.heap_alloc _ _ w.heap.size (by simp)).trans (heap_alloc_new w _)
set_option maxRecDepth 20000 in
set_option maxHeartbeats 2000000 in
theorem rbytes_k1 {w : World} {c : Int} {sp : List Sp} {a : Int} {d : List Int} {t : Int} {sa da : Option Addr} {sc dc : Nat} : Calls Tryd.prog 28 #[fAgg ⟨1, c, sp, a, d, t⟩ (.slice sa sp.length sc) (.slice da d.length dc)] w (WrPost w (wrF ⟨1, c, sp, a, d, t⟩)) := by
  unfold fAgg
  have hr := V1_row w 1 c (.slice sa sp.length sc) a (.slice da d.length dc) t (by decide)
  have hb := V1_below w 1 c (.slice sa sp.length sc) a (.slice da d.length dc) t
  unfold V1 at *
  go_enter Tryd.func28, Tryd.ntmps28
  go_wp2_with fail
  go_ret
  exact wrpost hr (by simp [wrF]) hb
set_option maxRecDepth 20000 in
set_option maxHeartbeats 2000000 in
theorem rbytes_k30 {w : World} {c : Int} {sp : List Sp} {a : Int} {d : List Int} {t : Int} {sa da : Option Addr} {sc dc : Nat} : Calls Tryd.prog 28 #[fAgg ⟨30, c, sp, a, d, t⟩ (.slice sa sp.length sc) (.slice da d.length dc)] w (WrPost w (wrF ⟨30, c, sp, a, d, t⟩)) := by
  unfold fAgg
  have hr := V1_row w 30 c (.slice sa sp.length sc) a (.slice da d.length dc) t (by decide)
  have hb := V1_below w 30 c (.slice sa sp.length sc) a (.slice da d.length dc) t
  unfold V1 at *
  go_enter Tryd.func28, Tryd.ntmps28
  go_wp2_with fail
  go_ret
  exact wrpost hr (by simp [wrF]) hb
set_option maxRecDepth 20000 in
set_option maxHeartbeats 2000000 in
theorem rbytes_k28 {w : World} {c : Int} {sp : List Sp} {a : Int} {d : List Int} {t : Int} {sa da : Option Addr} {sc dc : Nat} : Calls Tryd.prog 28 #[fAgg ⟨28, c, sp, a, d, t⟩ (.slice sa sp.length sc) (.slice da d.length dc)] w (WrPost w (wrF ⟨28, c, sp, a, d, t⟩)) := by
  unfold fAgg
  have hb := V1_below w 28 c (.slice sa sp.length sc) a (.slice da d.length dc) t
  have ho := V1_own w 28 c (.slice sa sp.length sc) a (.slice da d.length dc) t
  have hA := bytes_any (w := V1 w 28 c (.slice sa sp.length sc) a (.slice da d.length dc) t) c
  have hsz := V1_size w 28 c (.slice sa sp.length sc) a (.slice da d.length dc) t
  have HB := Lib.hid hb
  have HO := Lib.hid ho
  have HSZ := Lib.hid hsz
  have HEN := Lib.hid (enc_len c)
  unfold V1 at *
  clear hb ho hsz
  go_enter Tryd.func28, Tryd.ntmps28
  go_wp2_with (first
    | (go_at_call 41; refine hA.mono ?_; rintro e w2 ⟨v2, rfl, ho2, hb2⟩; have hr2 := (Rd.of_own ho2 (enc_byt c)).1)
    | (at_builtin; refine wpList_append_bytes (.tmp 114) (.tmp 117) 26 rfl rfl info5 Tryd.underlying26 (w.heap.size + 1) _ 1 [28] rfl (own_below HO.out hb2) _ (enc c) rfl hr2 (by have := HEN.out; omega) (by have := hb2.size; have := HSZ.out; omega) ?_; intro v3 w3 hown3 hb3))
  go_ret
  exact wrpost (Rd.of_own hown3 ((byt_one (by decide)).app (enc_byt c))).1 (by simp [wrF]) ((HB.out.trans (hb2.mono HB.out.size)).trans (hb3.mono (by omega)))
set_option maxRecDepth 20000 in
set_option maxHeartbeats 2000000 in
theorem rbytes_k7 {w : World} {c : Int} {sp : List Sp} {a : Int} {d : List Int} {t : Int} {sa da : Option Addr} {sc dc : Nat} (hT : 1 ≤ t ∧ t ≤ 65536) : Calls Tryd.prog 28 #[fAgg ⟨7, c, sp, a, d, t⟩ (.slice sa sp.length sc) (.slice da d.length dc)] w (WrPost w (wrF ⟨7, c, sp, a, d, t⟩)) := by
  unfold fAgg
  have hb := V1_below w 7 c (.slice sa sp.length sc) a (.slice da d.length dc) t
  have ho := V1_own w 7 c (.slice sa sp.length sc) a (.slice da d.length dc) t
  have hA := rnumber_any t (V1 w 7 c (.slice sa sp.length sc) a (.slice da d.length dc) t)
  have hsz := V1_size w 7 c (.slice sa sp.length sc) a (.slice da d.length dc) t
  have HB := Lib.hid hb
  have HO := Lib.hid ho
  have HSZ := Lib.hid hsz
  have HT := Lib.hid (numB_big hT)
  have HL : Hid ((numB t).length = 4) := Lib.hid (by rw [numB_yes hT]; rfl)
  have HBY : Hid (Byt (numB t)) := Lib.hid (by rw [numB_yes hT]; intro z hz; simp at hz; omega)
  generalize numB t = L at *
  unfold V1 at *
  clear hb ho hsz
  go_enter Tryd.func28, Tryd.ntmps28
  go_wp2_with (first
    | (go_at_call 43; refine hA.mono ?_; rintro e w2 ⟨v2, rfl, ho2, hb2⟩; have hr2 := (Rd.of_own ho2 HBY.out).1)
    | (at_builtin; refine wpList_append_bytes (.tmp 96) (.tmp 99) 26 rfl rfl info5 Tryd.underlying26 (w.heap.size + 1) _ 1 [7] rfl (own_below HO.out hb2) _ L rfl hr2 (by rw [HL.out]; omega) (by have := hb2.size; have := HSZ.out; omega) ?_; intro v3 w3 hown3 hb3))
  go_ret
  exact wrpost (Rd.of_own hown3 ((byt_one (by decide)).app HBY.out)).1 (by simp [wrF, HT.out]) ((HB.out.trans (hb2.mono HB.out.size)).trans (hb3.mono (by omega)))
set_option maxRecDepth 20000 in
set_option maxHeartbeats 2000000 in
theorem rbytes_k0 {w : World} {c : Int} {sp : List Sp} {a : Int} {d : List Int} {t : Int} {sa da : Option Addr} {sc dc : Nat} (h : 1 ≤ c ∧ c ≤ 1200) : Calls Tryd.prog 28 #[fAgg ⟨0, c, sp, a, d, t⟩ (.slice sa sp.length sc) (.slice da d.length dc)] w (WrPost w (wrF ⟨0, c, sp, a, d, t⟩)) := by
  unfold fAgg
  obtain ⟨n, rfl⟩ : ∃ n : Nat, c = n := ⟨c.toNat, by omega⟩
  have hb := V1_below w 0 n (.slice sa sp.length sc) a (.slice da d.length dc) t
  have ho := V1_own w 0 n (.slice sa sp.length sc) a (.slice da d.length dc) t
  have hbx := V1_box w 0 n (.slice sa sp.length sc) a (.slice da d.length dc) t
  have HB := Lib.hid hb
  have HO := Lib.hid ho
  have HX := Lib.hid hbx
  have HSZ := Lib.hid (V1_size w 0 n (.slice sa sp.length sc) a (.slice da d.length dc) t)
  have hn1 : 1 ≤ n := by omega
  have hn2 : n ≤ 1200 := by omega
  unfold V1 at *
  clear hb ho hbx h
  go_enter Tryd.func28, Tryd.ntmps28
  go_wp2_with fail
  go_loopw [3, 4] (fun u i wr => ∃ j : Nat, i = .int .i64 j ∧ 1 ≤ j ∧ j ≤ n ∧ Hid (wr.ownsRow (w.heap.size + 1) 5 1 u j (by8 (List.replicate j 0)) ∧ Below w.heap.size w wr ∧ wr.heap[w.heap.size]? = some (.cells #[.int .i64 0, .int .i64 n, .slice sa sp.length sc, .int .i64 a, .slice da d.length dc, .int .i64 t] 33 (0, 0)) ∧ w.heap.size + 1 ≤ wr.heap.size)) (fun _ i _ => n - (intOf i).toNat)
  case atStart => exact ⟨1, rfl, by omega, hn1, Lib.hid ⟨HO.out, HB.out, HX.out, by have := HSZ.out; omega⟩⟩
  case round =>
    rename_i wr
    obtain ⟨j, rfl, hj1, hj, HR⟩ := hrel
    obtain ⟨ua, uc, rfl⟩ := own_shape HR.out.1
    have c1 : wr.cell? ⟨w.heap.size, 1, none⟩ = some (.int .i64 n) := (cell_of_row wr _ 1 _ _ (0, 0) HR.out.2.2.1).trans rfl
    by_cases hlt : j < n
    · have hlt' : (j : Int) < (n : Int) := by omega
      have hLit := Rd.lit wr [0] (by simp) (byt_one (by decide))
      go_wp2_with (at_builtin; refine wpList_append_bytes (.tmp 20) (.tmp 21) 26 rfl rfl info5 Tryd.underlying26 (w.heap.size + 1) _ j (List.replicate j 0) rfl (own_below HR.out.1 (below_alloc _ _)) _ [0] rfl hLit (by simp; omega) (by have := HR.out.2.2.2; simp; omega) ?_; intro v3 w3 hown3 hb3; have HN : Hid (w3.ownsRow (w.heap.size + 1) 5 1 v3 (j + 1) (by8 (List.replicate (j + 1) 0)) ∧ Below w.heap.size w w3 ∧ w3.heap[w.heap.size]? = some (.cells #[.int .i64 0, .int .i64 n, .slice sa sp.length sc, .int .i64 a, .slice da d.length dc, .int .i64 t] 33 (0, 0)) ∧ w.heap.size + 1 ≤ w3.heap.size) := Lib.hid ⟨by rw [List.replicate_succ']; exact hown3, (HR.out.2.1.alloc HR.out.2.1.size _).trans (hb3.mono (by omega)), by (rw [hb3.block _ (by omega), (below_alloc wr _).block _ (by have := HR.out.2.2.2; omega)]; exact HR.out.2.2.1), by have h1 := hb3.size; have h2 := HR.out.2.2.2; simp at h1; omega⟩)
      go_roundw
      case rel => exact ⟨j + 1, by go_num, by omega, by omega, HN⟩
      case measure => simp [intOf]; omega
    · obtain rfl : j = n := by omega
      go_wp2_with fail
      go_ret
      exact wrpost (Rd.of_own HR.out.1 (fun z hz => by rw [List.eq_of_mem_replicate hz]; omega)).1 (by simp [wrF]) HR.out.2.1
#print axioms rbytes_k0
end Go.Proofs.YtocfkkppalpamaaDoor
namespace Go.Proofs.YtocfkkppalpamaaDoor
open Go Go.RowKit

set_option maxRecDepth 20000 in
set_option maxHeartbeats 2000000 in
theorem refgive_any {w : World} {v : Value} {zs : List Int} (hr : Rd w v zs) (hl : zs.length ≤ 1000) :
    Calls Tryd.prog 42 #[v] w fun e w' => ∃ v', e = .returned v' ∧ w'.ownsRow w.heap.size 5 1 v' ((enc zs.length).length + zs.length) (by8 (enc zs.length ++ zs)) ∧ Below w.heap.size w w' := by
  have hr' := hr
  obtain ⟨ao, cap, rfl, _⟩ := hr'
  have hl8 := enc_len zs.length
  go_enter Tryd.func42, Tryd.ntmps42
  go_wp2_with fail
  refine (bytes_any (zs.length : Int)).mono ?_
  rintro e w1 ⟨v1, rfl, hown1, hb1⟩
  have hR := hr.below hb1
  have hs := hb1.size
  have hl9 : (enc (zs.length : Int)).length + zs.length ≤ 140737488355328 := by omega
  go_wp2_with (at_builtin; refine wpList_append_bytes (.tmp 5) (.tmp 6) 26 rfl rfl info5 Tryd.underlying26 w.heap.size _ _ _ rfl hown1 _ zs rfl hR hl9 hs ?_; intro v2 w2 hown2 hb2)
  go_ret
  exact ⟨_, rfl, hown2, hb1.trans hb2⟩
set_option maxRecDepth 20000 in
set_option maxHeartbeats 4000000 in
theorem rbytes_k6 {w : World} {c : Int} {sp : List Sp} {a : Int} {d : List Int} {t : Int} {sa da : Option Addr} {sc dc : Nat} (hd : Rd w (.slice da d.length dc) d) (hdl : d.length ≤ 1000) : Calls Tryd.prog 28 #[fAgg ⟨6, c, sp, a, d, t⟩ (.slice sa sp.length sc) (.slice da d.length dc)] w (WrPost w (wrF ⟨6, c, sp, a, d, t⟩)) := by
  unfold fAgg
  have HB := Lib.hid (V1_below w 6 c (.slice sa sp.length sc) a (.slice da d.length dc) t)
  have HO := Lib.hid (V1_own w 6 c (.slice sa sp.length sc) a (.slice da d.length dc) t)
  have HX := Lib.hid (V1_box w 6 c (.slice sa sp.length sc) a (.slice da d.length dc) t)
  have HSZ := Lib.hid (V1_size w 6 c (.slice sa sp.length sc) a (.slice da d.length dc) t)
  have HEN := Lib.hid (enc_len a)
  have HD := Lib.hid hd
  have HE2 := Lib.hid (enc_len (d.length : Int))
  clear hd
  have hV : ((w.alloc (.cells #[.int .i64 6, .int .i64 c, .slice sa sp.length sc, .int .i64 a, .slice da d.length dc, .int .i64 t] 33)).alloc (.cells #[.int .u8 6] 5)) = V1 w 6 c (.slice sa sp.length sc) a (.slice da d.length dc) t := rfl
  generalize hV2 : V1 w 6 c (.slice sa sp.length sc) a (.slice da d.length dc) t = V at *
  clear hV2
  obtain ⟨c0, c1, c2, c3, c4, c5, cf⟩ := fcells_of (f := ⟨6, c, sp, a, d, t⟩) HX.out
  go_enter Tryd.func28, Tryd.ntmps28
  go_wp2_with fail
  clear c0 c1 c2 c3 c4 c5 cf hV
  refine wp_region_end 9 (fun w' => w'.heap[w.heap.size]? = some (.cells #[.int .i64 6, .int .i64 c, .slice sa sp.length sc, .int .i64 a, .slice da d.length dc, .int .i64 t] 33 (0, 0))) (by kernel_rfl) ?_
  refine wpAnyE_take [0] (i := 0) (oi := { dst := some 85, op := Op.move (Operand.tmp 3), type := 26, pos := "ref.go:75", after := #[], guard := none }) (v := ?_) rfl (by kernel_rfl) (by kernel_rfl) (by kernel_rfl) (by kernel_rfl) rfl rfl (by kernel_rfl) (by kernel_rfl) (fun _ _ _ h => h) (Or.inl ⟨by rfl, ?_⟩) (by exact HX.out) ?_
  rotate_left
  · intro w hSw; (try dsimp only at hSw); obtain ⟨r0, r1, r2, r3, r4, r5, rf⟩ := fcells_of (f := ⟨6, c, sp, a, d, t⟩) hSw; go_simp; try (with_reducible rfl)
  repeat (first | simp only [Act.put] | simp only [List.setIfInBounds_toArray] | simp only [List.set_cons_zero] | simp only [List.set_cons_succ])
  refine wpAnyE_take [1] (i := 1) (oi := { dst := some 86, op := Op.fieldAddr 33 (Operand.tmp 1) 3, type := 0, pos := "ref.go:75", after := #[], guard := none }) (v := ?_) rfl (by kernel_rfl) (by kernel_rfl) (by kernel_rfl) (by kernel_rfl) rfl rfl (by kernel_rfl) (by kernel_rfl) (fun _ _ _ h => h) (Or.inl ⟨by rfl, ?_⟩) (by exact HX.out) ?_
  rotate_left
  · intro w hSw; (try dsimp only at hSw); obtain ⟨r0, r1, r2, r3, r4, r5, rf⟩ := fcells_of (f := ⟨6, c, sp, a, d, t⟩) hSw; go_simp; try (with_reducible rfl)
  repeat (first | simp only [Act.put] | simp only [List.setIfInBounds_toArray] | simp only [List.set_cons_zero] | simp only [List.set_cons_succ])
  refine wpAnyE_take [2] (i := 2) (oi := { dst := some 87, op := Op.load 3 (Operand.tmp 86), type := 3, pos := "ref.go:75", after := #[{ on := 1, ground := Ground.data }], guard := none }) (v := ?_) rfl (by kernel_rfl) (by kernel_rfl) (by kernel_rfl) (by kernel_rfl) rfl rfl (by kernel_rfl) (by kernel_rfl) (fun _ _ _ h => h) (Or.inl ⟨by rfl, ?_⟩) (by exact HX.out) ?_
  rotate_left
  · intro w hSw; (try dsimp only at hSw); obtain ⟨r0, r1, r2, r3, r4, r5, rf⟩ := fcells_of (f := ⟨6, c, sp, a, d, t⟩) hSw; go_simp; try (with_reducible rfl)
  repeat (first | simp only [Act.put] | simp only [List.setIfInBounds_toArray] | simp only [List.set_cons_zero] | simp only [List.set_cons_succ])
  refine wpAnyE_take [5] (i := 5) (oi := { dst := some 90, op := Op.fieldAddr 33 (Operand.tmp 1) 4, type := 0, pos := "ref.go:75", after := #[], guard := none }) (v := ?_) rfl (by kernel_rfl) (by kernel_rfl) (by kernel_rfl) (by kernel_rfl) rfl rfl (by kernel_rfl) (by kernel_rfl) (fun _ _ _ h => h) (Or.inl ⟨by rfl, ?_⟩) (by exact HX.out) ?_
  rotate_left
  · intro w hSw; (try dsimp only at hSw); obtain ⟨r0, r1, r2, r3, r4, r5, rf⟩ := fcells_of (f := ⟨6, c, sp, a, d, t⟩) hSw; go_simp; try (with_reducible rfl)
  repeat (first | simp only [Act.put] | simp only [List.setIfInBounds_toArray] | simp only [List.set_cons_zero] | simp only [List.set_cons_succ])
  refine wpAnyE_take [6] (i := 6) (oi := { dst := some 91, op := Op.load 26 (Operand.tmp 90), type := 26, pos := "ref.go:75", after := #[{ on := 5, ground := Ground.data }], guard := none }) (v := ?_) rfl (by kernel_rfl) (by kernel_rfl) (by kernel_rfl) (by kernel_rfl) rfl rfl (by kernel_rfl) (by kernel_rfl) (fun _ _ _ h => h) (Or.inl ⟨by rfl, ?_⟩) (by exact HX.out) ?_
  rotate_left
  · intro w hSw; (try dsimp only at hSw); obtain ⟨r0, r1, r2, r3, r4, r5, rf⟩ := fcells_of (f := ⟨6, c, sp, a, d, t⟩) hSw; go_simp; try (with_reducible rfl)
  repeat (first | simp only [Act.put] | simp only [List.setIfInBounds_toArray] | simp only [List.set_cons_zero] | simp only [List.set_cons_succ])
  refine wpAnyE_one (i := 3) (o := { dst := some 88, op := Op.call { callee := Callee.value (Operand.func 41), args := #[Operand.tmp 87], argTypes := #[3] }, type := 26, pos := "ref.go:75", after := #[{ on := 2, ground := Ground.data }], guard := none }) (by kernel_rfl) rfl (fun K hK => ?_)
  go_simp
  refine (bytes_any (w := V.drew) a).mono ?_
  rintro e w2 ⟨v2, rfl, ho2, hb2⟩
  have hr2 := (Rd.of_own ho2 (enc_byt a)).1
  have HS2 : Hid (w.heap.size + 2 ≤ w2.heap.size) := Lib.hid (by have h1 := hb2.size; have h2 := HSZ.out; simp at h1; omega)
  have HX2 : Hid (w2.heap[w.heap.size]? = _) := Lib.hid ((hb2.block _ (by have h2 := HSZ.out; simp; omega)).trans HX.out)
  refine hK.out _ _ (fun hL => ?_) ?_
  · exact HX2.out
  clear hK K
  repeat (first | simp only [Act.put] | simp only [List.setIfInBounds_toArray] | simp only [List.set_cons_zero] | simp only [List.set_cons_succ])
  refine wpAnyE_one (i := 4) (o := { dst := some 89, op := Op.call { callee := Callee.builtin Builtin.append, args := #[Operand.tmp 85, Operand.tmp 88], argTypes := #[26, 26] }, type := 26, pos := "ref.go:75", after := #[{ on := 0, ground := Ground.data }, { on := 3, ground := Ground.data }, { on := 3, ground := Ground.chain }], guard := none }) (by kernel_rfl) rfl (fun K hK => ?_)
  refine step_append_bytes (by rfl) _ _ (by rfl) (w.heap.size + 1) _ 1 [6] (by rfl) (own_keepG HO.out fun b h1 _ => hb2.block b (by simpa using h1)) _ (enc a) (by rfl) hr2 (by have := HEN.out; omega) (by have := HS2.out; omega) ?_
  intro v3 w3 hown3 hb3
  have HX3 : Hid (w3.heap[w.heap.size]? = _) := Lib.hid ((hb3.block _ (by omega)).trans HX2.out)
  have HB3 := Lib.hid ((HB.out.drew.trans (hb2.mono HB.out.size)).trans (hb3.mono (by omega)))
  have HS3 : Hid (w.heap.size + 2 ≤ w3.heap.size) := Lib.hid (by have h1 := hb3.size; have h2 := HS2.out; omega)
  refine hK.out _ _ (fun hL => ?_) ?_
  · exact HX3.out
  clear hK K
  repeat (first | simp only [Act.put] | simp only [List.setIfInBounds_toArray] | simp only [List.set_cons_zero] | simp only [List.set_cons_succ])
  refine wpAnyE_one (i := 7) (o := { dst := some 92, op := Op.call { callee := Callee.value (Operand.func 42), args := #[Operand.tmp 91], argTypes := #[26] }, type := 26, pos := "ref.go:75", after := #[{ on := 6, ground := Ground.data }, { on := 4, ground := Ground.chain }], guard := none }) (by kernel_rfl) rfl (fun K hK => ?_)
  go_simp
  refine (refgive_any (HD.out.below HB3.out) hdl).mono ?_
  rintro e w4 ⟨v4, rfl, ho4, hb4⟩
  have hr4 := (Rd.of_own (by simpa using ho4) ((enc_byt _).app HD.out.byt)).1
  have HX4 : Hid (w4.heap[w.heap.size]? = _) := Lib.hid ((hb4.block _ (by have := HS3.out; omega)).trans HX3.out)
  have HS4 : Hid (w.heap.size + 2 ≤ w4.heap.size) := Lib.hid (by have h1 := hb4.size; have h2 := HS3.out; omega)
  refine hK.out _ _ (fun hL => ?_) ?_
  · exact HX4.out
  clear hK K
  repeat (first | simp only [Act.put] | simp only [List.setIfInBounds_toArray] | simp only [List.set_cons_zero] | simp only [List.set_cons_succ])
  refine wpAnyE_one (i := 8) (o := { dst := some 93, op := Op.call { callee := Callee.builtin Builtin.append, args := #[Operand.tmp 89, Operand.tmp 92], argTypes := #[26, 26] }, type := 26, pos := "ref.go:75", after := #[{ on := 4, ground := Ground.data }, { on := 7, ground := Ground.data }, { on := 7, ground := Ground.chain }], guard := none }) (by kernel_rfl) rfl (fun K hK => ?_)
  refine step_append_bytes (by rfl) _ _ (by rfl) (w.heap.size + 1) v3 _ ([6] ++ enc a) (by rfl) (own_below hown3 hb4) v4 (enc (d.length : Int) ++ d) (by rfl) hr4 (by simp; have := HEN.out; have := HE2.out; omega) (by have := HS4.out; omega) ?_
  intro v5 w5 hown5 hb5
  have HX5 : Hid (w5.heap[w.heap.size]? = _) := Lib.hid ((hb5.block _ (by omega)).trans HX4.out)
  obtain ⟨a5, k5, rfl⟩ := own_shape hown5
  refine hK.out _ _ (fun hL => ?_) ?_
  · exact HX5.out
  clear hK K
  repeat (first | simp only [Act.put] | simp only [List.setIfInBounds_toArray] | simp only [List.set_cons_zero] | simp only [List.set_cons_succ])
  refine wpAnyE_one (i := 9) (o := { dst := some 3, op := Op.assign (Operand.tmp 93), type := 26, pos := "ref.go:75", after := #[{ on := 8, ground := Ground.data }, { on := 8, ground := Ground.chain }, { on := 0, ground := Ground.phase }, { on := 1, ground := Ground.phase }, { on := 2, ground := Ground.phase }, { on := 3, ground := Ground.phase }, { on := 4, ground := Ground.phase }, { on := 5, ground := Ground.phase }, { on := 6, ground := Ground.phase }, { on := 7, ground := Ground.phase }, { on := 8, ground := Ground.phase }], guard := none }) (by kernel_rfl) rfl (fun K hK => ?_)
  go_simp
  refine hK.out _ _ (fun hL => absurd hL (by decide)) ?_
  clear hK K
  repeat (first | simp only [Act.put] | simp only [List.setIfInBounds_toArray] | simp only [List.set_cons_zero] | simp only [List.set_cons_succ])
  refine wpAnyE_done (by kernel_rfl) ?_ _
  go_wp2_with fail
  go_ret
  have hr5 := (Rd.of_own hown5 (((byt_one (by decide)).app (enc_byt _)).app ((enc_byt _).app HD.out.byt))).1
  simp only [List.length_append] at hr5
  exact wrpost hr5 (by simp [wrF]) ((HB3.out.trans (hb4.mono HB3.out.size)).trans (hb5.mono (by omega)))
set_option maxRecDepth 20000 in
set_option maxHeartbeats 4000000 in
theorem rbytes_k8 {w : World} {c : Int} {sp : List Sp} {a : Int} {d : List Int} {t : Int} {sa da : Option Addr} {sc dc : Nat} (hT : 1 ≤ t ∧ t ≤ 65536) : Calls Tryd.prog 28 #[fAgg ⟨8, c, sp, a, d, t⟩ (.slice sa sp.length sc) (.slice da d.length dc)] w (WrPost w (wrF ⟨8, c, sp, a, d, t⟩)) := by
  unfold fAgg
  have HB := Lib.hid (V1_below w 8 c (.slice sa sp.length sc) a (.slice da d.length dc) t)
  have HO := Lib.hid (V1_own w 8 c (.slice sa sp.length sc) a (.slice da d.length dc) t)
  have HX := Lib.hid (V1_box w 8 c (.slice sa sp.length sc) a (.slice da d.length dc) t)
  have HSZ := Lib.hid (V1_size w 8 c (.slice sa sp.length sc) a (.slice da d.length dc) t)
  have HEN := Lib.hid (enc_len c)
  have hN := fun w2 => rnumber_any t w2
  have HT := Lib.hid (numB_big hT)
  have HL : Hid ((numB t).length = 4) := Lib.hid (by rw [numB_yes hT]; rfl)
  have HBY : Hid (Byt (numB t)) := Lib.hid (by rw [numB_yes hT]; intro z hz; simp at hz; omega)
  generalize numB t = L at *
  have hV : ((w.alloc (.cells #[.int .i64 8, .int .i64 c, .slice sa sp.length sc, .int .i64 a, .slice da d.length dc, .int .i64 t] 33)).alloc (.cells #[.int .u8 8] 5)) = V1 w 8 c (.slice sa sp.length sc) a (.slice da d.length dc) t := rfl
  generalize hV2 : V1 w 8 c (.slice sa sp.length sc) a (.slice da d.length dc) t = V at *
  clear hV2
  obtain ⟨c0, c1, c2, c3, c4, c5, cf⟩ := fcells_of (f := ⟨8, c, sp, a, d, t⟩) HX.out
  go_enter Tryd.func28, Tryd.ntmps28
  go_wp2_with fail
  clear c0 c1 c2 c3 c4 c5 cf hV
  refine wp_region_end 9 (fun w' => w'.heap[w.heap.size]? = some (.cells #[.int .i64 8, .int .i64 c, .slice sa sp.length sc, .int .i64 a, .slice da d.length dc, .int .i64 t] 33 (0, 0))) (by kernel_rfl) ?_
  refine wpAnyE_take [0] (i := 0) (oi := { dst := some 103, op := Op.move (Operand.tmp 3), type := 26, pos := "ref.go:79", after := #[], guard := none }) (v := ?_) rfl (by kernel_rfl) (by kernel_rfl) (by kernel_rfl) (by kernel_rfl) rfl rfl (by kernel_rfl) (by kernel_rfl) (fun _ _ _ h => h) (Or.inl ⟨by rfl, ?_⟩) (by exact HX.out) ?_
  rotate_left
  · intro w hSw; (try dsimp only at hSw); obtain ⟨r0, r1, r2, r3, r4, r5, rf⟩ := fcells_of (f := ⟨8, c, sp, a, d, t⟩) hSw; go_simp; try (with_reducible rfl)
  repeat (first | simp only [Act.put] | simp only [List.setIfInBounds_toArray] | simp only [List.set_cons_zero] | simp only [List.set_cons_succ])
  refine wpAnyE_take [1] (i := 1) (oi := { dst := some 104, op := Op.fieldAddr 33 (Operand.tmp 1) 1, type := 0, pos := "ref.go:79", after := #[], guard := none }) (v := ?_) rfl (by kernel_rfl) (by kernel_rfl) (by kernel_rfl) (by kernel_rfl) rfl rfl (by kernel_rfl) (by kernel_rfl) (fun _ _ _ h => h) (Or.inl ⟨by rfl, ?_⟩) (by exact HX.out) ?_
  rotate_left
  · intro w hSw; (try dsimp only at hSw); obtain ⟨r0, r1, r2, r3, r4, r5, rf⟩ := fcells_of (f := ⟨8, c, sp, a, d, t⟩) hSw; go_simp; try (with_reducible rfl)
  repeat (first | simp only [Act.put] | simp only [List.setIfInBounds_toArray] | simp only [List.set_cons_zero] | simp only [List.set_cons_succ])
  refine wpAnyE_take [2] (i := 2) (oi := { dst := some 105, op := Op.load 3 (Operand.tmp 104), type := 3, pos := "ref.go:79", after := #[{ on := 1, ground := Ground.data }], guard := none }) (v := ?_) rfl (by kernel_rfl) (by kernel_rfl) (by kernel_rfl) (by kernel_rfl) rfl rfl (by kernel_rfl) (by kernel_rfl) (fun _ _ _ h => h) (Or.inl ⟨by rfl, ?_⟩) (by exact HX.out) ?_
  rotate_left
  · intro w hSw; (try dsimp only at hSw); obtain ⟨r0, r1, r2, r3, r4, r5, rf⟩ := fcells_of (f := ⟨8, c, sp, a, d, t⟩) hSw; go_simp; try (with_reducible rfl)
  repeat (first | simp only [Act.put] | simp only [List.setIfInBounds_toArray] | simp only [List.set_cons_zero] | simp only [List.set_cons_succ])
  refine wpAnyE_take [5] (i := 5) (oi := { dst := some 108, op := Op.fieldAddr 33 (Operand.tmp 1) 5, type := 0, pos := "ref.go:79", after := #[], guard := none }) (v := ?_) rfl (by kernel_rfl) (by kernel_rfl) (by kernel_rfl) (by kernel_rfl) rfl rfl (by kernel_rfl) (by kernel_rfl) (fun _ _ _ h => h) (Or.inl ⟨by rfl, ?_⟩) (by exact HX.out) ?_
  rotate_left
  · intro w hSw; (try dsimp only at hSw); obtain ⟨r0, r1, r2, r3, r4, r5, rf⟩ := fcells_of (f := ⟨8, c, sp, a, d, t⟩) hSw; go_simp; try (with_reducible rfl)
  repeat (first | simp only [Act.put] | simp only [List.setIfInBounds_toArray] | simp only [List.set_cons_zero] | simp only [List.set_cons_succ])
  refine wpAnyE_take [6] (i := 6) (oi := { dst := some 109, op := Op.load 3 (Operand.tmp 108), type := 3, pos := "ref.go:79", after := #[{ on := 5, ground := Ground.data }], guard := none }) (v := ?_) rfl (by kernel_rfl) (by kernel_rfl) (by kernel_rfl) (by kernel_rfl) rfl rfl (by kernel_rfl) (by kernel_rfl) (fun _ _ _ h => h) (Or.inl ⟨by rfl, ?_⟩) (by exact HX.out) ?_
  rotate_left
  · intro w hSw; (try dsimp only at hSw); obtain ⟨r0, r1, r2, r3, r4, r5, rf⟩ := fcells_of (f := ⟨8, c, sp, a, d, t⟩) hSw; go_simp; try (with_reducible rfl)
  repeat (first | simp only [Act.put] | simp only [List.setIfInBounds_toArray] | simp only [List.set_cons_zero] | simp only [List.set_cons_succ])
  refine wpAnyE_one (i := 3) (o := { dst := some 106, op := Op.call { callee := Callee.value (Operand.func 41), args := #[Operand.tmp 105], argTypes := #[3] }, type := 26, pos := "ref.go:79", after := #[{ on := 2, ground := Ground.data }], guard := none }) (by kernel_rfl) rfl (fun K hK => ?_)
  go_simp
  refine (bytes_any (w := V.drew) c).mono ?_
  rintro e w2 ⟨v2, rfl, ho2, hb2⟩
  have hr2 := (Rd.of_own ho2 (enc_byt c)).1
  have HS2 : Hid (w.heap.size + 2 ≤ w2.heap.size) := Lib.hid (by have h1 := hb2.size; have h2 := HSZ.out; simp at h1; omega)
  have HX2 : Hid (w2.heap[w.heap.size]? = _) := Lib.hid ((hb2.block _ (by have h2 := HSZ.out; simp; omega)).trans HX.out)
  refine hK.out _ _ (fun hL => ?_) ?_
  · exact HX2.out
  clear hK K
  repeat (first | simp only [Act.put] | simp only [List.setIfInBounds_toArray] | simp only [List.set_cons_zero] | simp only [List.set_cons_succ])
  refine wpAnyE_one (i := 4) (o := { dst := some 107, op := Op.call { callee := Callee.builtin Builtin.append, args := #[Operand.tmp 103, Operand.tmp 106], argTypes := #[26, 26] }, type := 26, pos := "ref.go:79", after := #[{ on := 0, ground := Ground.data }, { on := 3, ground := Ground.data }, { on := 3, ground := Ground.chain }], guard := none }) (by kernel_rfl) rfl (fun K hK => ?_)
  refine step_append_bytes (by rfl) _ _ (by rfl) (w.heap.size + 1) _ 1 [8] (by rfl) (own_keepG HO.out fun b h1 _ => hb2.block b (by simpa using h1)) _ (enc c) (by rfl) hr2 (by have := HEN.out; omega) (by have := HS2.out; omega) ?_
  intro v3 w3 hown3 hb3
  have HX3 : Hid (w3.heap[w.heap.size]? = _) := Lib.hid ((hb3.block _ (by omega)).trans HX2.out)
  have HB3 := Lib.hid ((HB.out.drew.trans (hb2.mono HB.out.size)).trans (hb3.mono (by omega)))
  have HS3 : Hid (w.heap.size + 2 ≤ w3.heap.size) := Lib.hid (by have h1 := hb3.size; have h2 := HS2.out; omega)
  refine hK.out _ _ (fun hL => ?_) ?_
  · exact HX3.out
  clear hK K
  repeat (first | simp only [Act.put] | simp only [List.setIfInBounds_toArray] | simp only [List.set_cons_zero] | simp only [List.set_cons_succ])
  refine wpAnyE_one (i := 7) (o := { dst := some 110, op := Op.call { callee := Callee.value (Operand.func 43), args := #[Operand.tmp 109], argTypes := #[3] }, type := 26, pos := "ref.go:79", after := #[{ on := 6, ground := Ground.data }, { on := 4, ground := Ground.chain }], guard := none }) (by kernel_rfl) rfl (fun K hK => ?_)
  go_simp
  refine (hN _).mono ?_
  rintro e w4 ⟨v4, rfl, ho4, hb4⟩
  have hr4 := (Rd.of_own (by simpa using ho4) HBY.out).1
  have HX4 : Hid (w4.heap[w.heap.size]? = _) := Lib.hid ((hb4.block _ (by have := HS3.out; omega)).trans HX3.out)
  have HS4 : Hid (w.heap.size + 2 ≤ w4.heap.size) := Lib.hid (by have h1 := hb4.size; have h2 := HS3.out; omega)
  refine hK.out _ _ (fun hL => ?_) ?_
  · exact HX4.out
  clear hK K
  repeat (first | simp only [Act.put] | simp only [List.setIfInBounds_toArray] | simp only [List.set_cons_zero] | simp only [List.set_cons_succ])
  refine wpAnyE_one (i := 8) (o := { dst := some 111, op := Op.call { callee := Callee.builtin Builtin.append, args := #[Operand.tmp 107, Operand.tmp 110], argTypes := #[26, 26] }, type := 26, pos := "ref.go:79", after := #[{ on := 4, ground := Ground.data }, { on := 7, ground := Ground.data }, { on := 7, ground := Ground.chain }], guard := none }) (by kernel_rfl) rfl (fun K hK => ?_)
  refine step_append_bytes (by rfl) _ _ (by rfl) (w.heap.size + 1) v3 _ ([8] ++ enc c) (by rfl) (own_below hown3 hb4) v4 L (by rfl) hr4 (by rw [HL.out]; simp; have := HEN.out; omega) (by have := HS4.out; omega) ?_
  intro v5 w5 hown5 hb5
  have HX5 : Hid (w5.heap[w.heap.size]? = _) := Lib.hid ((hb5.block _ (by omega)).trans HX4.out)
  obtain ⟨a5, k5, rfl⟩ := own_shape hown5
  refine hK.out _ _ (fun hL => ?_) ?_
  · exact HX5.out
  clear hK K
  repeat (first | simp only [Act.put] | simp only [List.setIfInBounds_toArray] | simp only [List.set_cons_zero] | simp only [List.set_cons_succ])
  refine wpAnyE_one (i := 9) (o := { dst := some 3, op := Op.assign (Operand.tmp 111), type := 26, pos := "ref.go:79", after := #[{ on := 8, ground := Ground.data }, { on := 8, ground := Ground.chain }, { on := 0, ground := Ground.phase }, { on := 1, ground := Ground.phase }, { on := 2, ground := Ground.phase }, { on := 3, ground := Ground.phase }, { on := 4, ground := Ground.phase }, { on := 5, ground := Ground.phase }, { on := 6, ground := Ground.phase }, { on := 7, ground := Ground.phase }, { on := 8, ground := Ground.phase }], guard := none }) (by kernel_rfl) rfl (fun K hK => ?_)
  go_simp
  refine hK.out _ _ (fun hL => absurd hL (by decide)) ?_
  clear hK K
  repeat (first | simp only [Act.put] | simp only [List.setIfInBounds_toArray] | simp only [List.set_cons_zero] | simp only [List.set_cons_succ])
  refine wpAnyE_done (by kernel_rfl) ?_ _
  go_wp2_with fail
  go_ret
  have hr5 := (Rd.of_own hown5 (((byt_one (by decide)).app (enc_byt _)).app HBY.out)).1
  exact wrpost hr5 (by simp [wrF, HT.out]) ((HB3.out.trans (hb4.mono HB3.out.size)).trans (hb5.mono (by omega)))
#print axioms rbytes_k6
#print axioms rbytes_k8
end Go.Proofs.YtocfkkppalpamaaDoor
namespace Go.Proofs.YtocfkkppalpamaaDoor
open Go Go.RowKit

/-- Where the writing of an ack stands. -/
structure AkW (w : World) (b off : Nat) (c : Int) (sp : List Sp) (sc : Nat) (a : Int) (da : Option Addr) (d : List Int) (dc : Nat) (t : Int) (P : List Int) (u : Value) (wr : World) : Prop where
  own : wr.ownsRow (w.heap.size + 1) 5 1 u P.length (by8 P)
  byt : Byt P
  bel : Below w.heap.size w wr
  box : wr.heap[w.heap.size]? = some (.cells #[.int .i64 2, .int .i64 c, .slice (some ⟨b, off, none⟩) sp.length sc, .int .i64 a, .slice da d.length dc, .int .i64 t] 33 (0, 0))
  at' : At wr b off sp
  lt : b < w.heap.size
theorem AkW.size {w wr : World} {b off : Nat} {c : Int} {sp : List Sp} {sc : Nat} {a : Int} {da : Option Addr} {d : List Int} {dc : Nat} {t : Int} {P : List Int} {u : Value} (h : AkW w b off c sp sc a da d dc t P u wr) : w.heap.size + 1 ≤ wr.heap.size := (Array.getElem?_eq_some_iff.1 h.box).1
/-- What is appended: first a call that leaves all as it was, then the row grows. -/
theorem AkW.step {w wr w2 w3 : World} {b off : Nat} {c : Int} {sp : List Sp} {sc : Nat} {a : Int} {da : Option Addr} {d : List Int} {dc : Nat} {t : Int} {P Q : List Int} {u u3 : Value} (h : AkW w b off c sp sc a da d dc t P u wr) (hb2 : Below wr.heap.size wr w2) (ho : w3.ownsRow (w.heap.size + 1) 5 1 u3 (P.length + Q.length) (by8 (P ++ Q))) (hq : Byt Q) (hb3 : Below (w.heap.size + 1) w2 w3) :
    AkW w b off c sp sc a da d dc t (P ++ Q) u3 w3 := by
  have hs := h.size
  have hlt := h.lt
  have hz2 := hb2.size
  have hall : ∀ k, k < w.heap.size + 1 → w3.heap[k]? = wr.heap[k]? := fun k hk => by rw [hb3.block k hk, hb2.block k (by omega)]
  refine ⟨by rw [List.length_append]; exact ho, h.byt.app hq, (h.bel.trans (hb2.mono (by omega))).trans (hb3.mono (by omega)), by rw [hall _ (by omega)]; exact h.box, fun j hj => ?_, hlt⟩
  have hx := h.at' j hj
  unfold World.cell? at hx ⊢
  simp only at hx ⊢
  rw [hall b (by omega)]
  exact hx
theorem AkW.below {w wr w2 : World} {b off : Nat} {c : Int} {sp : List Sp} {sc : Nat} {a : Int} {da : Option Addr} {d : List Int} {dc : Nat} {t : Int} {P : List Int} {u : Value} (h : AkW w b off c sp sc a da d dc t P u wr) (hb2 : Below wr.heap.size wr w2) : AkW w b off c sp sc a da d dc t P u w2 := by
  have hs := h.size
  exact ⟨own_keepG h.own fun k hk _ => hb2.block k hk, h.byt, h.bel.trans (hb2.mono (by omega)), by rw [hb2.block _ (by omega)]; exact h.box, h.at'.below hb2, h.lt⟩
theorem drewB {w w2 : World} (h : Below w.drew.heap.size w.drew w2) : Below w.heap.size w w2 := (Below.refl w.heap.size w).drew.trans h
theorem AkW.hc {P : List Int} {u : Value} {w wr : World} {b off : Nat} {c : Int} {sp : List Sp} {sc : Nat} {a : Int} {da : Option Addr} {d : List Int} {dc : Nat} {t : Int} (h : AkW w b off c sp sc a da d dc t P u wr) {j : Nat} (hj : j < sp.length) {y1 y2 : Int} (h1 : (sp.getD j (0, 0)).1 = y1) (h2 : (sp.getD j (0, 0)).2 = y2) :
    wr.heap[w.heap.size]? = some (.cells #[.int .i64 2, .int .i64 c, .slice (some ⟨b, off, none⟩) sp.length sc, .int .i64 a, .slice da d.length dc, .int .i64 t] 33 (0, 0)) ∧ wr.cell? ⟨b, off + j * 2, none⟩ = some (.int .i64 y1) ∧ wr.cell? ⟨b, off + j * 2 + 1, none⟩ = some (.int .i64 y2) := by
  subst h1; subst h2
  exact ⟨h.box, h.at' j hj⟩
set_option maxRecDepth 20000 in
set_option maxHeartbeats 6000000 in
theorem rbytes_k2 {w : World} {c : Int} {sp : List Sp} {a : Int} {d : List Int} {t : Int} {sa da : Option Addr} {sc dc : Nat} (hs : Rs w (.slice sa sp.length sc) sp) (hk : ackP sp) : Calls Tryd.prog 28 #[fAgg ⟨2, c, sp, a, d, t⟩ (.slice sa sp.length sc) (.slice da d.length dc)] w (WrPost w (wrF ⟨2, c, sp, a, d, t⟩)) := by
  unfold fAgg
  have hS0 : 0 < sp.length := hk.1
  have hS1 : sp.length ≤ 32 := hk.2.1
  obtain ⟨b, off, cap, e0, hb, hat⟩ := hs.at hS0
  simp only [Value.slice.injEq] at e0
  obtain ⟨rfl, _, rfl⟩ := e0
  have HBD := Lib.hid (ack_bounds hk)
  have HWB := Lib.hid (wrAck_len sp)
  have HALL := Lib.hid (wrR_all hS0)
  have HOKS : Hid (∀ k, k < sp.length → okAt sp k) := Lib.hid hk.2.2.2
  have HB := V1_below w 2 c (.slice (some ⟨b, off, none⟩) sp.length sc) a (.slice da d.length dc) t
  have HA0 : Hid (AkW w b off c sp sc a da d dc t [2] (.slice (some ⟨w.heap.size + 1, 0, none⟩) 1 1) (V1 w 2 c (.slice (some ⟨b, off, none⟩) sp.length sc) a (.slice da d.length dc) t)) := Lib.hid ⟨V1_own w 2 c _ a _ t, byt_one (by decide), HB, V1_box w 2 c _ a _ t, hat.below HB, hb⟩
  have hV : ((w.alloc (.cells #[.int .i64 2, .int .i64 c, .slice (some ⟨b, off, none⟩) sp.length sc, .int .i64 a, .slice da d.length dc, .int .i64 t] 33)).alloc (.cells #[.int .u8 2] 5)) = V1 w 2 c (.slice (some ⟨b, off, none⟩) sp.length sc) a (.slice da d.length dc) t := rfl
  generalize hV2 : V1 w 2 c (.slice (some ⟨b, off, none⟩) sp.length sc) a (.slice da d.length dc) t = V at *
  clear hV2 HB hat hs hk
  obtain ⟨c0, c1, c2, c3, c4, c5, cf⟩ := fcells_of (f := ⟨2, c, sp, a, d, t⟩) HA0.out.box
  have hx := (HA0.out.at' 0 hS0).2
  simp only [Nat.zero_mul, Nat.add_zero] at hx
  generalize (sp.getD 0 (0, 0)).2 = x at *
  have hSi : (1 : Int) ≤ (sp.length : Int) := by omega
  have hSj : (sp.length : Int) ≤ 32 := by omega
  have HE1 := Lib.hid (enc_len x)
  have HE2 := Lib.hid (enc_len ((sp.length : Int) - 1))
  go_enter Tryd.func28, Tryd.ntmps28
  go_wp2_with fail
  refine (bytes_any (w := V) x).mono ?_
  rintro e w2 ⟨v2, rfl, ho2, hb2⟩
  have hr2 := (Rd.of_own ho2 (enc_byt x)).1
  have HS2 := Lib.hid hb2.size
  have HO2 := Lib.hid (own_keepG HA0.out.own fun k hk _ => hb2.block k hk)
  have HR2 := Lib.hid hr2
  have HB2 := Lib.hid hb2
  clear ho2 hb2 hr2 c0 c1 c2 c3 c4 c5 cf hx hV
  go_wp2_with (at_builtin; refine wpList_append_bytes (.tmp 25) (.tmp 31) 26 rfl rfl info5 Tryd.underlying26 (w.heap.size + 1) _ _ [2] rfl HO2.out _ (enc x) rfl HR2.out (by have := HE1.out; simp; omega) (by have := HA0.out.size; have := HS2.out; omega) ?_; intro v3 w3 hown3 hb3; have HA1 := Lib.hid (HA0.out.step HB2.out hown3 (enc_byt x) hb3); clear hb3; obtain ⟨g0, g1, g2, g3, g4, g5, gf⟩ := fcells_of (f := ⟨2, c, sp, a, d, t⟩) HA1.out.box; obtain ⟨a3, k3, rfl⟩ := own_shape hown3; clear hown3)
  refine (bytes_any (w := w3) ((sp.length : Int) - 1)).mono ?_
  rintro e w4 ⟨v4, rfl, ho4, hb4⟩
  have HR4 := Lib.hid (Rd.of_own ho4 (enc_byt _)).1
  have HS4 := Lib.hid hb4.size
  have HO4 := Lib.hid (own_keepG HA1.out.own fun k hk _ => hb4.block k hk)
  have HB4 := Lib.hid hb4
  clear ho4 hb4
  go_wp2_with (at_builtin; refine wpList_append_bytes (.tmp 33) (.tmp 38) 26 rfl rfl info5 Tryd.underlying26 (w.heap.size + 1) _ _ ([2] ++ enc x) rfl HO4.out _ (enc ((sp.length : Int) - 1)) rfl HR4.out (by have := HE1.out; have := HE2.out; simp; omega) (by have := HA1.out.size; have := HS4.out; omega) ?_; intro v5 w5 hown5 hb5; have HA2 := Lib.hid (HA1.out.step HB4.out hown5 (enc_byt _) hb5); clear hown5 hb5)
  clear g0 g1 g2 g3 g4 g5 gf
  go_loopw [3, 5] (fun u i wr => ∃ (j : Nat) (P : List Int), i = .int .i64 j ∧ j ≤ sp.length ∧ Hid (AkW w b off c sp sc a da d dc t P u wr) ∧ Hid (P ++ wrR sp j = [2] ++ wrAck sp)) (fun _ i _ => sp.length - (intOf i).toNat)
  case atStart => exact ⟨0, _, rfl, by omega, HA2, Lib.hid (by rw [HALL.out]; simp)⟩
  case round =>
    rename_i wr
    obtain ⟨j, P, rfl, hj, HAK, hE⟩ := hrel
    have hj' : (j : Int) ≤ (sp.length : Int) := by omega
    have HPL : Hid (P.length ≤ 2000) := Lib.hid (by
      have := congrArg List.length hE.out
      have := HWB.out
      simp only [List.length_append, List.length_cons, List.length_nil] at *
      omega)
    obtain ⟨ua, uc, rfl⟩ := own_shape HAK.out.own
    obtain ⟨c0, c1, c2, c3, c4, c5, cf⟩ := fcells_of (f := ⟨2, c, sp, a, d, t⟩) HAK.out.box
    clear c0 c1 c3 c4 c5 cf
    by_cases hlt : j < sp.length
    · have hlt' : (j : Int) < (sp.length : Int) := by omega
      have hbd := HBD.out j hlt
      cases j with
      | zero =>
        have HST := Lib.hid (wrR_zero sp)
        have HCW : ∀ {P : List Int} {u : Value} {W : World}, AkW w b off c sp sc a da d dc t P u W → _ := fun h => h.hc hlt rfl rfl
        generalize (sp.getD 0 (0, 0)).1 = y1 at *
        generalize (sp.getD 0 (0, 0)).2 = y2 at *
        simp only [Nat.zero_mul, Nat.add_zero] at HCW
        obtain ⟨z1, z2, z3⟩ := hbd
        have HC := Lib.hid (HCW HAK.out)
        have HCK : Hid (∀ W, Below wr.drew.heap.size wr.drew W → _) := Lib.hid (fun W h => HCW (HAK.out.below (drewB h)))
        have HCL : Hid (∀ W {P : List Int} {u : Value}, AkW w b off c sp sc a da d dc t P u W → _) := Lib.hid (fun W P u h => HCW h)
        have e3 : IntKind.i64.wrap (y2 - y1) = y2 - y1 := IntWalk.i64_in _ (by omega)
        go_wp2_with fail
        clear c2
        refine wp_region_end 16 (fun w' => w'.heap[w.heap.size]? = some (.cells #[.int .i64 2, .int .i64 c, .slice (some ⟨b, off, none⟩) sp.length sc, .int .i64 a, .slice da d.length dc, .int .i64 t] 33 (0, 0)) ∧ w'.cell? ⟨b, off, none⟩ = some (.int .i64 y1) ∧ w'.cell? ⟨b, off + 1, none⟩ = some (.int .i64 y2)) (by kernel_rfl) ?_
        refine wpAnyE_take [0] (i := 0) (oi := { dst := some 67, op := Op.move (Operand.tmp 3), type := 26, pos := "ref.go:72", after := #[], guard := none }) (v := ?_) rfl (by kernel_rfl) (by kernel_rfl) (by kernel_rfl) (by kernel_rfl) rfl rfl (by kernel_rfl) (by kernel_rfl) (fun _ _ _ h => h) (Or.inl ⟨by rfl, ?_⟩) (by exact HC.out) ?_
        rotate_left
        · intro w hSw; (try dsimp only at hSw); obtain ⟨r0, r1, r2, r3, r4, r5, rf⟩ := fcells_of (f := ⟨2, c, sp, a, d, t⟩) hSw.1; obtain ⟨_, q1, q2⟩ := hSw; go_simp; try (with_reducible rfl)
        repeat (first | simp only [Act.put] | simp only [List.setIfInBounds_toArray] | simp only [List.set_cons_zero] | simp only [List.set_cons_succ])
        refine wpAnyE_take [1] (i := 1) (oi := { dst := some 68, op := Op.fieldAddr 33 (Operand.tmp 1) 2, type := 0, pos := "ref.go:72", after := #[], guard := none }) (v := ?_) rfl (by kernel_rfl) (by kernel_rfl) (by kernel_rfl) (by kernel_rfl) rfl rfl (by kernel_rfl) (by kernel_rfl) (fun _ _ _ h => h) (Or.inl ⟨by rfl, ?_⟩) (by exact HC.out) ?_
        rotate_left
        · intro w hSw; (try dsimp only at hSw); obtain ⟨r0, r1, r2, r3, r4, r5, rf⟩ := fcells_of (f := ⟨2, c, sp, a, d, t⟩) hSw.1; obtain ⟨_, q1, q2⟩ := hSw; go_simp; try (with_reducible rfl)
        repeat (first | simp only [Act.put] | simp only [List.setIfInBounds_toArray] | simp only [List.set_cons_zero] | simp only [List.set_cons_succ])
        refine wpAnyE_take [2] (i := 2) (oi := { dst := some 69, op := Op.load 31 (Operand.tmp 68), type := 31, pos := "ref.go:72", after := #[{ on := 1, ground := Ground.data }], guard := none }) (v := ?_) rfl (by kernel_rfl) (by kernel_rfl) (by kernel_rfl) (by kernel_rfl) rfl rfl (by kernel_rfl) (by kernel_rfl) (fun _ _ _ h => h) (Or.inl ⟨by rfl, ?_⟩) (by exact HC.out) ?_
        rotate_left
        · intro w hSw; (try dsimp only at hSw); obtain ⟨r0, r1, r2, r3, r4, r5, rf⟩ := fcells_of (f := ⟨2, c, sp, a, d, t⟩) hSw.1; obtain ⟨_, q1, q2⟩ := hSw; go_simp; try (with_reducible rfl)
        repeat (first | simp only [Act.put] | simp only [List.setIfInBounds_toArray] | simp only [List.set_cons_zero] | simp only [List.set_cons_succ])
        refine wpAnyE_take [3] (i := 3) (oi := { dst := some 70, op := Op.move (Operand.tmp 5), type := 3, pos := "ref.go:72", after := #[], guard := none }) (v := ?_) rfl (by kernel_rfl) (by kernel_rfl) (by kernel_rfl) (by kernel_rfl) rfl rfl (by kernel_rfl) (by kernel_rfl) (fun _ _ _ h => h) (Or.inl ⟨by rfl, ?_⟩) (by exact HC.out) ?_
        rotate_left
        · intro w hSw; (try dsimp only at hSw); obtain ⟨r0, r1, r2, r3, r4, r5, rf⟩ := fcells_of (f := ⟨2, c, sp, a, d, t⟩) hSw.1; obtain ⟨_, q1, q2⟩ := hSw; go_simp; try (with_reducible rfl)
        repeat (first | simp only [Act.put] | simp only [List.setIfInBounds_toArray] | simp only [List.set_cons_zero] | simp only [List.set_cons_succ])
        refine wpAnyE_take [4] (i := 4) (oi := { dst := some 71, op := Op.indexAddr 31 (Operand.tmp 69) (Operand.tmp 70), type := 0, pos := "ref.go:72", after := #[{ on := 2, ground := Ground.data }, { on := 3, ground := Ground.data }], guard := none }) (v := ?_) rfl (by kernel_rfl) (by kernel_rfl) (by kernel_rfl) (by kernel_rfl) rfl rfl (by kernel_rfl) (by kernel_rfl) (fun _ _ _ h => h) (Or.inl ⟨by rfl, ?_⟩) (by exact HC.out) ?_
        rotate_left
        · intro w hSw; (try dsimp only at hSw); obtain ⟨r0, r1, r2, r3, r4, r5, rf⟩ := fcells_of (f := ⟨2, c, sp, a, d, t⟩) hSw.1; obtain ⟨_, q1, q2⟩ := hSw; go_simp; try (with_reducible rfl)
        repeat (first | simp only [Act.put] | simp only [List.setIfInBounds_toArray] | simp only [List.set_cons_zero] | simp only [List.set_cons_succ])
        refine wpAnyE_take [5] (i := 5) (oi := { dst := some 72, op := Op.fieldAddr 55 (Operand.tmp 71) 1, type := 0, pos := "ref.go:72", after := #[{ on := 4, ground := Ground.data }], guard := none }) (v := ?_) rfl (by kernel_rfl) (by kernel_rfl) (by kernel_rfl) (by kernel_rfl) rfl rfl (by kernel_rfl) (by kernel_rfl) (fun _ _ _ h => h) (Or.inl ⟨by rfl, ?_⟩) (by exact HC.out) ?_
        rotate_left
        · intro w hSw; (try dsimp only at hSw); obtain ⟨r0, r1, r2, r3, r4, r5, rf⟩ := fcells_of (f := ⟨2, c, sp, a, d, t⟩) hSw.1; obtain ⟨_, q1, q2⟩ := hSw; go_simp; try (with_reducible rfl)
        repeat (first | simp only [Act.put] | simp only [List.setIfInBounds_toArray] | simp only [List.set_cons_zero] | simp only [List.set_cons_succ])
        refine wpAnyE_take [6] (i := 6) (oi := { dst := some 73, op := Op.load 3 (Operand.tmp 72), type := 3, pos := "ref.go:72", after := #[{ on := 5, ground := Ground.data }], guard := none }) (v := ?_) rfl (by kernel_rfl) (by kernel_rfl) (by kernel_rfl) (by kernel_rfl) rfl rfl (by kernel_rfl) (by kernel_rfl) (fun _ _ _ h => h) (Or.inl ⟨by rfl, ?_⟩) (by exact HC.out) ?_
        rotate_left
        · intro w hSw; (try dsimp only at hSw); obtain ⟨r0, r1, r2, r3, r4, r5, rf⟩ := fcells_of (f := ⟨2, c, sp, a, d, t⟩) hSw.1; obtain ⟨_, q1, q2⟩ := hSw; go_simp; try (with_reducible rfl)
        repeat (first | simp only [Act.put] | simp only [List.setIfInBounds_toArray] | simp only [List.set_cons_zero] | simp only [List.set_cons_succ])
        refine wpAnyE_take [7] (i := 7) (oi := { dst := some 74, op := Op.fieldAddr 33 (Operand.tmp 1) 2, type := 0, pos := "ref.go:72", after := #[], guard := none }) (v := ?_) rfl (by kernel_rfl) (by kernel_rfl) (by kernel_rfl) (by kernel_rfl) rfl rfl (by kernel_rfl) (by kernel_rfl) (fun _ _ _ h => h) (Or.inl ⟨by rfl, ?_⟩) (by exact HC.out) ?_
        rotate_left
        · intro w hSw; (try dsimp only at hSw); obtain ⟨r0, r1, r2, r3, r4, r5, rf⟩ := fcells_of (f := ⟨2, c, sp, a, d, t⟩) hSw.1; obtain ⟨_, q1, q2⟩ := hSw; go_simp; try (with_reducible rfl)
        repeat (first | simp only [Act.put] | simp only [List.setIfInBounds_toArray] | simp only [List.set_cons_zero] | simp only [List.set_cons_succ])
        refine wpAnyE_take [8] (i := 8) (oi := { dst := some 75, op := Op.load 31 (Operand.tmp 74), type := 31, pos := "ref.go:72", after := #[{ on := 7, ground := Ground.data }], guard := none }) (v := ?_) rfl (by kernel_rfl) (by kernel_rfl) (by kernel_rfl) (by kernel_rfl) rfl rfl (by kernel_rfl) (by kernel_rfl) (fun _ _ _ h => h) (Or.inl ⟨by rfl, ?_⟩) (by exact HC.out) ?_
        rotate_left
        · intro w hSw; (try dsimp only at hSw); obtain ⟨r0, r1, r2, r3, r4, r5, rf⟩ := fcells_of (f := ⟨2, c, sp, a, d, t⟩) hSw.1; obtain ⟨_, q1, q2⟩ := hSw; go_simp; try (with_reducible rfl)
        repeat (first | simp only [Act.put] | simp only [List.setIfInBounds_toArray] | simp only [List.set_cons_zero] | simp only [List.set_cons_succ])
        refine wpAnyE_take [9] (i := 9) (oi := { dst := some 76, op := Op.move (Operand.tmp 5), type := 3, pos := "ref.go:72", after := #[], guard := none }) (v := ?_) rfl (by kernel_rfl) (by kernel_rfl) (by kernel_rfl) (by kernel_rfl) rfl rfl (by kernel_rfl) (by kernel_rfl) (fun _ _ _ h => h) (Or.inl ⟨by rfl, ?_⟩) (by exact HC.out) ?_
        rotate_left
        · intro w hSw; (try dsimp only at hSw); obtain ⟨r0, r1, r2, r3, r4, r5, rf⟩ := fcells_of (f := ⟨2, c, sp, a, d, t⟩) hSw.1; obtain ⟨_, q1, q2⟩ := hSw; go_simp; try (with_reducible rfl)
        repeat (first | simp only [Act.put] | simp only [List.setIfInBounds_toArray] | simp only [List.set_cons_zero] | simp only [List.set_cons_succ])
        refine wpAnyE_take [10] (i := 10) (oi := { dst := some 77, op := Op.indexAddr 31 (Operand.tmp 75) (Operand.tmp 76), type := 0, pos := "ref.go:72", after := #[{ on := 8, ground := Ground.data }, { on := 9, ground := Ground.data }], guard := none }) (v := ?_) rfl (by kernel_rfl) (by kernel_rfl) (by kernel_rfl) (by kernel_rfl) rfl rfl (by kernel_rfl) (by kernel_rfl) (fun _ _ _ h => h) (Or.inl ⟨by rfl, ?_⟩) (by exact HC.out) ?_
        rotate_left
        · intro w hSw; (try dsimp only at hSw); obtain ⟨r0, r1, r2, r3, r4, r5, rf⟩ := fcells_of (f := ⟨2, c, sp, a, d, t⟩) hSw.1; obtain ⟨_, q1, q2⟩ := hSw; go_simp; try (with_reducible rfl)
        repeat (first | simp only [Act.put] | simp only [List.setIfInBounds_toArray] | simp only [List.set_cons_zero] | simp only [List.set_cons_succ])
        refine wpAnyE_take [11] (i := 11) (oi := { dst := some 78, op := Op.fieldAddr 55 (Operand.tmp 77) 0, type := 0, pos := "ref.go:72", after := #[{ on := 10, ground := Ground.data }], guard := none }) (v := ?_) rfl (by kernel_rfl) (by kernel_rfl) (by kernel_rfl) (by kernel_rfl) rfl rfl (by kernel_rfl) (by kernel_rfl) (fun _ _ _ h => h) (Or.inl ⟨by rfl, ?_⟩) (by exact HC.out) ?_
        rotate_left
        · intro w hSw; (try dsimp only at hSw); obtain ⟨r0, r1, r2, r3, r4, r5, rf⟩ := fcells_of (f := ⟨2, c, sp, a, d, t⟩) hSw.1; obtain ⟨_, q1, q2⟩ := hSw; go_simp; try (with_reducible rfl)
        repeat (first | simp only [Act.put] | simp only [List.setIfInBounds_toArray] | simp only [List.set_cons_zero] | simp only [List.set_cons_succ])
        refine wpAnyE_take [12] (i := 12) (oi := { dst := some 79, op := Op.load 3 (Operand.tmp 78), type := 3, pos := "ref.go:72", after := #[{ on := 11, ground := Ground.data }], guard := none }) (v := ?_) rfl (by kernel_rfl) (by kernel_rfl) (by kernel_rfl) (by kernel_rfl) rfl rfl (by kernel_rfl) (by kernel_rfl) (fun _ _ _ h => h) (Or.inl ⟨by rfl, ?_⟩) (by exact HC.out) ?_
        rotate_left
        · intro w hSw; (try dsimp only at hSw); obtain ⟨r0, r1, r2, r3, r4, r5, rf⟩ := fcells_of (f := ⟨2, c, sp, a, d, t⟩) hSw.1; obtain ⟨_, q1, q2⟩ := hSw; go_simp; try (with_reducible rfl)
        repeat (first | simp only [Act.put] | simp only [List.setIfInBounds_toArray] | simp only [List.set_cons_zero] | simp only [List.set_cons_succ])
        refine wpAnyE_take [13] (i := 13) (oi := { dst := some 80, op := Op.binOp BinOp.sub 3 (Operand.tmp 73) (Operand.tmp 79) 3, type := 3, pos := "ref.go:72", after := #[{ on := 6, ground := Ground.data }, { on := 12, ground := Ground.data }], guard := none }) (v := ?_) rfl (by kernel_rfl) (by kernel_rfl) (by kernel_rfl) (by kernel_rfl) rfl rfl (by kernel_rfl) (by kernel_rfl) (fun _ _ _ h => h) (Or.inl ⟨by rfl, ?_⟩) (by exact HC.out) ?_
        rotate_left
        · intro w hSw; (try dsimp only at hSw); obtain ⟨r0, r1, r2, r3, r4, r5, rf⟩ := fcells_of (f := ⟨2, c, sp, a, d, t⟩) hSw.1; obtain ⟨_, q1, q2⟩ := hSw; go_simp; try (with_reducible rfl)
        repeat (first | simp only [Act.put] | simp only [List.setIfInBounds_toArray] | simp only [List.set_cons_zero] | simp only [List.set_cons_succ])
        refine wpAnyE_one (i := 14) (o := { dst := some 81, op := Op.call { callee := Callee.value (Operand.func 41), args := #[Operand.tmp 80], argTypes := #[3] }, type := 26, pos := "ref.go:72", after := #[{ on := 13, ground := Ground.data }], guard := none }) (by kernel_rfl) rfl (fun K hK => ?_)
        go_simp
        refine (bytes_any (w := wr.drew) (y2 - y1)).mono ?_
        rintro e w2 ⟨v2, rfl, ho2, hb2⟩
        have hr2 := (Rd.of_own ho2 (enc_byt _)).1
        have HC2 := Lib.hid (HCK.out _ hb2)
        have hs2 := hb2.size
        refine hK.out _ _ (fun hL => ?_) ?_
        · exact HC2.out
        clear hK K
        repeat (first | simp only [Act.put] | simp only [List.setIfInBounds_toArray] | simp only [List.set_cons_zero] | simp only [List.set_cons_succ])
        refine wpAnyE_one (i := 15) (o := { dst := some 82, op := Op.call { callee := Callee.builtin Builtin.append, args := #[Operand.tmp 67, Operand.tmp 81], argTypes := #[26, 26] }, type := 26, pos := "ref.go:72", after := #[{ on := 0, ground := Ground.data }, { on := 14, ground := Ground.data }, { on := 14, ground := Ground.chain }], guard := none }) (by kernel_rfl) rfl (fun K hK => ?_)
        refine step_append_bytes (by rfl) _ _ (by rfl) (w.heap.size + 1) _ P.length P (by rfl) (own_keepG HAK.out.own fun k hk _ => hb2.block k hk) v2 (enc (y2 - y1)) (by rfl) hr2 (by have := HPL.out; have := enc_len (y2 - y1); omega) (by have := HAK.out.size; simp at hs2; omega) ?_
        intro v3 w3 hown3 hb3
        have HA3 := Lib.hid (HAK.out.step (drewB hb2) hown3 (enc_byt _) hb3)
        have HC3 := Lib.hid (HCL.out _ HA3.out)
        obtain ⟨a3, k3, rfl⟩ := own_shape hown3
        refine hK.out _ _ (fun hL => ?_) ?_
        · exact HC3.out
        clear hK K
        repeat (first | simp only [Act.put] | simp only [List.setIfInBounds_toArray] | simp only [List.set_cons_zero] | simp only [List.set_cons_succ])
        refine wpAnyE_one (i := 16) (o := { dst := some 3, op := Op.assign (Operand.tmp 82), type := 26, pos := "ref.go:72", after := #[{ on := 15, ground := Ground.data }, { on := 15, ground := Ground.chain }, { on := 0, ground := Ground.phase }, { on := 1, ground := Ground.phase }, { on := 2, ground := Ground.phase }, { on := 3, ground := Ground.phase }, { on := 4, ground := Ground.phase }, { on := 5, ground := Ground.phase }, { on := 6, ground := Ground.phase }, { on := 7, ground := Ground.phase }, { on := 8, ground := Ground.phase }, { on := 9, ground := Ground.phase }, { on := 10, ground := Ground.phase }, { on := 11, ground := Ground.phase }, { on := 12, ground := Ground.phase }, { on := 13, ground := Ground.phase }, { on := 14, ground := Ground.phase }, { on := 15, ground := Ground.phase }], guard := none }) (by kernel_rfl) rfl (fun K hK => ?_)
        go_simp
        refine hK.out _ _ (fun hL => absurd hL (by decide)) ?_
        clear hK K
        repeat (first | simp only [Act.put] | simp only [List.setIfInBounds_toArray] | simp only [List.set_cons_zero] | simp only [List.set_cons_succ])
        refine wpAnyE_done (by kernel_rfl) ?_ _
        go_wp2_with fail
        go_roundw
        case rel => exact ⟨1, _, by go_num, by omega, HA3, Lib.hid (by rw [List.append_assoc, ← HST.out]; exact hE.out)⟩
        case measure => simp [intOf]; omega
      | succ j =>
        have hbj := HBD.out j (by omega)
        have hok := HOKS.out (j + 1) hlt
        have HST := Lib.hid (wrR_step hlt)
        unfold okAt at hok
        simp only [Nat.add_sub_cancel] at hok
        have HCW : ∀ {P : List Int} {u : Value} {W : World}, AkW w b off c sp sc a da d dc t P u W → _ := fun h => h.hc hlt rfl rfl
        have HCP : ∀ {P : List Int} {u : Value} {W : World}, AkW w b off c sp sc a da d dc t P u W → _ := fun h => h.hc (show j < sp.length by omega) rfl rfl
        generalize (sp.getD (j + 1) (0, 0)).1 = y1 at *
        generalize (sp.getD (j + 1) (0, 0)).2 = y2 at *
        generalize (sp.getD j (0, 0)).1 = y3 at *
        have hok3 := hok.2.2 (by omega)
        obtain ⟨z1, z2, z3⟩ := hbd
        have hy3 : y3 < 4611686018427387904 := by omega
        have z5' : decide ((0 : Int) < (j : Int) + 1) = true := decide_eq_true (by omega)
        have z6q : (0 : Int) ≤ (j : Int) + 1 := by omega
        have e1 : IntKind.i64.wrap (j : Int) = (j : Int) := IntWalk.i64_in _ (by omega)
        have e2 : IntKind.i64.wrap (y3 - y2) = y3 - y2 := IntWalk.i64_in _ (by omega)
        have e3 : IntKind.i64.wrap (y3 - y2 - 2) = y3 - y2 - 2 := IntWalk.i64_in _ (by omega)
        have e4 : IntKind.i64.wrap (y2 - y1) = y2 - y1 := IntWalk.i64_in _ (by omega)
        have hjl : (j : Int) < (sp.length : Int) := by omega
        have HQ : Hid (∀ {P : List Int} {u : Value} {W : World}, AkW w b off c sp sc a da d dc t P u W → W.heap[w.heap.size]? = some (.cells #[.int .i64 2, .int .i64 c, .slice (some ⟨b, off, none⟩) sp.length sc, .int .i64 a, .slice da d.length dc, .int .i64 t] 33 (0, 0)) ∧ W.cell? ⟨b, off + (j + 1) * 2 + 1, none⟩ = some (.int .i64 y2) ∧ W.cell? ⟨b, off + j * 2, none⟩ = some (.int .i64 y3)) := Lib.hid (fun h => ⟨h.box, (HCW h).2.2, (HCP h).2.1⟩)
        have HC := Lib.hid (HQ.out HAK.out)
        have HCK : Hid (∀ W, Below wr.drew.heap.size wr.drew W → _) := Lib.hid (fun W h => HQ.out (HAK.out.below (drewB h)))
        have HCL : Hid (∀ W {P : List Int} {u : Value}, AkW w b off c sp sc a da d dc t P u W → _) := Lib.hid (fun W P u h => HQ.out h)
        have HCWH : Hid (∀ {P : List Int} {u : Value} {W : World}, AkW w b off c sp sc a da d dc t P u W → W.heap[w.heap.size]? = some (.cells #[.int .i64 2, .int .i64 c, .slice (some ⟨b, off, none⟩) sp.length sc, .int .i64 a, .slice da d.length dc, .int .i64 t] 33 (0, 0)) ∧ W.cell? ⟨b, off + (j + 1) * 2, none⟩ = some (.int .i64 y1) ∧ W.cell? ⟨b, off + (j + 1) * 2 + 1, none⟩ = some (.int .i64 y2)) := Lib.hid (fun h => HCW h)
        clear HCW HCP hok hok3 hbj
        go_wp2_with fail
        clear c2
        refine wp_region_end 18 (fun w' => w'.heap[w.heap.size]? = some (.cells #[.int .i64 2, .int .i64 c, .slice (some ⟨b, off, none⟩) sp.length sc, .int .i64 a, .slice da d.length dc, .int .i64 t] 33 (0, 0)) ∧ w'.cell? ⟨b, off + (j + 1) * 2 + 1, none⟩ = some (.int .i64 y2) ∧ w'.cell? ⟨b, off + j * 2, none⟩ = some (.int .i64 y3)) (by kernel_rfl) ?_
        refine wpAnyE_take [0] (i := 0) (oi := { dst := some 49, op := Op.move (Operand.tmp 3), type := 26, pos := "ref.go:70", after := #[], guard := none }) (v := ?_) rfl (by kernel_rfl) (by kernel_rfl) (by kernel_rfl) (by kernel_rfl) rfl rfl (by kernel_rfl) (by kernel_rfl) (fun _ _ _ h => h) (Or.inl ⟨by rfl, ?_⟩) (by exact HC.out) ?_
        rotate_left
        · intro w hSw; (try dsimp only at hSw); obtain ⟨r0, r1, r2, r3, r4, r5, rf⟩ := fcells_of (f := ⟨2, c, sp, a, d, t⟩) hSw.1; obtain ⟨_, q1, q2⟩ := hSw; go_simp; try (with_reducible rfl)
        repeat (first | simp only [Act.put] | simp only [List.setIfInBounds_toArray] | simp only [List.set_cons_zero] | simp only [List.set_cons_succ])
        refine wpAnyE_take [1] (i := 1) (oi := { dst := some 50, op := Op.fieldAddr 33 (Operand.tmp 1) 2, type := 0, pos := "ref.go:70", after := #[], guard := none }) (v := ?_) rfl (by kernel_rfl) (by kernel_rfl) (by kernel_rfl) (by kernel_rfl) rfl rfl (by kernel_rfl) (by kernel_rfl) (fun _ _ _ h => h) (Or.inl ⟨by rfl, ?_⟩) (by exact HC.out) ?_
        rotate_left
        · intro w hSw; (try dsimp only at hSw); obtain ⟨r0, r1, r2, r3, r4, r5, rf⟩ := fcells_of (f := ⟨2, c, sp, a, d, t⟩) hSw.1; obtain ⟨_, q1, q2⟩ := hSw; go_simp; try (with_reducible rfl)
        repeat (first | simp only [Act.put] | simp only [List.setIfInBounds_toArray] | simp only [List.set_cons_zero] | simp only [List.set_cons_succ])
        refine wpAnyE_take [2] (i := 2) (oi := { dst := some 51, op := Op.load 31 (Operand.tmp 50), type := 31, pos := "ref.go:70", after := #[{ on := 1, ground := Ground.data }], guard := none }) (v := ?_) rfl (by kernel_rfl) (by kernel_rfl) (by kernel_rfl) (by kernel_rfl) rfl rfl (by kernel_rfl) (by kernel_rfl) (fun _ _ _ h => h) (Or.inl ⟨by rfl, ?_⟩) (by exact HC.out) ?_
        rotate_left
        · intro w hSw; (try dsimp only at hSw); obtain ⟨r0, r1, r2, r3, r4, r5, rf⟩ := fcells_of (f := ⟨2, c, sp, a, d, t⟩) hSw.1; obtain ⟨_, q1, q2⟩ := hSw; go_simp; try (with_reducible rfl)
        repeat (first | simp only [Act.put] | simp only [List.setIfInBounds_toArray] | simp only [List.set_cons_zero] | simp only [List.set_cons_succ])
        refine wpAnyE_take [3] (i := 3) (oi := { dst := some 52, op := Op.move (Operand.tmp 5), type := 3, pos := "ref.go:70", after := #[], guard := none }) (v := ?_) rfl (by kernel_rfl) (by kernel_rfl) (by kernel_rfl) (by kernel_rfl) rfl rfl (by kernel_rfl) (by kernel_rfl) (fun _ _ _ h => h) (Or.inl ⟨by rfl, ?_⟩) (by exact HC.out) ?_
        rotate_left
        · intro w hSw; (try dsimp only at hSw); obtain ⟨r0, r1, r2, r3, r4, r5, rf⟩ := fcells_of (f := ⟨2, c, sp, a, d, t⟩) hSw.1; obtain ⟨_, q1, q2⟩ := hSw; go_simp; try (with_reducible rfl)
        repeat (first | simp only [Act.put] | simp only [List.setIfInBounds_toArray] | simp only [List.set_cons_zero] | simp only [List.set_cons_succ])
        refine wpAnyE_take [4] (i := 4) (oi := { dst := some 53, op := Op.binOp BinOp.sub 3 (Operand.tmp 52) (Operand.const (Value.int IntKind.i64 1)) 3, type := 3, pos := "ref.go:70", after := #[{ on := 3, ground := Ground.data }], guard := none }) (v := ?_) rfl (by kernel_rfl) (by kernel_rfl) (by kernel_rfl) (by kernel_rfl) rfl rfl (by kernel_rfl) (by kernel_rfl) (fun _ _ _ h => h) (Or.inl ⟨by rfl, ?_⟩) (by exact HC.out) ?_
        rotate_left
        · intro w hSw; (try dsimp only at hSw); obtain ⟨r0, r1, r2, r3, r4, r5, rf⟩ := fcells_of (f := ⟨2, c, sp, a, d, t⟩) hSw.1; obtain ⟨_, q1, q2⟩ := hSw; go_simp; try (with_reducible rfl)
        repeat (first | simp only [Act.put] | simp only [List.setIfInBounds_toArray] | simp only [List.set_cons_zero] | simp only [List.set_cons_succ])
        refine wpAnyE_take [5] (i := 5) (oi := { dst := some 54, op := Op.indexAddr 31 (Operand.tmp 51) (Operand.tmp 53), type := 0, pos := "ref.go:70", after := #[{ on := 2, ground := Ground.data }, { on := 4, ground := Ground.data }], guard := none }) (v := ?_) rfl (by kernel_rfl) (by kernel_rfl) (by kernel_rfl) (by kernel_rfl) rfl rfl (by kernel_rfl) (by kernel_rfl) (fun _ _ _ h => h) (Or.inl ⟨by rfl, ?_⟩) (by exact HC.out) ?_
        rotate_left
        · intro w hSw; (try dsimp only at hSw); obtain ⟨r0, r1, r2, r3, r4, r5, rf⟩ := fcells_of (f := ⟨2, c, sp, a, d, t⟩) hSw.1; obtain ⟨_, q1, q2⟩ := hSw; go_simp; try (with_reducible rfl)
        repeat (first | simp only [Act.put] | simp only [List.setIfInBounds_toArray] | simp only [List.set_cons_zero] | simp only [List.set_cons_succ])
        refine wpAnyE_take [6] (i := 6) (oi := { dst := some 55, op := Op.fieldAddr 55 (Operand.tmp 54) 0, type := 0, pos := "ref.go:70", after := #[{ on := 5, ground := Ground.data }], guard := none }) (v := ?_) rfl (by kernel_rfl) (by kernel_rfl) (by kernel_rfl) (by kernel_rfl) rfl rfl (by kernel_rfl) (by kernel_rfl) (fun _ _ _ h => h) (Or.inl ⟨by rfl, ?_⟩) (by exact HC.out) ?_
        rotate_left
        · intro w hSw; (try dsimp only at hSw); obtain ⟨r0, r1, r2, r3, r4, r5, rf⟩ := fcells_of (f := ⟨2, c, sp, a, d, t⟩) hSw.1; obtain ⟨_, q1, q2⟩ := hSw; go_simp; try (with_reducible rfl)
        repeat (first | simp only [Act.put] | simp only [List.setIfInBounds_toArray] | simp only [List.set_cons_zero] | simp only [List.set_cons_succ])
        refine wpAnyE_take [7] (i := 7) (oi := { dst := some 56, op := Op.load 3 (Operand.tmp 55), type := 3, pos := "ref.go:70", after := #[{ on := 6, ground := Ground.data }], guard := none }) (v := ?_) rfl (by kernel_rfl) (by kernel_rfl) (by kernel_rfl) (by kernel_rfl) rfl rfl (by kernel_rfl) (by kernel_rfl) (fun _ _ _ h => h) (Or.inl ⟨by rfl, ?_⟩) (by exact HC.out) ?_
        rotate_left
        · intro w hSw; (try dsimp only at hSw); obtain ⟨r0, r1, r2, r3, r4, r5, rf⟩ := fcells_of (f := ⟨2, c, sp, a, d, t⟩) hSw.1; obtain ⟨_, q1, q2⟩ := hSw; go_simp; try (with_reducible rfl)
        repeat (first | simp only [Act.put] | simp only [List.setIfInBounds_toArray] | simp only [List.set_cons_zero] | simp only [List.set_cons_succ])
        refine wpAnyE_take [8] (i := 8) (oi := { dst := some 57, op := Op.fieldAddr 33 (Operand.tmp 1) 2, type := 0, pos := "ref.go:70", after := #[], guard := none }) (v := ?_) rfl (by kernel_rfl) (by kernel_rfl) (by kernel_rfl) (by kernel_rfl) rfl rfl (by kernel_rfl) (by kernel_rfl) (fun _ _ _ h => h) (Or.inl ⟨by rfl, ?_⟩) (by exact HC.out) ?_
        rotate_left
        · intro w hSw; (try dsimp only at hSw); obtain ⟨r0, r1, r2, r3, r4, r5, rf⟩ := fcells_of (f := ⟨2, c, sp, a, d, t⟩) hSw.1; obtain ⟨_, q1, q2⟩ := hSw; go_simp; try (with_reducible rfl)
        repeat (first | simp only [Act.put] | simp only [List.setIfInBounds_toArray] | simp only [List.set_cons_zero] | simp only [List.set_cons_succ])
        refine wpAnyE_take [9] (i := 9) (oi := { dst := some 58, op := Op.load 31 (Operand.tmp 57), type := 31, pos := "ref.go:70", after := #[{ on := 8, ground := Ground.data }], guard := none }) (v := ?_) rfl (by kernel_rfl) (by kernel_rfl) (by kernel_rfl) (by kernel_rfl) rfl rfl (by kernel_rfl) (by kernel_rfl) (fun _ _ _ h => h) (Or.inl ⟨by rfl, ?_⟩) (by exact HC.out) ?_
        rotate_left
        · intro w hSw; (try dsimp only at hSw); obtain ⟨r0, r1, r2, r3, r4, r5, rf⟩ := fcells_of (f := ⟨2, c, sp, a, d, t⟩) hSw.1; obtain ⟨_, q1, q2⟩ := hSw; go_simp; try (with_reducible rfl)
        repeat (first | simp only [Act.put] | simp only [List.setIfInBounds_toArray] | simp only [List.set_cons_zero] | simp only [List.set_cons_succ])
        refine wpAnyE_take [10] (i := 10) (oi := { dst := some 59, op := Op.move (Operand.tmp 5), type := 3, pos := "ref.go:70", after := #[], guard := none }) (v := ?_) rfl (by kernel_rfl) (by kernel_rfl) (by kernel_rfl) (by kernel_rfl) rfl rfl (by kernel_rfl) (by kernel_rfl) (fun _ _ _ h => h) (Or.inl ⟨by rfl, ?_⟩) (by exact HC.out) ?_
        rotate_left
        · intro w hSw; (try dsimp only at hSw); obtain ⟨r0, r1, r2, r3, r4, r5, rf⟩ := fcells_of (f := ⟨2, c, sp, a, d, t⟩) hSw.1; obtain ⟨_, q1, q2⟩ := hSw; go_simp; try (with_reducible rfl)
        repeat (first | simp only [Act.put] | simp only [List.setIfInBounds_toArray] | simp only [List.set_cons_zero] | simp only [List.set_cons_succ])
        refine wpAnyE_take [11] (i := 11) (oi := { dst := some 60, op := Op.indexAddr 31 (Operand.tmp 58) (Operand.tmp 59), type := 0, pos := "ref.go:70", after := #[{ on := 9, ground := Ground.data }, { on := 10, ground := Ground.data }], guard := none }) (v := ?_) rfl (by kernel_rfl) (by kernel_rfl) (by kernel_rfl) (by kernel_rfl) rfl rfl (by kernel_rfl) (by kernel_rfl) (fun _ _ _ h => h) (Or.inl ⟨by rfl, ?_⟩) (by exact HC.out) ?_
        rotate_left
        · intro w hSw; (try dsimp only at hSw); obtain ⟨r0, r1, r2, r3, r4, r5, rf⟩ := fcells_of (f := ⟨2, c, sp, a, d, t⟩) hSw.1; obtain ⟨_, q1, q2⟩ := hSw; go_simp; try (with_reducible rfl)
        repeat (first | simp only [Act.put] | simp only [List.setIfInBounds_toArray] | simp only [List.set_cons_zero] | simp only [List.set_cons_succ])
        refine wpAnyE_take [12] (i := 12) (oi := { dst := some 61, op := Op.fieldAddr 55 (Operand.tmp 60) 1, type := 0, pos := "ref.go:70", after := #[{ on := 11, ground := Ground.data }], guard := none }) (v := ?_) rfl (by kernel_rfl) (by kernel_rfl) (by kernel_rfl) (by kernel_rfl) rfl rfl (by kernel_rfl) (by kernel_rfl) (fun _ _ _ h => h) (Or.inl ⟨by rfl, ?_⟩) (by exact HC.out) ?_
        rotate_left
        · intro w hSw; (try dsimp only at hSw); obtain ⟨r0, r1, r2, r3, r4, r5, rf⟩ := fcells_of (f := ⟨2, c, sp, a, d, t⟩) hSw.1; obtain ⟨_, q1, q2⟩ := hSw; go_simp; try (with_reducible rfl)
        repeat (first | simp only [Act.put] | simp only [List.setIfInBounds_toArray] | simp only [List.set_cons_zero] | simp only [List.set_cons_succ])
        refine wpAnyE_take [13] (i := 13) (oi := { dst := some 62, op := Op.load 3 (Operand.tmp 61), type := 3, pos := "ref.go:70", after := #[{ on := 12, ground := Ground.data }], guard := none }) (v := ?_) rfl (by kernel_rfl) (by kernel_rfl) (by kernel_rfl) (by kernel_rfl) rfl rfl (by kernel_rfl) (by kernel_rfl) (fun _ _ _ h => h) (Or.inl ⟨by rfl, ?_⟩) (by exact HC.out) ?_
        rotate_left
        · intro w hSw; (try dsimp only at hSw); obtain ⟨r0, r1, r2, r3, r4, r5, rf⟩ := fcells_of (f := ⟨2, c, sp, a, d, t⟩) hSw.1; obtain ⟨_, q1, q2⟩ := hSw; go_simp; try (with_reducible rfl)
        repeat (first | simp only [Act.put] | simp only [List.setIfInBounds_toArray] | simp only [List.set_cons_zero] | simp only [List.set_cons_succ])
        refine wpAnyE_take [14] (i := 14) (oi := { dst := some 63, op := Op.binOp BinOp.sub 3 (Operand.tmp 56) (Operand.tmp 62) 3, type := 3, pos := "ref.go:70", after := #[{ on := 7, ground := Ground.data }, { on := 13, ground := Ground.data }], guard := none }) (v := ?_) rfl (by kernel_rfl) (by kernel_rfl) (by kernel_rfl) (by kernel_rfl) rfl rfl (by kernel_rfl) (by kernel_rfl) (fun _ _ _ h => h) (Or.inl ⟨by rfl, ?_⟩) (by exact HC.out) ?_
        rotate_left
        · intro w hSw; (try dsimp only at hSw); obtain ⟨r0, r1, r2, r3, r4, r5, rf⟩ := fcells_of (f := ⟨2, c, sp, a, d, t⟩) hSw.1; obtain ⟨_, q1, q2⟩ := hSw; go_simp; try (with_reducible rfl)
        repeat (first | simp only [Act.put] | simp only [List.setIfInBounds_toArray] | simp only [List.set_cons_zero] | simp only [List.set_cons_succ])
        refine wpAnyE_take [15] (i := 15) (oi := { dst := some 64, op := Op.binOp BinOp.sub 3 (Operand.tmp 63) (Operand.const (Value.int IntKind.i64 2)) 3, type := 3, pos := "ref.go:70", after := #[{ on := 14, ground := Ground.data }], guard := none }) (v := ?_) rfl (by kernel_rfl) (by kernel_rfl) (by kernel_rfl) (by kernel_rfl) rfl rfl (by kernel_rfl) (by kernel_rfl) (fun _ _ _ h => h) (Or.inl ⟨by rfl, ?_⟩) (by exact HC.out) ?_
        rotate_left
        · intro w hSw; (try dsimp only at hSw); obtain ⟨r0, r1, r2, r3, r4, r5, rf⟩ := fcells_of (f := ⟨2, c, sp, a, d, t⟩) hSw.1; obtain ⟨_, q1, q2⟩ := hSw; go_simp; try (with_reducible rfl)
        repeat (first | simp only [Act.put] | simp only [List.setIfInBounds_toArray] | simp only [List.set_cons_zero] | simp only [List.set_cons_succ])
        refine wpAnyE_one (i := 16) (o := { dst := some 65, op := Op.call { callee := Callee.value (Operand.func 41), args := #[Operand.tmp 64], argTypes := #[3] }, type := 26, pos := "ref.go:70", after := #[{ on := 15, ground := Ground.data }], guard := none }) (by kernel_rfl) rfl (fun K hK => ?_)
        go_simp
        refine (bytes_any (w := wr.drew) (y3 - y2 - 2)).mono ?_
        rintro e w2 ⟨v2, rfl, ho2, hb2⟩
        have hr2 := (Rd.of_own ho2 (enc_byt _)).1
        have HC2 := Lib.hid (HCK.out _ hb2)
        have hs2 := hb2.size
        refine hK.out _ _ (fun hL => ?_) ?_
        · exact HC2.out
        clear hK K
        repeat (first | simp only [Act.put] | simp only [List.setIfInBounds_toArray] | simp only [List.set_cons_zero] | simp only [List.set_cons_succ])
        refine wpAnyE_one (i := 17) (o := { dst := some 66, op := Op.call { callee := Callee.builtin Builtin.append, args := #[Operand.tmp 49, Operand.tmp 65], argTypes := #[26, 26] }, type := 26, pos := "ref.go:70", after := #[{ on := 0, ground := Ground.data }, { on := 16, ground := Ground.data }, { on := 16, ground := Ground.chain }], guard := none }) (by kernel_rfl) rfl (fun K hK => ?_)
        refine step_append_bytes (by rfl) _ _ (by rfl) (w.heap.size + 1) _ P.length P (by rfl) (own_keepG HAK.out.own fun k hk _ => hb2.block k hk) v2 (enc (y3 - y2 - 2)) (by rfl) hr2 (by have := HPL.out; have := enc_len (y3 - y2 - 2); omega) (by have := HAK.out.size; simp at hs2; omega) ?_
        intro v3 w3 hown3 hb3
        have HA3 := Lib.hid (HAK.out.step (drewB hb2) hown3 (enc_byt _) hb3)
        have HC3 := Lib.hid (HCL.out _ HA3.out)
        obtain ⟨a3, k3, rfl⟩ := own_shape hown3
        refine hK.out _ _ (fun hL => ?_) ?_
        · exact HC3.out
        clear hK K
        repeat (first | simp only [Act.put] | simp only [List.setIfInBounds_toArray] | simp only [List.set_cons_zero] | simp only [List.set_cons_succ])
        refine wpAnyE_one (i := 18) (o := { dst := some 3, op := Op.assign (Operand.tmp 66), type := 26, pos := "ref.go:70", after := #[{ on := 17, ground := Ground.data }, { on := 17, ground := Ground.chain }, { on := 0, ground := Ground.phase }, { on := 1, ground := Ground.phase }, { on := 2, ground := Ground.phase }, { on := 3, ground := Ground.phase }, { on := 4, ground := Ground.phase }, { on := 5, ground := Ground.phase }, { on := 6, ground := Ground.phase }, { on := 7, ground := Ground.phase }, { on := 8, ground := Ground.phase }, { on := 9, ground := Ground.phase }, { on := 10, ground := Ground.phase }, { on := 11, ground := Ground.phase }, { on := 12, ground := Ground.phase }, { on := 13, ground := Ground.phase }, { on := 14, ground := Ground.phase }, { on := 15, ground := Ground.phase }, { on := 16, ground := Ground.phase }, { on := 17, ground := Ground.phase }], guard := none }) (by kernel_rfl) rfl (fun K hK => ?_)
        go_simp
        refine hK.out _ _ (fun hL => absurd hL (by decide)) ?_
        clear hK K
        repeat (first | simp only [Act.put] | simp only [List.setIfInBounds_toArray] | simp only [List.set_cons_zero] | simp only [List.set_cons_succ])
        refine wpAnyE_done (by kernel_rfl) ?_ _
        have HPL3 : Hid ((P ++ enc (y3 - y2 - 2)).length ≤ 2100) := Lib.hid (by have := HPL.out; have := enc_len (y3 - y2 - 2); simp; omega)
        have HD := Lib.hid (HCWH.out HA3.out)
        have HDK : Hid (∀ W, Below w3.drew.heap.size w3.drew W → _) := Lib.hid (fun W h => HCWH.out (HA3.out.below (drewB h)))
        have HDL : Hid (∀ W {P : List Int} {u : Value}, AkW w b off c sp sc a da d dc t P u W → _) := Lib.hid (fun W P u h => HCWH.out h)
        clear e1 e2 e3
        go_wp2_with fail
        refine wp_region_end 16 (fun w' => w'.heap[w.heap.size]? = some (.cells #[.int .i64 2, .int .i64 c, .slice (some ⟨b, off, none⟩) sp.length sc, .int .i64 a, .slice da d.length dc, .int .i64 t] 33 (0, 0)) ∧ w'.cell? ⟨b, off + (j + 1) * 2, none⟩ = some (.int .i64 y1) ∧ w'.cell? ⟨b, off + (j + 1) * 2 + 1, none⟩ = some (.int .i64 y2)) (by kernel_rfl) ?_
        refine wpAnyE_take [0] (i := 0) (oi := { dst := some 67, op := Op.move (Operand.tmp 3), type := 26, pos := "ref.go:72", after := #[], guard := none }) (v := ?_) rfl (by kernel_rfl) (by kernel_rfl) (by kernel_rfl) (by kernel_rfl) rfl rfl (by kernel_rfl) (by kernel_rfl) (fun _ _ _ h => h) (Or.inl ⟨by rfl, ?_⟩) (by exact HD.out) ?_
        rotate_left
        · intro w hSw; (try dsimp only at hSw); obtain ⟨r0, r1, r2, r3, r4, r5, rf⟩ := fcells_of (f := ⟨2, c, sp, a, d, t⟩) hSw.1; obtain ⟨_, q1, q2⟩ := hSw; go_simp; try (with_reducible rfl)
        repeat (first | simp only [Act.put] | simp only [List.setIfInBounds_toArray] | simp only [List.set_cons_zero] | simp only [List.set_cons_succ])
        refine wpAnyE_take [1] (i := 1) (oi := { dst := some 68, op := Op.fieldAddr 33 (Operand.tmp 1) 2, type := 0, pos := "ref.go:72", after := #[], guard := none }) (v := ?_) rfl (by kernel_rfl) (by kernel_rfl) (by kernel_rfl) (by kernel_rfl) rfl rfl (by kernel_rfl) (by kernel_rfl) (fun _ _ _ h => h) (Or.inl ⟨by rfl, ?_⟩) (by exact HD.out) ?_
        rotate_left
        · intro w hSw; (try dsimp only at hSw); obtain ⟨r0, r1, r2, r3, r4, r5, rf⟩ := fcells_of (f := ⟨2, c, sp, a, d, t⟩) hSw.1; obtain ⟨_, q1, q2⟩ := hSw; go_simp; try (with_reducible rfl)
        repeat (first | simp only [Act.put] | simp only [List.setIfInBounds_toArray] | simp only [List.set_cons_zero] | simp only [List.set_cons_succ])
        refine wpAnyE_take [2] (i := 2) (oi := { dst := some 69, op := Op.load 31 (Operand.tmp 68), type := 31, pos := "ref.go:72", after := #[{ on := 1, ground := Ground.data }], guard := none }) (v := ?_) rfl (by kernel_rfl) (by kernel_rfl) (by kernel_rfl) (by kernel_rfl) rfl rfl (by kernel_rfl) (by kernel_rfl) (fun _ _ _ h => h) (Or.inl ⟨by rfl, ?_⟩) (by exact HD.out) ?_
        rotate_left
        · intro w hSw; (try dsimp only at hSw); obtain ⟨r0, r1, r2, r3, r4, r5, rf⟩ := fcells_of (f := ⟨2, c, sp, a, d, t⟩) hSw.1; obtain ⟨_, q1, q2⟩ := hSw; go_simp; try (with_reducible rfl)
        repeat (first | simp only [Act.put] | simp only [List.setIfInBounds_toArray] | simp only [List.set_cons_zero] | simp only [List.set_cons_succ])
        refine wpAnyE_take [3] (i := 3) (oi := { dst := some 70, op := Op.move (Operand.tmp 5), type := 3, pos := "ref.go:72", after := #[], guard := none }) (v := ?_) rfl (by kernel_rfl) (by kernel_rfl) (by kernel_rfl) (by kernel_rfl) rfl rfl (by kernel_rfl) (by kernel_rfl) (fun _ _ _ h => h) (Or.inl ⟨by rfl, ?_⟩) (by exact HD.out) ?_
        rotate_left
        · intro w hSw; (try dsimp only at hSw); obtain ⟨r0, r1, r2, r3, r4, r5, rf⟩ := fcells_of (f := ⟨2, c, sp, a, d, t⟩) hSw.1; obtain ⟨_, q1, q2⟩ := hSw; go_simp; try (with_reducible rfl)
        repeat (first | simp only [Act.put] | simp only [List.setIfInBounds_toArray] | simp only [List.set_cons_zero] | simp only [List.set_cons_succ])
        refine wpAnyE_take [4] (i := 4) (oi := { dst := some 71, op := Op.indexAddr 31 (Operand.tmp 69) (Operand.tmp 70), type := 0, pos := "ref.go:72", after := #[{ on := 2, ground := Ground.data }, { on := 3, ground := Ground.data }], guard := none }) (v := ?_) rfl (by kernel_rfl) (by kernel_rfl) (by kernel_rfl) (by kernel_rfl) rfl rfl (by kernel_rfl) (by kernel_rfl) (fun _ _ _ h => h) (Or.inl ⟨by rfl, ?_⟩) (by exact HD.out) ?_
        rotate_left
        · intro w hSw; (try dsimp only at hSw); obtain ⟨r0, r1, r2, r3, r4, r5, rf⟩ := fcells_of (f := ⟨2, c, sp, a, d, t⟩) hSw.1; obtain ⟨_, q1, q2⟩ := hSw; go_simp; try (with_reducible rfl)
        repeat (first | simp only [Act.put] | simp only [List.setIfInBounds_toArray] | simp only [List.set_cons_zero] | simp only [List.set_cons_succ])
        refine wpAnyE_take [5] (i := 5) (oi := { dst := some 72, op := Op.fieldAddr 55 (Operand.tmp 71) 1, type := 0, pos := "ref.go:72", after := #[{ on := 4, ground := Ground.data }], guard := none }) (v := ?_) rfl (by kernel_rfl) (by kernel_rfl) (by kernel_rfl) (by kernel_rfl) rfl rfl (by kernel_rfl) (by kernel_rfl) (fun _ _ _ h => h) (Or.inl ⟨by rfl, ?_⟩) (by exact HD.out) ?_
        rotate_left
        · intro w hSw; (try dsimp only at hSw); obtain ⟨r0, r1, r2, r3, r4, r5, rf⟩ := fcells_of (f := ⟨2, c, sp, a, d, t⟩) hSw.1; obtain ⟨_, q1, q2⟩ := hSw; go_simp; try (with_reducible rfl)
        repeat (first | simp only [Act.put] | simp only [List.setIfInBounds_toArray] | simp only [List.set_cons_zero] | simp only [List.set_cons_succ])
        refine wpAnyE_take [6] (i := 6) (oi := { dst := some 73, op := Op.load 3 (Operand.tmp 72), type := 3, pos := "ref.go:72", after := #[{ on := 5, ground := Ground.data }], guard := none }) (v := ?_) rfl (by kernel_rfl) (by kernel_rfl) (by kernel_rfl) (by kernel_rfl) rfl rfl (by kernel_rfl) (by kernel_rfl) (fun _ _ _ h => h) (Or.inl ⟨by rfl, ?_⟩) (by exact HD.out) ?_
        rotate_left
        · intro w hSw; (try dsimp only at hSw); obtain ⟨r0, r1, r2, r3, r4, r5, rf⟩ := fcells_of (f := ⟨2, c, sp, a, d, t⟩) hSw.1; obtain ⟨_, q1, q2⟩ := hSw; go_simp; try (with_reducible rfl)
        repeat (first | simp only [Act.put] | simp only [List.setIfInBounds_toArray] | simp only [List.set_cons_zero] | simp only [List.set_cons_succ])
        refine wpAnyE_take [7] (i := 7) (oi := { dst := some 74, op := Op.fieldAddr 33 (Operand.tmp 1) 2, type := 0, pos := "ref.go:72", after := #[], guard := none }) (v := ?_) rfl (by kernel_rfl) (by kernel_rfl) (by kernel_rfl) (by kernel_rfl) rfl rfl (by kernel_rfl) (by kernel_rfl) (fun _ _ _ h => h) (Or.inl ⟨by rfl, ?_⟩) (by exact HD.out) ?_
        rotate_left
        · intro w hSw; (try dsimp only at hSw); obtain ⟨r0, r1, r2, r3, r4, r5, rf⟩ := fcells_of (f := ⟨2, c, sp, a, d, t⟩) hSw.1; obtain ⟨_, q1, q2⟩ := hSw; go_simp; try (with_reducible rfl)
        repeat (first | simp only [Act.put] | simp only [List.setIfInBounds_toArray] | simp only [List.set_cons_zero] | simp only [List.set_cons_succ])
        refine wpAnyE_take [8] (i := 8) (oi := { dst := some 75, op := Op.load 31 (Operand.tmp 74), type := 31, pos := "ref.go:72", after := #[{ on := 7, ground := Ground.data }], guard := none }) (v := ?_) rfl (by kernel_rfl) (by kernel_rfl) (by kernel_rfl) (by kernel_rfl) rfl rfl (by kernel_rfl) (by kernel_rfl) (fun _ _ _ h => h) (Or.inl ⟨by rfl, ?_⟩) (by exact HD.out) ?_
        rotate_left
        · intro w hSw; (try dsimp only at hSw); obtain ⟨r0, r1, r2, r3, r4, r5, rf⟩ := fcells_of (f := ⟨2, c, sp, a, d, t⟩) hSw.1; obtain ⟨_, q1, q2⟩ := hSw; go_simp; try (with_reducible rfl)
        repeat (first | simp only [Act.put] | simp only [List.setIfInBounds_toArray] | simp only [List.set_cons_zero] | simp only [List.set_cons_succ])
        refine wpAnyE_take [9] (i := 9) (oi := { dst := some 76, op := Op.move (Operand.tmp 5), type := 3, pos := "ref.go:72", after := #[], guard := none }) (v := ?_) rfl (by kernel_rfl) (by kernel_rfl) (by kernel_rfl) (by kernel_rfl) rfl rfl (by kernel_rfl) (by kernel_rfl) (fun _ _ _ h => h) (Or.inl ⟨by rfl, ?_⟩) (by exact HD.out) ?_
        rotate_left
        · intro w hSw; (try dsimp only at hSw); obtain ⟨r0, r1, r2, r3, r4, r5, rf⟩ := fcells_of (f := ⟨2, c, sp, a, d, t⟩) hSw.1; obtain ⟨_, q1, q2⟩ := hSw; go_simp; try (with_reducible rfl)
        repeat (first | simp only [Act.put] | simp only [List.setIfInBounds_toArray] | simp only [List.set_cons_zero] | simp only [List.set_cons_succ])
        refine wpAnyE_take [10] (i := 10) (oi := { dst := some 77, op := Op.indexAddr 31 (Operand.tmp 75) (Operand.tmp 76), type := 0, pos := "ref.go:72", after := #[{ on := 8, ground := Ground.data }, { on := 9, ground := Ground.data }], guard := none }) (v := ?_) rfl (by kernel_rfl) (by kernel_rfl) (by kernel_rfl) (by kernel_rfl) rfl rfl (by kernel_rfl) (by kernel_rfl) (fun _ _ _ h => h) (Or.inl ⟨by rfl, ?_⟩) (by exact HD.out) ?_
        rotate_left
        · intro w hSw; (try dsimp only at hSw); obtain ⟨r0, r1, r2, r3, r4, r5, rf⟩ := fcells_of (f := ⟨2, c, sp, a, d, t⟩) hSw.1; obtain ⟨_, q1, q2⟩ := hSw; go_simp; try (with_reducible rfl)
        repeat (first | simp only [Act.put] | simp only [List.setIfInBounds_toArray] | simp only [List.set_cons_zero] | simp only [List.set_cons_succ])
        refine wpAnyE_take [11] (i := 11) (oi := { dst := some 78, op := Op.fieldAddr 55 (Operand.tmp 77) 0, type := 0, pos := "ref.go:72", after := #[{ on := 10, ground := Ground.data }], guard := none }) (v := ?_) rfl (by kernel_rfl) (by kernel_rfl) (by kernel_rfl) (by kernel_rfl) rfl rfl (by kernel_rfl) (by kernel_rfl) (fun _ _ _ h => h) (Or.inl ⟨by rfl, ?_⟩) (by exact HD.out) ?_
        rotate_left
        · intro w hSw; (try dsimp only at hSw); obtain ⟨r0, r1, r2, r3, r4, r5, rf⟩ := fcells_of (f := ⟨2, c, sp, a, d, t⟩) hSw.1; obtain ⟨_, q1, q2⟩ := hSw; go_simp; try (with_reducible rfl)
        repeat (first | simp only [Act.put] | simp only [List.setIfInBounds_toArray] | simp only [List.set_cons_zero] | simp only [List.set_cons_succ])
        refine wpAnyE_take [12] (i := 12) (oi := { dst := some 79, op := Op.load 3 (Operand.tmp 78), type := 3, pos := "ref.go:72", after := #[{ on := 11, ground := Ground.data }], guard := none }) (v := ?_) rfl (by kernel_rfl) (by kernel_rfl) (by kernel_rfl) (by kernel_rfl) rfl rfl (by kernel_rfl) (by kernel_rfl) (fun _ _ _ h => h) (Or.inl ⟨by rfl, ?_⟩) (by exact HD.out) ?_
        rotate_left
        · intro w hSw; (try dsimp only at hSw); obtain ⟨r0, r1, r2, r3, r4, r5, rf⟩ := fcells_of (f := ⟨2, c, sp, a, d, t⟩) hSw.1; obtain ⟨_, q1, q2⟩ := hSw; go_simp; try (with_reducible rfl)
        repeat (first | simp only [Act.put] | simp only [List.setIfInBounds_toArray] | simp only [List.set_cons_zero] | simp only [List.set_cons_succ])
        refine wpAnyE_take [13] (i := 13) (oi := { dst := some 80, op := Op.binOp BinOp.sub 3 (Operand.tmp 73) (Operand.tmp 79) 3, type := 3, pos := "ref.go:72", after := #[{ on := 6, ground := Ground.data }, { on := 12, ground := Ground.data }], guard := none }) (v := ?_) rfl (by kernel_rfl) (by kernel_rfl) (by kernel_rfl) (by kernel_rfl) rfl rfl (by kernel_rfl) (by kernel_rfl) (fun _ _ _ h => h) (Or.inl ⟨by rfl, ?_⟩) (by exact HD.out) ?_
        rotate_left
        · intro w hSw; (try dsimp only at hSw); obtain ⟨r0, r1, r2, r3, r4, r5, rf⟩ := fcells_of (f := ⟨2, c, sp, a, d, t⟩) hSw.1; obtain ⟨_, q1, q2⟩ := hSw; go_simp; try (with_reducible rfl)
        repeat (first | simp only [Act.put] | simp only [List.setIfInBounds_toArray] | simp only [List.set_cons_zero] | simp only [List.set_cons_succ])
        refine wpAnyE_one (i := 14) (o := { dst := some 81, op := Op.call { callee := Callee.value (Operand.func 41), args := #[Operand.tmp 80], argTypes := #[3] }, type := 26, pos := "ref.go:72", after := #[{ on := 13, ground := Ground.data }], guard := none }) (by kernel_rfl) rfl (fun K hK => ?_)
        go_simp
        refine (bytes_any (w := w3.drew) (y2 - y1)).mono ?_
        rintro e w6 ⟨v6, rfl, ho6, hb6⟩
        have hr6 := (Rd.of_own ho6 (enc_byt _)).1
        have HD2 := Lib.hid (HDK.out _ hb6)
        have hs6 := hb6.size
        refine hK.out _ _ (fun hL => ?_) ?_
        · exact HD2.out
        clear hK K
        repeat (first | simp only [Act.put] | simp only [List.setIfInBounds_toArray] | simp only [List.set_cons_zero] | simp only [List.set_cons_succ])
        refine wpAnyE_one (i := 15) (o := { dst := some 82, op := Op.call { callee := Callee.builtin Builtin.append, args := #[Operand.tmp 67, Operand.tmp 81], argTypes := #[26, 26] }, type := 26, pos := "ref.go:72", after := #[{ on := 0, ground := Ground.data }, { on := 14, ground := Ground.data }, { on := 14, ground := Ground.chain }], guard := none }) (by kernel_rfl) rfl (fun K hK => ?_)
        refine step_append_bytes (by rfl) _ _ (by rfl) (w.heap.size + 1) _ _ (P ++ enc (y3 - y2 - 2)) (by rfl) (own_keepG HA3.out.own fun k hk _ => hb6.block k hk) v6 (enc (y2 - y1)) (by rfl) hr6 (by have := HPL3.out; have := enc_len (y2 - y1); omega) (by have := HA3.out.size; simp at hs6; omega) ?_
        intro v7 w7 hown7 hb7
        have HA7 := Lib.hid (HA3.out.step (drewB hb6) hown7 (enc_byt _) hb7)
        have HD3 := Lib.hid (HDL.out _ HA7.out)
        obtain ⟨a7, k7, rfl⟩ := own_shape hown7
        refine hK.out _ _ (fun hL => ?_) ?_
        · exact HD3.out
        clear hK K
        repeat (first | simp only [Act.put] | simp only [List.setIfInBounds_toArray] | simp only [List.set_cons_zero] | simp only [List.set_cons_succ])
        refine wpAnyE_one (i := 16) (o := { dst := some 3, op := Op.assign (Operand.tmp 82), type := 26, pos := "ref.go:72", after := #[{ on := 15, ground := Ground.data }, { on := 15, ground := Ground.chain }, { on := 0, ground := Ground.phase }, { on := 1, ground := Ground.phase }, { on := 2, ground := Ground.phase }, { on := 3, ground := Ground.phase }, { on := 4, ground := Ground.phase }, { on := 5, ground := Ground.phase }, { on := 6, ground := Ground.phase }, { on := 7, ground := Ground.phase }, { on := 8, ground := Ground.phase }, { on := 9, ground := Ground.phase }, { on := 10, ground := Ground.phase }, { on := 11, ground := Ground.phase }, { on := 12, ground := Ground.phase }, { on := 13, ground := Ground.phase }, { on := 14, ground := Ground.phase }, { on := 15, ground := Ground.phase }], guard := none }) (by kernel_rfl) rfl (fun K hK => ?_)
        go_simp
        refine hK.out _ _ (fun hL => absurd hL (by decide)) ?_
        clear hK K
        repeat (first | simp only [Act.put] | simp only [List.setIfInBounds_toArray] | simp only [List.set_cons_zero] | simp only [List.set_cons_succ])
        refine wpAnyE_done (by kernel_rfl) ?_ _
        have HA8 := HA7
        simp only [List.length_append] at HA8
        go_wp2_with fail
        go_roundw
        case rel => exact ⟨j + 1 + 1, (P ++ enc (y3 - y2 - 2)) ++ enc (y2 - y1), by go_num, by omega, HA8, Lib.hid (by have := hE.out; rw [HST.out] at this; simpa using this)⟩
        case measure => simp [intOf]; omega
    · obtain rfl : j = sp.length := by omega
      go_wp2_with fail
      go_ret
      refine wrpost (Rd.of_own HAK.out.own HAK.out.byt).1 ?_ HAK.out.bel
      have e := hE.out
      rw [wrR_end sp hS0, List.append_nil] at e
      rw [e]; simp [wrF]
#print axioms rbytes_k2
end Go.Proofs.YtocfkkppalpamaaDoor
namespace Go.Proofs.YtocfkkppalpamaaDoor
open Go Go.RowKit

theorem rbytes_any {w : World} {f : Fv} {sv dv : Value} (hs : Rs w sv f.sp) (hd : Rd w dv f.d) (hr : rightF f) : Calls Tryd.prog 28 #[fAgg f sv dv] w (WrPost w (wrF f)) := by
  obtain ⟨k, c, sp, a, d, t⟩ := f
  obtain ⟨sa, sc, rfl⟩ := rs_shape hs
  obtain ⟨da, dc, rfl⟩ := hd.shape
  simp only [rightF] at hr hd hs
  rcases hr with ⟨rfl, h1, h2, _⟩ | ⟨rfl | rfl, _⟩ | ⟨rfl, _, hA, _⟩ | ⟨rfl, _, _, hA, hD, _⟩ | ⟨rfl, _, _, _, _, hT⟩ | ⟨rfl, hC, _, _, _, hT⟩ | ⟨rfl, hC, _⟩
  · exact rbytes_k0 ⟨h1, h2⟩
  · exact rbytes_k1
  · exact rbytes_k30
  · exact rbytes_k2 hs ((ack_iff sp).2 hA)
  · exact rbytes_k6 hd hD.2
  · exact rbytes_k7 hT
  · exact rbytes_k8 hT
  · exact rbytes_k28
#print axioms rbytes_any
end Go.Proofs.YtocfkkppalpamaaDoor
