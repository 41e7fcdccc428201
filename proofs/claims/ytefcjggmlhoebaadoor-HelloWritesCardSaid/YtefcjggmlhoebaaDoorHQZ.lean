/- The document's Write of messages. -/
import Derived.Test.YtefcjggmlhoebaaDoorHTold
import Derived.Lib.AppendStr
import Derived.Test.YtefcjggmlhoebaaDoorHQZ0
namespace Go.Proofs.YtefcjggmlhoebaaDoor
open Go Go.RowKit

theorem rflag_any (w : World) (f : Bool) : Calls Tryd.prog 32 #[.bool f] w fun e w' => e = .returned (.int .u8 (flB f)) ∧ w = w' := by
  cases f
  · go_enter Tryd.func32, Tryd.ntmps32
    go_wp2_with fail
    go_ret
    exact ⟨rfl, rfl⟩
  · go_enter Tryd.func32, Tryd.ntmps32
    go_wp2_with fail
    go_ret
    exact ⟨rfl, rfl⟩
set_option maxRecDepth 20000 in
theorem rgive_any {w : World} {v : Value} {zs : List Int} (hr : Rd w v zs) (hl : zs.length ≤ 1000) :
    Calls Tryd.prog 33 #[v] w fun e w' => ∃ v', e = .returned v' ∧ w'.ownsRow w.heap.size 5 1 v' ((enc zs.length).length + zs.length) (by8 (enc zs.length ++ zs)) ∧ Below w.heap.size w w' := by
  have hr' := hr
  obtain ⟨ao, cap, rfl, _⟩ := hr'
  have hl8 := enc_len zs.length
  go_enter Tryd.func33, Tryd.ntmps33
  go_wp2_with fail
  refine (bytes_any (zs.length : Int)).mono ?_
  rintro e w1 ⟨v1, rfl, hown1, hb1⟩
  have gp := hr.below hb1
  have s1 := hb1.size
  go_wp2_with (at_builtin; refine wpList_append_bytes (.tmp 5) (.tmp 6) 22 rfl rfl info5 Tryd.underlying22 w.heap.size _ _ _ rfl hown1 _ zs rfl gp (by omega) s1 ?_; intro v2 w2 hown2 hb2)
  go_ret
  exact ⟨_, rfl, hown2, hb1.trans hb2⟩
/-- A row that grows beside a document's message in its box. -/
structure Gw (w W : World) (H base : Nat) (C : Array Value) (v : Value) (zs : List Int) : Prop where
  box : W.heap[H]? = some (.cells C 24 (0, 0))
  own : W.ownsRow base 5 1 v zs.length (by8 zs)
  bel : Below w.heap.size w W
  lo : H < base ∧ base ≤ W.heap.size ∧ w.heap.size ≤ base
  byt : Byt zs
theorem Gw.below {w W W' : World} {H base : Nat} {C : Array Value} {v : Value} {zs : List Int} (h : Gw w W H base C v zs) (hb : Below W.heap.size W W') : Gw w W' H base C v zs :=
  ⟨by rw [hb.block H (Array.getElem?_eq_some_iff.1 h.box).1]; exact h.box, own_below h.own hb, h.bel.trans (hb.mono h.bel.size), ⟨h.lo.1, Nat.le_trans h.lo.2.1 hb.size, h.lo.2.2⟩, h.byt⟩
theorem Gw.drew {w W : World} {H base : Nat} {C : Array Value} {v : Value} {zs : List Int} (h : Gw w W H base C v zs) : Gw w W.drew H base C v zs := ⟨h.box, h.own, h.bel.drew, h.lo, h.byt⟩
theorem Gw.grow {w W W' : World} {H base : Nat} {C : Array Value} {v v' : Value} {zs ys : List Int} (h : Gw w W H base C v zs) (ho : W'.ownsRow base 5 1 v' (zs.length + ys.length) (by8 (zs ++ ys))) (hb : Below base W W') (hy : Byt ys) : Gw w W' H base C v' (zs ++ ys) :=
  ⟨by rw [hb.block H h.lo.1]; exact h.box, by rw [List.length_append]; exact ho, h.bel.trans (hb.mono h.lo.2.2), ⟨h.lo.1, Nat.le_trans h.lo.2.1 hb.size, h.lo.2.2⟩, h.byt.app hy⟩
theorem Gw.cells {w W : World} {H base : Nat} {x : Value} {zs : List Int} {k r s t m : Int} {f : Bool} {vp : Value} {n : ByteArray} {v l : Int} (h : Gw w W H base (mcl k r s t m f vp n v l) x zs) :
    (W.cell? ⟨H, 0, none⟩ = some (.int .i64 k) ∧ W.cell? ⟨H, 1, none⟩ = some (.int .i64 r) ∧ W.cell? ⟨H, 2, none⟩ = some (.int .i64 s) ∧ W.cell? ⟨H, 3, none⟩ = some (.int .i64 t) ∧ W.cell? ⟨H, 4, none⟩ = some (.int .i64 m) ∧ W.cell? ⟨H, 5, none⟩ = some (.bool f) ∧ W.cell? ⟨H, 6, none⟩ = some vp ∧ W.cell? ⟨H, 7, none⟩ = some (.string n) ∧ W.cell? ⟨H, 8, none⟩ = some (.int .i64 v) ∧ W.cell? ⟨H, 9, none⟩ = some (.int .i64 l)) :=
  (RBox.cells (show RBox W H k r s t m f vp n v l from h.box)).1
theorem Gw.froz {w W : World} {H base : Nat} {C : Array Value} {v : Value} {zs : List Int} (h : Gw w W H base C v zs) (j : Nat) : W.frozen? ⟨H, j, none⟩ = false := by simp [World.frozen?, h.box]
theorem Gw.rd {w W : World} {H base : Nat} {C : Array Value} {v : Value} {zs : List Int} (h : Gw w W H base C v zs) : Rd W v zs := (Rd.of_own h.own h.byt).1
theorem Gw.shape {w W : World} {H base : Nat} {C : Array Value} {v : Value} {zs : List Int} (h : Gw w W H base C v zs) : ∃ a c, v = .slice a zs.length c := own_shapeH h.own
theorem gw_new (w : World) (k r s t m : Int) (f : Bool) (vp : Value) (n : ByteArray) (v l : Int) : Gw w (w.alloc (.cells (mcl k r s t m f vp n v l) 24)) w.heap.size (w.heap.size + 1) (mcl k r s t m f vp n v l) (.slice none 0 0) [] :=
  ⟨heap_alloc_new w _, World.ownsRow_nil _ _ _ _, below_alloc w _, ⟨by omega, by simp, by omega⟩, Byt.nil⟩
/-- A term's bytes, as the document writes them. -/
theorem rnum_rd (t : Int) (W : World) : Calls Tryd.prog 31 #[.int .i64 t] W fun e w' => ∃ v, e = .returned v ∧ Rd w' v (numB t) ∧ Below W.heap.size W w' := by
  refine (rnumber_any t W).mono ?_
  rintro e w' ⟨v, rfl, ho, hb⟩
  exact ⟨v, rfl, (Rd.of_own ho (numB_byt t)).1, hb⟩
theorem numB_le (t : Int) : (numB t).length ≤ 4 := numB_len t
#print axioms rgive_any
end Go.Proofs.YtefcjggmlhoebaaDoor
namespace Go.Proofs.YtefcjggmlhoebaaDoor
open Go Go.RowKit

set_option maxRecDepth 20000 in
set_option maxHeartbeats 8000000 in
theorem rw_1 (w : World) (r s t m : Int) (f : Bool) (a : Option Addr) (p : List Int) (c : Nat) (n : ByteArray) (v l : Int) (tb : Bool) (htb : (t != 0) = tb) (hrp : Rd w (.slice a p.length c) p) (hp : p.length ≤ 600) : Calls Tryd.prog 15 #[.agg (mcl 1 r s t m f (.slice a p.length c) n v l)] w (HBP w (msgB 1 (numB r ++ (numB s ++ (flB f :: flB tb :: (numB t ++ (enc (p.length : Int) ++ (p ++ numB m)))))))) := by
  have G1 := gw_new w 1 r s t m f (.slice a p.length c) n v l
  obtain ⟨c0, c1, c2, c3, c4, c5, c6, c7, c8, c9⟩ := G1.cells
  have cf := G1.froz
  have hC : mcl 1 r s t m f (.slice a p.length c) n v l = #[.int .i64 1, .int .i64 r, .int .i64 s, .int .i64 t, .int .i64 m, .bool f, .slice a p.length c, .string n, .int .i64 v, .int .i64 l] := rfl
  have HG1 := Lib.hid G1
  clear G1
  rw [hC] at c0 c1 c2 c3 c4 c5 c6 c7 c8 c9 cf ⊢
  clear hC
  go_enter Tryd.func15, Tryd.ntmps15
  have hnr := fun W => rnum_rd r W
  have hns := fun W => rnum_rd s W
  have hnt := fun W => rnum_rd t W
  have hnm := fun W => rnum_rd m W
  have HRP := Lib.hid hrp
  have hl8 := enc_len (p.length : Int)
  clear hrp
  go_wp2_with fail
  have G1 := HG1.out
  change Gw w (w.alloc (.cells #[.int .i64 1, .int .i64 r, .int .i64 s, .int .i64 t, .int .i64 m, .bool f, .slice a p.length c, .string n, .int .i64 v, .int .i64 l] 24)) w.heap.size (w.heap.size + 1) (mcl 1 r s t m f (.slice a p.length c) n v l) (.slice none 0 0) [] at G1
  generalize w.alloc (.cells #[.int .i64 1, .int .i64 r, .int .i64 s, .int .i64 t, .int .i64 m, .bool f, .slice a p.length c, .string n, .int .i64 v, .int .i64 l] 24) = W1 at *
  have GD := G1.drew
  have SD := GD.cells
  go_region_held3 (fun w' => (w'.cell? ⟨w.heap.size, 0, none⟩ = some (.int .i64 1) ∧ w'.cell? ⟨w.heap.size, 1, none⟩ = some (.int .i64 r) ∧ w'.cell? ⟨w.heap.size, 2, none⟩ = some (.int .i64 s) ∧ w'.cell? ⟨w.heap.size, 3, none⟩ = some (.int .i64 t) ∧ w'.cell? ⟨w.heap.size, 4, none⟩ = some (.int .i64 m) ∧ w'.cell? ⟨w.heap.size, 5, none⟩ = some (.bool f) ∧ w'.cell? ⟨w.heap.size, 6, none⟩ = some (.slice a p.length c) ∧ w'.cell? ⟨w.heap.size, 7, none⟩ = some (.string n) ∧ w'.cell? ⟨w.heap.size, 8, none⟩ = some (.int .i64 v) ∧ w'.cell? ⟨w.heap.size, 9, none⟩ = some (.int .i64 l)))
    (first | with_reducible exact SD | with_reducible exact S2 | with_reducible exact S4 | with_reducible exact S5 | with_reducible exact S6 | with_reducible exact S7 | with_reducible exact S8)
    (first
      | (have hgd := hr7; refine step_append_bytes (by rfl) _ _ (by rfl) (w.heap.size + 1) _ _ _ (by rfl) G7.own _ ([flB f, flB tb]) (by rfl) hr7 ?_ G7.lo.2.1 ?_; (have := numB_len r; have := numB_len s; have := numB_len t; have := numB_len m; have := big_len v 4; (try simp) <;> omega); intro v8 w8 ho8 hb8; have G8 := G7.grow ho8 hb8 (flB2_byt f tb); have S8 := G8.cells)
      | (have hgd := hr5; refine step_append_bytes (by rfl) _ _ (by rfl) (w.heap.size + 1) _ _ _ (by rfl) G5.own _ (numB s) (by rfl) hr5 ?_ G5.lo.2.1 ?_; (have := numB_len r; have := numB_len s; have := numB_len t; have := numB_len m; have := big_len v 4; (try simp) <;> omega); intro v6 w6 ho6 hb6; have G6 := G5.grow ho6 hb6 (numB_byt s); have S6 := G6.cells; have hy7 := below_alloc w6 (.cells #[.int .u8 (flB f), .int .u8 (flB tb)] 5); have G7 := G6.below hy7; have S7 := G7.cells; have hr7 := Rd.lit w6 [flB f, flB tb] (by simp) (flB2_byt f tb))
      | (go_at_call 31; with_reducible refine (hns w4).mono ?_; rintro e w5 ⟨v5, rfl, hr5, hb5⟩; have G5 := G4.below hb5; have S5 := G5.cells)
      | (have hgd := hr2; refine step_append_bytes (by rfl) _ _ (by rfl) (w.heap.size + 1) _ _ _ (by rfl) G2.own _ (numB r) (by rfl) hr2 ?_ G2.lo.2.1 ?_; (have := numB_len r; have := numB_len s; have := numB_len t; have := numB_len m; have := big_len v 4; (try simp) <;> omega); intro v4 w4 ho4 hb4; have G4 := G2.grow ho4 hb4 (numB_byt r); have S4 := G4.cells)
      | (go_at_call 31; with_reducible refine (hnr _).mono ?_; rintro e w2 ⟨v2, rfl, hr2, hb2⟩; have G2 := GD.below hb2; have S2 := G2.cells)
      | (go_at_call 32; refine (rflag_any _ _).mono ?_; rintro e wf ⟨rfl, rfl⟩))
  clear c0 c1 c2 c3 c4 c5 c6 c7 c8 c9 cf
  obtain ⟨c0, c1, c2, c3, c4, c5, c6, c7, c8, c9⟩ := G8.cells
  have cf := G8.froz
  clear G7 G6 G5 G4 G2 GD G1 S7 hr7 hr5 hr2
  go_wp2_with (first
    | (at_builtin; have hgd := hr13; refine wpList_append_bytes (.tmp 36) (.tmp 39) 22 rfl rfl info5 Tryd.underlying22 (w.heap.size + 1) _ _ _ rfl G13.own _ (numB m) rfl hr13 ?_ G13.lo.2.1 ?_; (have := numB_len r; have := numB_len s; have := numB_len t; have := numB_len m; have := big_len v 4; (try simp) <;> omega); intro v14 w14 ho14 hb14; have G14 := G13.grow ho14 hb14 (numB_byt m); clear c0 c1 c2 c3 c4 c5 c6 c7 c8 c9 cf; obtain ⟨c0, c1, c2, c3, c4, c5, c6, c7, c8, c9⟩ := G14.cells; have cf := G14.froz)
    | (go_at_call 31; with_reducible refine (hnm w12).mono ?_; rintro e w13 ⟨v13, rfl, hr13, hb13⟩; have G13 := G12.below hb13)
    | (at_builtin; have hgd := hr11; refine wpList_append_bytes (.tmp 31) (.tmp 34) 22 rfl rfl info5 Tryd.underlying22 (w.heap.size + 1) _ _ _ rfl G11.own _ (enc (p.length : Int) ++ p) rfl hr11 ?_ G11.lo.2.1 ?_; (have := numB_len r; have := numB_len s; have := numB_len t; have := numB_len m; have := big_len v 4; (try simp) <;> omega); intro v12 w12 ho12 hb12; have G12 := G11.grow ho12 hb12 ((enc_byt _).app HRP.out.byt); clear c0 c1 c2 c3 c4 c5 c6 c7 c8 c9 cf; obtain ⟨c0, c1, c2, c3, c4, c5, c6, c7, c8, c9⟩ := G12.cells; have cf := G12.froz)
    | (go_at_call 33; refine (rgive_any (HRP.out.below G10.bel) (by omega)).mono ?_; rintro e w11 ⟨v11, rfl, ho11, hb11⟩; have hr11 := (Rd.of_own ho11 ((enc_byt _).app HRP.out.byt)).1; have G11 := G10.below hb11)
    | (at_builtin; have hgd := hr9; refine wpList_append_bytes (.tmp 26) (.tmp 29) 22 rfl rfl info5 Tryd.underlying22 (w.heap.size + 1) _ _ _ rfl G9.own _ (numB t) rfl hr9 ?_ G9.lo.2.1 ?_; (have := numB_len r; have := numB_len s; have := numB_len t; have := numB_len m; have := big_len v 4; (try simp) <;> omega); intro v10 w10 ho10 hb10; have G10 := G9.grow ho10 hb10 (numB_byt t); clear c0 c1 c2 c3 c4 c5 c6 c7 c8 c9 cf; obtain ⟨c0, c1, c2, c3, c4, c5, c6, c7, c8, c9⟩ := G10.cells; have cf := G10.froz)
    | (go_at_call 31; with_reducible refine (hnt w8).mono ?_; rintro e w9 ⟨v9, rfl, hr9, hb9⟩; have G9 := G8.below hb9))
  have hlz : ([] ++ numB r ++ numB s ++ [flB f, flB tb] ++ numB t ++ (enc (p.length : Int) ++ p) ++ numB m).length ≤ 1000000 := by have := numB_len r; have := numB_len s; have := numB_len t; have := numB_len m; have := big_len v 4; (try simp) <;> omega
  have hms := rmessage_any 1 G14.rd hlz
  have HGE := Lib.hid G14
  clear G14
  go_wp2_with (go_at_call 36; refine hms.mono ?_; rintro e wz ⟨vz, rfl, ⟨hraz, _⟩, hbz⟩)
  go_ret
  refine ⟨_, rfl, (?_ : Rd wz vz _), HGE.out.bel.trans (hbz.mono HGE.out.bel.size)⟩
  have hrz := hraz.rd
  simpa only [List.nil_append, List.append_assoc, List.cons_append] using hrz
end Go.Proofs.YtefcjggmlhoebaaDoor
namespace Go.Proofs.YtefcjggmlhoebaaDoor
open Go Go.RowKit

set_option maxRecDepth 20000 in
set_option maxHeartbeats 8000000 in
theorem rw_2 (w : World) (r s t m : Int) (f : Bool) (a : Option Addr) (p : List Int) (c : Nat) (n : ByteArray) (v l : Int) (hv : 1 ≤ v ∧ v ≤ 4294967295) : Calls Tryd.prog 15 #[.agg (mcl 2 r s t m f (.slice a p.length c) n v l)] w (HBP w (msgB 2 (numB r ++ (numB s ++ (big v 4 ++ [flB f]))))) := by
  have G1 := gw_new w 2 r s t m f (.slice a p.length c) n v l
  obtain ⟨c0, c1, c2, c3, c4, c5, c6, c7, c8, c9⟩ := G1.cells
  have cf := G1.froz
  have hC : mcl 2 r s t m f (.slice a p.length c) n v l = #[.int .i64 2, .int .i64 r, .int .i64 s, .int .i64 t, .int .i64 m, .bool f, .slice a p.length c, .string n, .int .i64 v, .int .i64 l] := rfl
  have HG1 := Lib.hid G1
  clear G1
  rw [hC] at c0 c1 c2 c3 c4 c5 c6 c7 c8 c9 cf ⊢
  clear hC
  go_enter Tryd.func15, Tryd.ntmps15
  have hnr := fun W => rnum_rd r W
  have hns := fun W => rnum_rd s W
  go_wp2_with fail
  have G1 := HG1.out
  change Gw w (w.alloc (.cells #[.int .i64 2, .int .i64 r, .int .i64 s, .int .i64 t, .int .i64 m, .bool f, .slice a p.length c, .string n, .int .i64 v, .int .i64 l] 24)) w.heap.size (w.heap.size + 1) (mcl 2 r s t m f (.slice a p.length c) n v l) (.slice none 0 0) [] at G1
  generalize w.alloc (.cells #[.int .i64 2, .int .i64 r, .int .i64 s, .int .i64 t, .int .i64 m, .bool f, .slice a p.length c, .string n, .int .i64 v, .int .i64 l] 24) = W1 at *
  have GD := G1.drew
  have SD := GD.cells
  go_region_held3 (fun w' => (w'.cell? ⟨w.heap.size, 0, none⟩ = some (.int .i64 2) ∧ w'.cell? ⟨w.heap.size, 1, none⟩ = some (.int .i64 r) ∧ w'.cell? ⟨w.heap.size, 2, none⟩ = some (.int .i64 s) ∧ w'.cell? ⟨w.heap.size, 3, none⟩ = some (.int .i64 t) ∧ w'.cell? ⟨w.heap.size, 4, none⟩ = some (.int .i64 m) ∧ w'.cell? ⟨w.heap.size, 5, none⟩ = some (.bool f) ∧ w'.cell? ⟨w.heap.size, 6, none⟩ = some (.slice a p.length c) ∧ w'.cell? ⟨w.heap.size, 7, none⟩ = some (.string n) ∧ w'.cell? ⟨w.heap.size, 8, none⟩ = some (.int .i64 v) ∧ w'.cell? ⟨w.heap.size, 9, none⟩ = some (.int .i64 l)))
    (first | with_reducible exact SD | with_reducible exact S2 | with_reducible exact S4 | with_reducible exact S5 | with_reducible exact S6 | with_reducible exact S7 | with_reducible exact S8)
    (first
      | (have hgd := hr7; refine step_append_bytes (by rfl) _ _ (by rfl) (w.heap.size + 1) _ _ _ (by rfl) G7.own _ (big v 4) (by rfl) hr7 ?_ G7.lo.2.1 ?_; (have := numB_len r; have := numB_len s; have := numB_len t; have := numB_len m; have := big_len v 4; (try simp) <;> omega); intro v8 w8 ho8 hb8; have G8 := G7.grow ho8 hb8 (big_byt v 4); have S8 := G8.cells)
      | (go_at_call 34; refine (refbig_any (w := w6) v (by omega) (by omega) 4 (Nat.le_refl _)).mono ?_; rintro e w7 ⟨v7, rfl, ho7, hb7⟩; have hr7 := (Rd.of_own ho7 (big_byt v 4)).1; have G7 := G6.below hb7; have S7 := G7.cells)
      | (have hgd := hr5; refine step_append_bytes (by rfl) _ _ (by rfl) (w.heap.size + 1) _ _ _ (by rfl) G5.own _ (numB s) (by rfl) hr5 ?_ G5.lo.2.1 ?_; (have := numB_len r; have := numB_len s; have := numB_len t; have := numB_len m; have := big_len v 4; (try simp) <;> omega); intro v6 w6 ho6 hb6; have G6 := G5.grow ho6 hb6 (numB_byt s); have S6 := G6.cells)
      | (go_at_call 31; with_reducible refine (hns w4).mono ?_; rintro e w5 ⟨v5, rfl, hr5, hb5⟩; have G5 := G4.below hb5; have S5 := G5.cells)
      | (have hgd := hr2; refine step_append_bytes (by rfl) _ _ (by rfl) (w.heap.size + 1) _ _ _ (by rfl) G2.own _ (numB r) (by rfl) hr2 ?_ G2.lo.2.1 ?_; (have := numB_len r; have := numB_len s; have := numB_len t; have := numB_len m; have := big_len v 4; (try simp) <;> omega); intro v4 w4 ho4 hb4; have G4 := G2.grow ho4 hb4 (numB_byt r); have S4 := G4.cells)
      | (go_at_call 31; with_reducible refine (hnr _).mono ?_; rintro e w2 ⟨v2, rfl, hr2, hb2⟩; have G2 := GD.below hb2; have S2 := G2.cells))
  have hy := below_alloc w8 (.cells #[.int .u8 (flB f)] 5)
  have G9 := G8.below hy
  have hr9 := Rd.lit w8 [flB f] (by simp) (flB_byt f)
  clear c0 c1 c2 c3 c4 c5 c6 c7 c8 c9 cf
  obtain ⟨c0, c1, c2, c3, c4, c5, c6, c7, c8, c9⟩ := G8.cells
  have cf := G8.froz
  go_wp2_with (first
    | (go_at_call 32; refine (rflag_any _ _).mono ?_; rintro e wf ⟨rfl, rfl⟩)
    | (at_builtin; have hgd := hr9; refine wpList_append_bytes (.tmp 56) (.tmp 60) 22 rfl rfl info5 Tryd.underlying22 (w.heap.size + 1) _ _ _ rfl G9.own _ ([flB f]) rfl hr9 ?_ G9.lo.2.1 ?_; (have := numB_len r; have := numB_len s; have := numB_len t; have := numB_len m; have := big_len v 4; (try simp) <;> omega); intro v10 w10 ho10 hb10; have G10 := G9.grow ho10 hb10 (flB_byt f); clear c0 c1 c2 c3 c4 c5 c6 c7 c8 c9 cf; obtain ⟨c0, c1, c2, c3, c4, c5, c6, c7, c8, c9⟩ := G10.cells; have cf := G10.froz))
  have hlz : ([] ++ numB r ++ numB s ++ big v 4 ++ [flB f]).length ≤ 1000000 := by have := numB_len r; have := numB_len s; have := numB_len t; have := numB_len m; have := big_len v 4; (try simp) <;> omega
  have hms := rmessage_any 2 G10.rd hlz
  have HGE := Lib.hid G10
  clear G10
  go_wp2_with (go_at_call 36; refine hms.mono ?_; rintro e wz ⟨vz, rfl, ⟨hraz, _⟩, hbz⟩)
  go_ret
  refine ⟨_, rfl, (?_ : Rd wz vz _), HGE.out.bel.trans (hbz.mono HGE.out.bel.size)⟩
  have hrz := hraz.rd
  simpa only [List.nil_append, List.append_assoc, List.cons_append] using hrz
end Go.Proofs.YtefcjggmlhoebaaDoor
namespace Go.Proofs.YtefcjggmlhoebaaDoor
open Go Go.RowKit

set_option maxRecDepth 20000 in
set_option maxHeartbeats 8000000 in
theorem rw_4 (w : World) (r s t m : Int) (f : Bool) (a : Option Addr) (p : List Int) (c : Nat) (n : ByteArray) (v l : Int) : Calls Tryd.prog 15 #[.agg (mcl 4 r s t m f (.slice a p.length c) n v l)] w (HBP w (msgB 4 (numB t ++ enc l))) := by
  have G1 := gw_new w 4 r s t m f (.slice a p.length c) n v l
  obtain ⟨c0, c1, c2, c3, c4, c5, c6, c7, c8, c9⟩ := G1.cells
  have cf := G1.froz
  have hC : mcl 4 r s t m f (.slice a p.length c) n v l = #[.int .i64 4, .int .i64 r, .int .i64 s, .int .i64 t, .int .i64 m, .bool f, .slice a p.length c, .string n, .int .i64 v, .int .i64 l] := rfl
  have HG1 := Lib.hid G1
  clear G1
  rw [hC] at c0 c1 c2 c3 c4 c5 c6 c7 c8 c9 cf ⊢
  clear hC
  go_enter Tryd.func15, Tryd.ntmps15
  have hnt := fun W => rnum_rd t W
  have hl8 := enc_len l
  go_wp2_with fail
  have G1 := HG1.out
  change Gw w (w.alloc (.cells #[.int .i64 4, .int .i64 r, .int .i64 s, .int .i64 t, .int .i64 m, .bool f, .slice a p.length c, .string n, .int .i64 v, .int .i64 l] 24)) w.heap.size (w.heap.size + 1) (mcl 4 r s t m f (.slice a p.length c) n v l) (.slice none 0 0) [] at G1
  generalize w.alloc (.cells #[.int .i64 4, .int .i64 r, .int .i64 s, .int .i64 t, .int .i64 m, .bool f, .slice a p.length c, .string n, .int .i64 v, .int .i64 l] 24) = W1 at *
  have GD := G1.drew
  have SD := GD.cells
  go_region_held3 (fun w' => (w'.cell? ⟨w.heap.size, 0, none⟩ = some (.int .i64 4) ∧ w'.cell? ⟨w.heap.size, 1, none⟩ = some (.int .i64 r) ∧ w'.cell? ⟨w.heap.size, 2, none⟩ = some (.int .i64 s) ∧ w'.cell? ⟨w.heap.size, 3, none⟩ = some (.int .i64 t) ∧ w'.cell? ⟨w.heap.size, 4, none⟩ = some (.int .i64 m) ∧ w'.cell? ⟨w.heap.size, 5, none⟩ = some (.bool f) ∧ w'.cell? ⟨w.heap.size, 6, none⟩ = some (.slice a p.length c) ∧ w'.cell? ⟨w.heap.size, 7, none⟩ = some (.string n) ∧ w'.cell? ⟨w.heap.size, 8, none⟩ = some (.int .i64 v) ∧ w'.cell? ⟨w.heap.size, 9, none⟩ = some (.int .i64 l)))
    (first | with_reducible exact SD | with_reducible exact S2 | with_reducible exact S4 | with_reducible exact S5 | with_reducible exact S6)
    (first
      | (have hgd := hr5; refine step_append_bytes (by rfl) _ _ (by rfl) (w.heap.size + 1) _ _ _ (by rfl) G4.own _ (enc l) (by rfl) hr5 ?_ G4.lo.2.1 ?_; (have := numB_len r; have := numB_len s; have := numB_len t; have := numB_len m; (try simp) <;> omega); intro v6 w6 ho6 hb6; have G6 := G4.grow ho6 hb6 (enc_byt l); have S6 := G6.cells)
      | (go_at_call 35; refine (bytes_any (w := w4) l).mono ?_; rintro e w5 ⟨v5, rfl, ho5, hb5⟩; have hr5 := (Rd.of_own ho5 (enc_byt l)).1; have G4o := G4; replace G4 := G4.below hb5; have S5 := G4.cells)
      | (have hgd := hr2; refine step_append_bytes (by rfl) _ _ (by rfl) (w.heap.size + 1) _ _ _ (by rfl) G2.own _ (numB t) (by rfl) hr2 ?_ G2.lo.2.1 ?_; (have := numB_len r; have := numB_len s; have := numB_len t; have := numB_len m; (try simp) <;> omega); intro v4 w4 ho4 hb4; have G4 := G2.grow ho4 hb4 (numB_byt t); have S4 := G4.cells)
      | (go_at_call 31; with_reducible refine (hnt _).mono ?_; rintro e w2 ⟨v2, rfl, hr2, hb2⟩; have G2 := GD.below hb2; have S2 := G2.cells))
  have hlz : ([] ++ numB t ++ enc l).length ≤ 1000000 := by have := numB_len r; have := numB_len s; have := numB_len t; have := numB_len m; (try simp) <;> omega
  have hms := rmessage_any 4 G6.rd hlz
  have HGE := Lib.hid G6
  clear G6
  go_wp2_with (go_at_call 36; refine hms.mono ?_; rintro e wz ⟨vz, rfl, ⟨hraz, _⟩, hbz⟩)
  go_ret
  refine ⟨_, rfl, (?_ : Rd wz vz _), HGE.out.bel.trans (hbz.mono HGE.out.bel.size)⟩
  have hrz := hraz.rd
  simpa only [List.nil_append, List.append_assoc, List.cons_append] using hrz
end Go.Proofs.YtefcjggmlhoebaaDoor
namespace Go.Proofs.YtefcjggmlhoebaaDoor
open Go Go.RowKit

set_option maxRecDepth 20000 in
set_option maxHeartbeats 8000000 in
theorem rw_8 (w : World) (r s t m : Int) (f : Bool) (a : Option Addr) (p : List Int) (c : Nat) (n : ByteArray) (v l : Int) (hrp : Rd w (.slice a p.length c) p) (hp : p.length ≤ 600) : Calls Tryd.prog 15 #[.agg (mcl 8 r s t m f (.slice a p.length c) n v l)] w (HBP w (msgB 8 (flB f :: (enc (p.length : Int) ++ p)))) := by
  have G1 := gw_new w 8 r s t m f (.slice a p.length c) n v l
  obtain ⟨c0, c1, c2, c3, c4, c5, c6, c7, c8, c9⟩ := G1.cells
  have cf := G1.froz
  have hC : mcl 8 r s t m f (.slice a p.length c) n v l = #[.int .i64 8, .int .i64 r, .int .i64 s, .int .i64 t, .int .i64 m, .bool f, .slice a p.length c, .string n, .int .i64 v, .int .i64 l] := rfl
  have HG1 := Lib.hid G1
  clear G1
  rw [hC] at c0 c1 c2 c3 c4 c5 c6 c7 c8 c9 cf ⊢
  clear hC
  go_enter Tryd.func15, Tryd.ntmps15
  have HRP := Lib.hid hrp
  have hl8 := enc_len (p.length : Int)
  clear hrp
  go_wp2_with fail
  have G1 := HG1.out
  change Gw w (w.alloc (.cells #[.int .i64 8, .int .i64 r, .int .i64 s, .int .i64 t, .int .i64 m, .bool f, .slice a p.length c, .string n, .int .i64 v, .int .i64 l] 24)) w.heap.size (w.heap.size + 1) (mcl 8 r s t m f (.slice a p.length c) n v l) (.slice none 0 0) [] at G1
  generalize w.alloc (.cells #[.int .i64 8, .int .i64 r, .int .i64 s, .int .i64 t, .int .i64 m, .bool f, .slice a p.length c, .string n, .int .i64 v, .int .i64 l] 24) = W1 at *
  have GD := G1.drew
  have SD := GD.cells
  have hy := below_alloc W1 (.cells #[.int .u8 (flB f)] 5)
  have G2 := (G1.below hy).drew
  have S2 := G2.cells
  have hr2 : Rd (W1.alloc (.cells #[.int .u8 (flB f)] 5)).drew (.slice (some ⟨W1.heap.size, 0, none⟩) 1 1) [flB f] := (Rd.lit W1 [flB f] (by simp) (flB_byt f)).drew
  go_region_held3 (fun w' => (w'.cell? ⟨w.heap.size, 0, none⟩ = some (.int .i64 8) ∧ w'.cell? ⟨w.heap.size, 1, none⟩ = some (.int .i64 r) ∧ w'.cell? ⟨w.heap.size, 2, none⟩ = some (.int .i64 s) ∧ w'.cell? ⟨w.heap.size, 3, none⟩ = some (.int .i64 t) ∧ w'.cell? ⟨w.heap.size, 4, none⟩ = some (.int .i64 m) ∧ w'.cell? ⟨w.heap.size, 5, none⟩ = some (.bool f) ∧ w'.cell? ⟨w.heap.size, 6, none⟩ = some (.slice a p.length c) ∧ w'.cell? ⟨w.heap.size, 7, none⟩ = some (.string n) ∧ w'.cell? ⟨w.heap.size, 8, none⟩ = some (.int .i64 v) ∧ w'.cell? ⟨w.heap.size, 9, none⟩ = some (.int .i64 l)))
    (first | with_reducible exact SD | with_reducible exact S2 | with_reducible exact S4 | with_reducible exact S5 | with_reducible exact S6)
    (first
      | (have hgd := hr5; refine step_append_bytes (by rfl) _ _ (by rfl) (w.heap.size + 1) _ _ _ (by rfl) G5.own _ (enc (p.length : Int) ++ p) (by rfl) hr5 ?_ G5.lo.2.1 ?_; (have := numB_len r; have := numB_len s; have := numB_len t; have := numB_len m; have := big_len v 4; (try simp) <;> omega); intro v6 w6 ho6 hb6; have G6 := G5.grow ho6 hb6 ((enc_byt _).app HRP.out.byt); have S6 := G6.cells)
      | (go_at_call 33; refine (rgive_any (HRP.out.below G4.bel) (by omega)).mono ?_; rintro e w5 ⟨v5, rfl, ho5, hb5⟩; have hr5 := (Rd.of_own ho5 ((enc_byt _).app HRP.out.byt)).1; have G5 := G4.below hb5; have S5 := G5.cells)
      | (have hgd := hr2; refine step_append_bytes (by rfl) _ _ (by rfl) (w.heap.size + 1) _ _ _ (by rfl) G2.own _ ([flB f]) (by rfl) hr2 ?_ G2.lo.2.1 ?_; (have := numB_len r; have := numB_len s; have := numB_len t; have := numB_len m; have := big_len v 4; (try simp) <;> omega); intro v4 w4 ho4 hb4; have G4 := G2.grow ho4 hb4 (flB_byt f); have S4 := G4.cells)
      | (go_at_call 32; refine (rflag_any _ _).mono ?_; rintro e wf ⟨rfl, rfl⟩))
  have hlz : ([] ++ [flB f] ++ (enc (p.length : Int) ++ p)).length ≤ 1000000 := by have := numB_len r; have := numB_len s; have := numB_len t; have := numB_len m; have := big_len v 4; (try simp) <;> omega
  have hms := rmessage_any 8 G6.rd hlz
  have HGE := Lib.hid G6
  clear G6
  go_wp2_with (go_at_call 36; refine hms.mono ?_; rintro e wz ⟨vz, rfl, ⟨hraz, _⟩, hbz⟩)
  go_ret
  refine ⟨_, rfl, (?_ : Rd wz vz _), HGE.out.bel.trans (hbz.mono HGE.out.bel.size)⟩
  have hrz := hraz.rd
  simpa only [List.nil_append, List.append_assoc, List.cons_append] using hrz
end Go.Proofs.YtefcjggmlhoebaaDoor
namespace Go.Proofs.YtefcjggmlhoebaaDoor
open Go Go.RowKit

theorem str_by8 (s : ByteArray) : Lib.strCells s = by8 (sbytes s) := by
  simp [Lib.strCells, by8, sbytes]
set_option maxRecDepth 20000 in
set_option maxHeartbeats 8000000 in
theorem rw_11 (w : World) (r s t m : Int) (f : Bool) (a : Option Addr) (p : List Int) (c : Nat) (n : ByteArray) (v l : Int) (hn : n.size ≤ 100) : Calls Tryd.prog 15 #[.agg (mcl 11 r s t m f (.slice a p.length c) n v l)] w (HBP w (msgB 11 (sbytes n))) := by
  have G1 := gw_new w 11 r s t m f (.slice a p.length c) n v l
  obtain ⟨c0, c1, c2, c3, c4, c5, c6, c7, c8, c9⟩ := G1.cells
  have cf := G1.froz
  have hC : mcl 11 r s t m f (.slice a p.length c) n v l = #[.int .i64 11, .int .i64 r, .int .i64 s, .int .i64 t, .int .i64 m, .bool f, .slice a p.length c, .string n, .int .i64 v, .int .i64 l] := rfl
  have HG1 := Lib.hid G1
  clear G1
  rw [hC] at c0 c1 c2 c3 c4 c5 c6 c7 c8 c9 cf ⊢
  clear hC
  go_enter Tryd.func15, Tryd.ntmps15
  obtain ⟨ii, hi, hz0, hz1, hz2⟩ := info_row5
  have G1 := HG1.out
  change Gw w (w.alloc (.cells #[.int .i64 11, .int .i64 r, .int .i64 s, .int .i64 t, .int .i64 m, .bool f, .slice a p.length c, .string n, .int .i64 v, .int .i64 l] 24)) w.heap.size (w.heap.size + 1) (mcl 11 r s t m f (.slice a p.length c) n v l) (.slice none 0 0) [] at G1
  go_wp2_with (at_builtin; refine Lib.wpList_append_own_string _ rfl (.tmp 87) (.tmp 89) 22 9 rfl (w.heap.size + 1) 5 ii Tryd.underlying22 Tryd.underlying9 hi hz0 hz1 hz2 _ _ _ rfl G1.own n rfl (by unfold maxLen; simp only [List.length_nil]; omega) (by simp only [List.length_nil]; omega) G1.lo.2.1 ?_; intro v4 w4 ho4 hg4 _; have hb4 := below_own G1.own G1.lo.2.1 hg4; rw [str_by8, ← by8_app, ← sbytes_len] at ho4; have G4 := G1.grow ho4 hb4 (sbytes_byt n); clear c0 c1 c2 c3 c4 c5 c6 c7 c8 c9 cf; obtain ⟨c0, c1, c2, c3, c4, c5, c6, c7, c8, c9⟩ := G4.cells; have cf := G4.froz)
  have hlz : ([] ++ sbytes n).length ≤ 1000000 := by rw [List.nil_append, sbytes_len]; omega
  have hms := rmessage_any 11 G4.rd hlz
  have HGE := Lib.hid G4
  clear G4
  go_wp2_with (go_at_call 36; refine hms.mono ?_; rintro e wz ⟨vz, rfl, ⟨hraz, _⟩, hbz⟩)
  go_ret
  refine ⟨_, rfl, (?_ : Rd wz vz _), HGE.out.bel.trans (hbz.mono HGE.out.bel.size)⟩
  have hrz := hraz.rd
  simpa only [List.nil_append, List.append_assoc, List.cons_append] using hrz
end Go.Proofs.YtefcjggmlhoebaaDoor
namespace Go.Proofs.YtefcjggmlhoebaaDoor
open Go Go.RowKit

set_option maxRecDepth 20000 in
set_option maxHeartbeats 8000000 in
theorem rw_15 (w : World) (r s t m : Int) (f : Bool) (a : Option Addr) (p : List Int) (c : Nat) (n : ByteArray) (v l : Int) : Calls Tryd.prog 15 #[.agg (mcl 15 r s t m f (.slice a p.length c) n v l)] w (HBP w (msgB 15 (numB m))) := by
  have G1 := gw_new w 15 r s t m f (.slice a p.length c) n v l
  obtain ⟨c0, c1, c2, c3, c4, c5, c6, c7, c8, c9⟩ := G1.cells
  have cf := G1.froz
  have hC : mcl 15 r s t m f (.slice a p.length c) n v l = #[.int .i64 15, .int .i64 r, .int .i64 s, .int .i64 t, .int .i64 m, .bool f, .slice a p.length c, .string n, .int .i64 v, .int .i64 l] := rfl
  have HG1 := Lib.hid G1
  clear G1
  rw [hC] at c0 c1 c2 c3 c4 c5 c6 c7 c8 c9 cf ⊢
  clear hC
  go_enter Tryd.func15, Tryd.ntmps15
  have hnm := fun W => rnum_rd m W
  go_wp2_with fail
  have G1 := HG1.out
  change Gw w (w.alloc (.cells #[.int .i64 15, .int .i64 r, .int .i64 s, .int .i64 t, .int .i64 m, .bool f, .slice a p.length c, .string n, .int .i64 v, .int .i64 l] 24)) w.heap.size (w.heap.size + 1) (mcl 15 r s t m f (.slice a p.length c) n v l) (.slice none 0 0) [] at G1
  generalize w.alloc (.cells #[.int .i64 15, .int .i64 r, .int .i64 s, .int .i64 t, .int .i64 m, .bool f, .slice a p.length c, .string n, .int .i64 v, .int .i64 l] 24) = W1 at *
  have GD := G1
  go_wp2_with (first
    | (at_builtin; have hgd := hr2; refine wpList_append_bytes (.tmp 94) (.tmp 97) 22 rfl rfl info5 Tryd.underlying22 (w.heap.size + 1) _ _ _ rfl G2.own _ (numB m) rfl hr2 ?_ G2.lo.2.1 ?_; (have := numB_len r; have := numB_len s; have := numB_len t; have := numB_len m; have := big_len v 4; (try simp) <;> omega); intro v4 w4 ho4 hb4; have G4 := G2.grow ho4 hb4 (numB_byt m); clear c0 c1 c2 c3 c4 c5 c6 c7 c8 c9 cf; obtain ⟨c0, c1, c2, c3, c4, c5, c6, c7, c8, c9⟩ := G4.cells; have cf := G4.froz)
    | (go_at_call 31; with_reducible refine (hnm _).mono ?_; rintro e w2 ⟨v2, rfl, hr2, hb2⟩; have G2 := GD.below hb2))
  have hlz : ([] ++ numB m).length ≤ 1000000 := by have := numB_len r; have := numB_len s; have := numB_len t; have := numB_len m; have := big_len v 4; (try simp) <;> omega
  have hms := rmessage_any 15 G4.rd hlz
  have HGE := Lib.hid G4
  clear G4
  go_wp2_with (go_at_call 36; refine hms.mono ?_; rintro e wz ⟨vz, rfl, ⟨hraz, _⟩, hbz⟩)
  go_ret
  refine ⟨_, rfl, (?_ : Rd wz vz _), HGE.out.bel.trans (hbz.mono HGE.out.bel.size)⟩
  have hrz := hraz.rd
  simpa only [List.nil_append, List.append_assoc, List.cons_append] using hrz
set_option maxRecDepth 20000 in
set_option maxHeartbeats 8000000 in
theorem rw_20 (w : World) (r s t m : Int) (f : Bool) (a : Option Addr) (p : List Int) (c : Nat) (n : ByteArray) (v l : Int) : Calls Tryd.prog 15 #[.agg (mcl 20 r s t m f (.slice a p.length c) n v l)] w (HBP w (msgB 20 (numB m))) := by
  have G1 := gw_new w 20 r s t m f (.slice a p.length c) n v l
  obtain ⟨c0, c1, c2, c3, c4, c5, c6, c7, c8, c9⟩ := G1.cells
  have cf := G1.froz
  have hC : mcl 20 r s t m f (.slice a p.length c) n v l = #[.int .i64 20, .int .i64 r, .int .i64 s, .int .i64 t, .int .i64 m, .bool f, .slice a p.length c, .string n, .int .i64 v, .int .i64 l] := rfl
  have HG1 := Lib.hid G1
  clear G1
  rw [hC] at c0 c1 c2 c3 c4 c5 c6 c7 c8 c9 cf ⊢
  clear hC
  go_enter Tryd.func15, Tryd.ntmps15
  have hnm := fun W => rnum_rd m W
  go_wp2_with fail
  have G1 := HG1.out
  change Gw w (w.alloc (.cells #[.int .i64 20, .int .i64 r, .int .i64 s, .int .i64 t, .int .i64 m, .bool f, .slice a p.length c, .string n, .int .i64 v, .int .i64 l] 24)) w.heap.size (w.heap.size + 1) (mcl 20 r s t m f (.slice a p.length c) n v l) (.slice none 0 0) [] at G1
  generalize w.alloc (.cells #[.int .i64 20, .int .i64 r, .int .i64 s, .int .i64 t, .int .i64 m, .bool f, .slice a p.length c, .string n, .int .i64 v, .int .i64 l] 24) = W1 at *
  have GD := G1
  go_wp2_with (first
    | (at_builtin; have hgd := hr2; refine wpList_append_bytes (.tmp 94) (.tmp 97) 22 rfl rfl info5 Tryd.underlying22 (w.heap.size + 1) _ _ _ rfl G2.own _ (numB m) rfl hr2 ?_ G2.lo.2.1 ?_; (have := numB_len r; have := numB_len s; have := numB_len t; have := numB_len m; have := big_len v 4; (try simp) <;> omega); intro v4 w4 ho4 hb4; have G4 := G2.grow ho4 hb4 (numB_byt m); clear c0 c1 c2 c3 c4 c5 c6 c7 c8 c9 cf; obtain ⟨c0, c1, c2, c3, c4, c5, c6, c7, c8, c9⟩ := G4.cells; have cf := G4.froz)
    | (go_at_call 31; with_reducible refine (hnm _).mono ?_; rintro e w2 ⟨v2, rfl, hr2, hb2⟩; have G2 := GD.below hb2))
  have hlz : ([] ++ numB m).length ≤ 1000000 := by have := numB_len r; have := numB_len s; have := numB_len t; have := numB_len m; have := big_len v 4; (try simp) <;> omega
  have hms := rmessage_any 20 G4.rd hlz
  have HGE := Lib.hid G4
  clear G4
  go_wp2_with (go_at_call 36; refine hms.mono ?_; rintro e wz ⟨vz, rfl, ⟨hraz, _⟩, hbz⟩)
  go_ret
  refine ⟨_, rfl, (?_ : Rd wz vz _), HGE.out.bel.trans (hbz.mono HGE.out.bel.size)⟩
  have hrz := hraz.rd
  simpa only [List.nil_append, List.append_assoc, List.cons_append] using hrz
end Go.Proofs.YtefcjggmlhoebaaDoor
namespace Go.Proofs.YtefcjggmlhoebaaDoor
open Go Go.RowKit

/-- Write, of a right message. -/
theorem rwrite_any {ok : List Int → Bool} (hk : OkLen ok) {w : World} {x : Hm} {vp : Value} (h : rightM ok x) (hr : Rd w vp x.p) (hn : Byt x.n) :
    Calls Tryd.prog 15 #[.agg (mcl x.k x.r x.s x.t x.m x.f vp (bstr x.n) x.v x.l)] w (HBP w (wrM x)) := by
  have hp := right_plen hk h
  refine hbp_eq (wr_msg hk h) ?_
  have hx := h
  obtain ⟨k, r, s, t, m, f, p, n, v, l⟩ := x
  simp only at hp hr hn ⊢
  obtain ⟨a, c, rfl⟩ := hr.shape
  rcases h with ⟨h1, h2, h3, _, h5, h6, h7, h8⟩ | ⟨h1, h2, h3, h4, _⟩ | ⟨h1, h2, h3, _⟩ | ⟨h1, _⟩ | ⟨h1, h2, _⟩ | ⟨h1, h2, _⟩
  · simp only at h1 h2 h3 h5
    subst h1
    have hnt : ∀ z : Int, z = 0 ∨ tmR z → numB z = (if z = 0 then [] else gbig z 4) := fun z hz => by
      rcases hz with rfl | hz
      · rw [numB_zero, if_pos rfl]
      · rw [if_neg (by have := hz.1; omega), numB_gbig hz]
    have ht := hnt t (by rcases h5 with h | h; exact .inl h.1; exact .inr h.1)
    have hm := hnt m (by rcases h5 with h | h; exact .inl h.2; exact .inr h.2)
    refine hbp_eq ?_ (rw_1 w r s t m f a p c _ v l (t != 0) rfl hr (by omega))
    unfold bodyM
    rw [if_pos rfl, ht, hm, numB_gbig h2, numB_gbig h3]
    have : flB (t != 0) = if t = 0 then 0 else 1 := by by_cases h0 : t = 0 <;> simp [h0, flB]
    rw [this]
    simp only [List.append_assoc]
  · simp only at h1 h2 h3 h4
    subst h1
    refine hbp_eq ?_ (rw_2 w r s t m f a p c _ v l h4)
    simp [bodyM, numB_gbig h2, numB_gbig h3, big_gbig]
  · simp only at h1 h2 h3
    subst h1
    refine hbp_eq ?_ (rw_4 w r s t m f a p c _ v l)
    simp [bodyM, numB_gbig h2]
  · simp only at h1
    subst h1
    refine hbp_eq ?_ (rw_8 w r s t m f a p c _ v l hr (by omega))
    simp [bodyM]
  · simp only at h1 h2
    subst h1
    refine hbp_eq ?_ (rw_11 w r s t m f a p c _ v l (by rw [bstr_size]; omega))
    simp [bodyM, sbytes_bstr hn]
  · simp only at h1 h2
    rcases h1 with rfl | rfl
    · refine hbp_eq ?_ (rw_15 w r s t m f a p c _ v l)
      simp [bodyM, numB_gbig h2]
    · refine hbp_eq ?_ (rw_20 w r s t m f a p c _ v l)
      simp [bodyM, numB_gbig h2]
#print axioms rwrite_any
end Go.Proofs.YtefcjggmlhoebaaDoor
