/- strike: the program's store as a block and its map; what is old goes. -/
import Derived.Test.YtallpkchhkdanaaStPure
import Derived.Deep.RegionHeld3
import Derived.Deep.RegionWith
import Derived.StillTailTactics
import Derived.Outline
namespace Go.Proofs.Ytallpkchhkdanaa
open Go Go.RowKit
open Go.Maps (Keyed)

/-- Nothing but the blocks B and mb has changed of what was there. -/
structure Bt (B mb : Nat) (w w' : World) : Prop where
  os : w'.os = w.os
  tape : w'.tape = w.tape
  output : w'.output = w.output
  size : w.heap.size ≤ w'.heap.size
  block : ∀ k, k < w.heap.size → k ≠ B → k ≠ mb → w'.heap[k]? = w.heap[k]?
theorem Bt.refl (B mb : Nat) (w : World) : Bt B mb w w := ⟨rfl, rfl, rfl, Nat.le_refl _, fun _ _ _ _ => rfl⟩
theorem Bt.trans {B mb : Nat} {a b c : World} (h : Bt B mb a b) (k : Bt B mb b c) : Bt B mb a c :=
  ⟨k.os.trans h.os, k.tape.trans h.tape, k.output.trans h.output, Nat.le_trans h.size k.size, fun i hi h1 h2 => (k.block i (Nat.lt_of_lt_of_le hi h.size) h1 h2).trans (h.block i hi h1 h2)⟩
theorem Bt.below {B mb base : Nat} {w0 w w' : World} (h : Bt B mb w w') (hb : Below base w0 w) (hB : base ≤ B) (hm : base ≤ mb) (hs : base ≤ w.heap.size) : Below base w0 w' :=
  ⟨h.os.trans hb.os, h.tape.trans hb.tape, h.output.trans hb.output, Nat.le_trans hb.size h.size, fun k hk => (h.block k (Nat.lt_of_lt_of_le hk hs) (by omega) (by omega)).trans (hb.block k hk)⟩
theorem Bt.set (w : World) (B mb i : Nat) (v : Value) : Bt B mb w (w.setCell ⟨B, i, none⟩ v) :=
  ⟨rfl, rfl, rfl, by simp [World.setCell], fun k _ hn _ => Below.heap_setCell _ _ _ _ hn⟩
theorem Bt.drewN {B mb : Nat} (w : World) (n : Nat) : Bt B mb w (w.drewN n) := ⟨rfl, rfl, rfl, Nat.le_refl _, fun _ _ _ _ => rfl⟩
theorem Bt.of_below {B mb : Nat} {w w' : World} (h : Below w.heap.size w w') : Bt B mb w w' := ⟨h.os, h.tape, h.output, h.size, fun k hk _ _ => h.block k hk⟩
theorem Bt.grown {B mb : Nat} {w w' : World} (h : w.grownBy w' (some mb)) : Bt B mb w w' := ⟨h.os, h.tape, h.output, h.size, fun k hk _ h2 => h.block k hk (fun e => h2 (by cases e; rfl))⟩
theorem Bt.grown0 {B mb r : Nat} {w0 w w' : World} (k : Bt B mb w0 w) (h : w.grownBy w' (some r)) (hr : w0.heap.size ≤ r) : Bt B mb w0 w' :=
  ⟨h.os.trans k.os, h.tape.trans k.tape, h.output.trans k.output, Nat.le_trans k.size h.size, fun i hi h1 h2 => (h.block i (Nat.lt_of_lt_of_le hi k.size) (fun e => by cases e; omega)).trans (k.block i hi h1 h2)⟩
theorem grown_set (w : World) (B i : Nat) (v : Value) : w.grownBy (w.setCell ⟨B, i, none⟩ v) (some B) :=
  ⟨rfl, rfl, rfl, by simp [World.setCell], fun k _ hn => Below.heap_setCell _ _ _ _ (fun e => hn (by rw [e]))⟩

abbrev MapT (w : World) (mb c : Nat) (D : DataW Value) : Prop := w.ownsMap Try.prog 29 (plainElem Try.prog 3) mb c D
theorem own_tight {w : World} {mb c : Nat} {D : DataW Value} (h : MapT w mb c D) : MapT w mb (Maps.size D) D := by
  obtain ⟨es, clock, hb, F, hs, hD⟩ := h
  exact ⟨es, clock, hb, F, by rw [hD, Maps.size_eq, length_read]; exact Nat.le_refl _, hD⟩
/-- The store's block. -/
abbrev sBox (win room : Int) (mb : Nat) (o : Int) : Obj := .cells #[.int .i64 win, .int .i64 room, .map (some mb), .int .i64 o] 60 (0, 0)
/-- The store in block B, its map in mb: what it holds. -/
structure St (w : World) (B mb : Nat) (win room : Int) (L : List Sp) : Prop where
  win0 : 0 ≤ win ∧ win ≤ 9223372036854775807
  ok : OkL L
  ne : B ≠ mb
  inner : ∃ (o : Int) (D : DataW Value), w.heap[B]? = some (sBox win room mb o) ∧ MapT w mb L.length D ∧ SaysL D L ∧ (∀ p ∈ L, o ≤ p.2) ∧ 0 ≤ o ∧ o ≤ 9223372036854775807
theorem St.lt {w : World} {B mb : Nat} {win room : Int} {L : List Sp} (h : St w B mb win room L) : B < w.heap.size ∧ mb < w.heap.size := by
  obtain ⟨o, D, h1, h2, _⟩ := h.inner
  exact ⟨blk_lt h1, h2.lt⟩
theorem St.keep {w w' : World} {B mb : Nat} {win room : Int} {L : List Sp} (h : St w B mb win room L) (h1 : w'.heap[B]? = w.heap[B]?) (h2 : w'.heap[mb]? = w.heap[mb]?) : St w' B mb win room L := by
  obtain ⟨a, b, c, o, D, e1, ⟨es, clock, hb, r⟩, e3⟩ := h
  exact ⟨a, b, c, o, D, by rw [h1]; exact e1, ⟨es, clock, by rw [h2]; exact hb, r⟩, e3⟩
theorem St.below {w w' : World} {B mb : Nat} {win room : Int} {L : List Sp} (h : St w B mb win room L) (hb : Below w.heap.size w w') : St w' B mb win room L :=
  h.keep (hb.block B h.lt.1) (hb.block mb h.lt.2)
theorem box_cells {w : World} {B mb : Nat} {win room o : Int} (h : w.heap[B]? = some (sBox win room mb o)) :
    w.cell? ⟨B, 0, none⟩ = some (.int .i64 win) ∧ w.cell? ⟨B, 1, none⟩ = some (.int .i64 room) ∧ w.cell? ⟨B, 2, none⟩ = some (.map (some mb)) ∧ w.cell? ⟨B, 3, none⟩ = some (.int .i64 o) ∧ ∀ j, w.frozen? ⟨B, j, none⟩ = false :=
  ⟨(cell_of_row _ B 0 _ _ (0, 0) h).trans rfl, (cell_of_row _ B 1 _ _ (0, 0) h).trans rfl, (cell_of_row _ B 2 _ _ (0, 0) h).trans rfl, (cell_of_row _ B 3 _ _ (0, 0) h).trans rfl, fun j => by simp [World.frozen?, h]⟩
theorem box_set {w : World} {B mb : Nat} {win room o : Int} (h : w.heap[B]? = some (sBox win room mb o)) (x : Int) : (w.setCell ⟨B, 3, none⟩ (.int .i64 x)).heap[B]? = some (sBox win room mb x) := by
  have e := heap_setCell_same w B 3 _ 60 (.int .i64 x) h
  simpa using e

theorem old_any {w : World} {B : Nat} {win : Int} (hc : w.cell? ⟨B, 0, none⟩ = some (.int .i64 win)) {made now : Int} (h0 : 0 ≤ made) (h1 : made ≤ 9223372036854775807) (h2 : 0 ≤ now) (h3 : now ≤ 9223372036854775807) :
    Calls Try.prog 21 #[.pointer (some ⟨B, 0, none⟩), .int .i64 made, .int .i64 now] w fun e w' => e = .returned (.bool (decide (win < now - made))) ∧ w = w' := by
  have hw : IntKind.i64.wrap (now - made) = now - made := IntWalk.i64_in _ (by omega)
  clear h0 h1 h2 h3
  go_enter Try.func21, Try.ntmps21
  go_wp2_with fail
  go_ret
  exact ⟨rfl, rfl⟩
/-- The store while its map is gone through. -/
structure Going (w0 : World) (B mb r : Nat) (win room now : Int) (L : List Sp) (wr : World) (left : Lit → Bool) (cnt : Nat) : Prop where
  but : Bt B mb w0 wr
  inner : ∃ (o : Int) (D : DataW Value), wr.heap[B]? = some (sBox win room mb o) ∧ wr.ranges Try.prog 29 (plainElem Try.prog 3) mb r L.length D left cnt ∧ SaysL D (goingS win now left L) ∧ Bound win now left L o ∧ 0 ≤ o ∧ o ≤ 9223372036854775807
set_option maxRecDepth 20000 in
set_option maxHeartbeats 2000000 in
theorem forget_any {w : World} {B mb : Nat} {win room : Int} {L : List Sp} (h : St w B mb win room L) {now : Int} (h0 : 0 ≤ now) (h1 : now ≤ 9223372036854775807) :
    Calls Try.prog 22 #[.pointer (some ⟨B, 0, none⟩), .int .i64 now] w fun e w' => e = .returned (.tuple #[]) ∧ St w' B mb win room (youngS win now L) ∧ Bt B mb w w' := by
  obtain ⟨o, D, hbox, hmap, hsay, hlow, ho0, ho1⟩ := h.inner
  obtain ⟨c0, c1, c2, c3, cf⟩ := box_cells hbox
  have hold := old_any c0 ho0 ho1 h0 h1
  by_cases hno : win < now - o
  · rw [decide_eq_true hno] at hold
    have hlt := h.lt
    have e1 : (w.setCell ⟨B, 3, none⟩ (.int .i64 9223372036854775807)).heap.size = w.heap.size := by simp [World.setCell]
    have hbox1 := Lib.hid (box_set hbox 9223372036854775807)
    have hmap1 := hmap.kept (grown_set w B 3 (.int .i64 9223372036854775807)) (by intro e; cases e; exact h.ne rfl)
    have HS := Lib.hid hsay
    have HK := Lib.hid h
    have HL := Lib.hid hlow
    have hf := cf 3
    have hc2 : (w.setCell ⟨B, 3, none⟩ (.int .i64 9223372036854775807)).cell? ⟨B, 2, none⟩ = some (.map (some mb)) := (box_cells hbox1.out).2.2.1
    clear hsay hlow hno cf
    go_enter Try.func22, Try.ntmps22
    go_wp2_with (first
      | (go_at_call 21; refine hold.mono ?_; rintro e w' ⟨rfl, rfl⟩)
      | (at_range; refine wpList_range_own _ rfl _ 58 rfl 29 3 keyT Try.underlying58 _ mb L.length D rfl hmap1 ?_; intro w0 hrg0 hg0 hs0)
      | go_in)
    go_frame
    rw [e1] at hrg0 hs0 ⊢
    go_loopw [4] (fun _ wr => ∃ left cnt, Going w B mb w.heap.size win room now L wr left cnt) (fun _ wr => wr.rangeLeft mb w.heap.size)
    case atStart =>
      refine ⟨_, _, (Bt.set w B mb 3 _).trans ⟨hg0.os, hg0.tape, hg0.output, hg0.size, fun k hk _ _ => hg0.block k hk (by simp)⟩, _, D, ?_, hrg0, ?_, Bound.start HS.out HK.out.ok _, (by decide : (0 : Int) ≤ 9223372036854775807), Int.le_refl _⟩
      · rw [hg0.block B (by rw [e1]; exact hlt.1) (by simp)]; exact hbox1.out
      · rw [going_start HS.out HK.out.ok]; exact HS.out
    case round =>
      clear hrg0 hg0 hs0 hmap1 hbox1 hc2 hmap hbox c0 c1 c2 c3 hold hf
      obtain ⟨left, cnt, hG⟩ := hrel
      obtain ⟨o', D', hbox', hrg, hsay', hbd, ho0', ho1'⟩ := hG.inner
      have HB := Lib.hid hG.but
      have HD := Lib.hid hbd
      have HS' := Lib.hid hsay'
      clear hG hsay' hbd HS HL
      go_wp2_with (first
        | (at_next; refine wpList_next_ranges_ii _ rfl _ rfl 29 3 .i64 .i64 keyT Try.underlying29 Try.underlying3 mb w.heap.size L.length _ _ _ rfl hrg ?_ ?_)
        | go_in)
      · intro hc0 hl0
        have hs := HS'.out
        rw [going_end hl0] at hs
        go_wp2
        go_end0
        refine ⟨rfl, ⟨HK.out.win0, HK.out.ok.filter _, HK.out.ne, o', D', hbox', ?_, hs, HD.out.stop hl0, ho0', ho1'⟩, HB.out⟩
        have := own_tight hrg.owns
        rw [hs.size] at this
        exact this
      · intro x c w1 cnt1 hwx hwc hlx hat hrg1 hlt1 hg1 hs1 hen
        have hm := going_mem HS'.out (i64_of hwx) hat
        have hmL : (x, c) ∈ L := (List.mem_filter.1 hm).1
        have hcb := HK.out.ok.made _ hmL
        have hbox1 : w1.heap[B]? = some (sBox win room mb o') := by
          rw [hg1.block B (by have := HB.out.size; have := hlt.1; omega) (by intro e; cases e; have := hlt.1; omega)]; exact hbox'
        have HB1 := Lib.hid (HB.out.grown0 hg1 (Nat.le_refl _))
        obtain ⟨d0, d1, d2, d3, df⟩ := box_cells hbox1
        have hold := old_any d0 hcb.1 hcb.2.1 h0 h1
        clear hg1 hs1 hm
        by_cases hol : win < now - c
        · have hob : oldB win now (x, c) = true := decide_eq_true hol
          rw [decide_eq_true hol] at hold
          have HBD := Lib.hid (HD.out.old HK.out.ok hmL hob)
          have HGO := Lib.hid (going_old (left := left) HK.out.ok hmL hob)
          have HSD := Lib.hid (HS'.out.del (hrg.owns.tidy keyT) (HK.out.ok.filter _) (List.mem_filter.2 ⟨hmL, by rw [hlx]; simp⟩))
          clear hol hob
          go_wp2_with (first
            | (go_at_call 21; refine hold.mono ?_; rintro e w' ⟨rfl, rfl⟩)
            | (at_delete; refine wpList_delete_ranges _ rfl _ _ 58 29 rfl 3 keyT Try.underlying58 _ mb w.heap.size L.length _ _ _ rfl hrg1 _ _ rfl (keyOfT hcb.2.2) ?_; intro w2 cnt2 hrg2 hle hturn; go_frame)
            | go_in)
          rw [Maps.strike_twice] at hrg2
          go_roundw
          case rel =>
            refine ⟨_, cnt2, HB1.out.trans (Bt.grown hturn.grown), o', _, ?_, hrg2, ?_, HBD.out, ho0', ho1'⟩
            · rw [hturn.grown.block B (blk_lt hbox1) (fun e => HK.out.ne (by cases e; rfl))]; exact hbox1
            · have := HSD.out; unfold goingS at this HGO; rw [HGO.out] at this; exact this
          case measure => rw [hrg2.left_eq, hrg.left_eq]; omega
        · have hob : oldB win now (x, c) = false := decide_eq_false hol
          rw [decide_eq_false hol] at hold
          have HGY := Lib.hid (going_young (left := left) HK.out.ok hmL hob)
          have HBY := Lib.hid (fun (o2 : Int) (a : o2 ≤ o') (b : o2 ≤ c) => HD.out.young (now := now) HK.out.ok hmL a b)
          have df3 := df 3
          have hcb1 := hcb.1
          have hcb2 := hcb.2.1
          clear hol hob hcb
          by_cases hmin : o' ≤ c
          · have hmn : min o' c = o' := by omega
            go_wp2_with (go_at_call 21; refine hold.mono ?_; rintro e w' ⟨rfl, rfl⟩)
            go_roundw
            case rel =>
              refine ⟨_, cnt1, HB1.out.trans (Bt.set _ _ _ _ _), o', _, ?_, hrg1.kept (grown_set w1 B 3 (.int .i64 o')) (fun e => HK.out.ne (by cases e; rfl)) (fun e => by cases e; have := hlt.1; omega), ?_, HBY.out o' (Int.le_refl _) hmin, ho0', ho1'⟩
              · exact box_set hbox1 o'
              · have := HS'.out; rw [HGY.out] at this; exact this
            case measure => rw [(hrg1.kept (grown_set w1 B 3 (.int .i64 o')) (fun e => HK.out.ne (by cases e; rfl)) (fun e => by cases e; have := hlt.1; omega)).left_eq, hrg.left_eq]; exact hlt1
          · have hmin' : c ≤ o' := by omega
            go_wp2_with (go_at_call 21; refine hold.mono ?_; rintro e w' ⟨rfl, rfl⟩)
            go_roundw
            case rel =>
              refine ⟨_, cnt1, HB1.out.trans (Bt.set _ _ _ _ _), c, _, ?_, hrg1.kept (grown_set w1 B 3 (.int .i64 c)) (fun e => HK.out.ne (by cases e; rfl)) (fun e => by cases e; have := hlt.1; omega), ?_, HBY.out c hmin' (Int.le_refl _), hcb1, hcb2⟩
              · exact box_set hbox1 c
              · have := HS'.out; rw [HGY.out] at this; exact this
            case measure => rw [(hrg1.kept (grown_set w1 B 3 (.int .i64 c)) (fun e => HK.out.ne (by cases e; rfl)) (fun e => by cases e; have := hlt.1; omega)).left_eq, hrg.left_eq]; exact hlt1
  · rw [decide_eq_false hno] at hold
    have HY := Lib.hid (young_all hlow hno)
    have HK := Lib.hid h
    clear hsay hlow hno
    go_enter Try.func22, Try.ntmps22
    go_wp2_with (go_at_call 21; refine hold.mono ?_; rintro e w' ⟨rfl, rfl⟩)
    refine bodyPost_ret (results_none rfl _ _ _) rfl ?_
    exact ⟨rfl, by rw [HY.out]; exact HK.out, Bt.refl _ _ _⟩
end Go.Proofs.Ytallpkchhkdanaa
