/- strike: the document's store. -/
import Derived.Test.YtallpkchhkdanaaStOnce
namespace Go.Proofs.Ytallpkchhkdanaa
open Go Go.RowKit

theorem own_shape2 {w : World} {base : Nat} {e : TypeId} {size : Nat} {v : Value} {n : Nat} {xs : List Value} (h : w.ownsRow base e size v n xs) : ∃ ao cap, v = .slice ao n cap := by
  rcases h.2 with ⟨rfl, h0⟩ | ⟨g, cap, cur, rfl, _⟩
  · subst h0; exact ⟨none, 0, rfl⟩
  · exact ⟨_, _, rfl⟩
theorem own_nil0 (w : World) (base : Nat) (e : TypeId) (size : Nat) : w.ownsRow base e size (.slice none 0 0) 0 [] := ⟨by simp, .inl ⟨rfl, rfl⟩⟩
/-- The document's store in block B, its row behind it. -/
structure RSt (w : World) (B : Nat) (win room : Int) (L : List Sp) : Prop where
  win0 : 0 ≤ win ∧ win ≤ 9223372036854775807
  made : ∀ p ∈ L, 0 ≤ p.2 ∧ p.2 ≤ 9223372036854775807
  inner : ∃ v, w.heap[B]? = some (.cells #[.int .i64 win, .int .i64 room, v] 36 (0, 0)) ∧ w.ownsRow (B + 1) 64 2 v L.length (sc L)
theorem RSt.lt {w : World} {B : Nat} {win room : Int} {L : List Sp} (h : RSt w B win room L) : B < w.heap.size := by
  obtain ⟨v, h1, _⟩ := h.inner; exact blk_lt h1
theorem RSt.keep {w w' : World} {B : Nat} {win room : Int} {L : List Sp} (h : RSt w B win room L) (hb : ∀ k, B ≤ k → k < w.heap.size → w'.heap[k]? = w.heap[k]?) : RSt w' B win room L := by
  obtain ⟨h1, h2, v, h3, h4⟩ := h
  exact ⟨h1, h2, v, by rw [hb B (Nat.le_refl _) (blk_lt h3)]; exact h3, own_keep h4 fun g hg => hb g (by have := (h4.lt g hg).1; omega) (h4.lt g hg).2⟩
theorem rbox_cells {w : World} {B : Nat} {win room : Int} {v : Value} (h : w.heap[B]? = some (.cells #[.int .i64 win, .int .i64 room, v] 36 (0, 0))) :
    w.cell? ⟨B, 0, none⟩ = some (.int .i64 win) ∧ w.cell? ⟨B, 1, none⟩ = some (.int .i64 room) ∧ w.cell? ⟨B, 2, none⟩ = some v ∧ ∀ j, w.frozen? ⟨B, j, none⟩ = false :=
  ⟨(cell_of_row _ B 0 _ _ (0, 0) h).trans rfl, (cell_of_row _ B 1 _ _ (0, 0) h).trans rfl, (cell_of_row _ B 2 _ _ (0, 0) h).trans rfl, fun j => by simp [World.frozen?, h]⟩
theorem rbox_set {w : World} {B : Nat} {win room : Int} {v : Value} (h : w.heap[B]? = some (.cells #[.int .i64 win, .int .i64 room, v] 36 (0, 0))) (x : Value) : (w.setCell ⟨B, 2, none⟩ x).heap[B]? = some (.cells #[.int .i64 win, .int .i64 room, x] 36 (0, 0)) := by
  have e := heap_setCell_same w B 2 _ 36 x h
  simpa using e
theorem rt_arg {w : World} {B : Nat} {n made now : Int} (h : made < 0 ∨ now < 0) : Calls Try.prog 12 #[.pointer (some ⟨B, 0, none⟩), .int .i64 n, .int .i64 made, .int .i64 now] w fun e w' => e = .returned (.int .i64 1) ∧ w = w' := by
  by_cases h1 : made < 0
  · clear h
    go_enter Try.func12, Try.ntmps12
    go_wp2_with fail
    go_ret
    exact ⟨rfl, rfl⟩
  · have h2 : now < 0 := by omega
    clear h
    go_enter Try.func12, Try.ntmps12
    go_wp2_with fail
    go_ret
    exact ⟨rfl, rfl⟩
theorem rt_old {w : World} {B : Nat} {win room : Int} {L : List Sp} (h : RSt w B win room L) {n made now : Int} (h0 : 0 ≤ made) (h1 : made ≤ 9223372036854775807) (h2 : 0 ≤ now) (h3 : now ≤ 9223372036854775807) (ho : now < made ∨ win < now - made) :
    Calls Try.prog 12 #[.pointer (some ⟨B, 0, none⟩), .int .i64 n, .int .i64 made, .int .i64 now] w fun e w' => e = .returned (.int .i64 9) ∧ w = w' := by
  obtain ⟨v, hbox, _⟩ := h.inner
  obtain ⟨c0, _, _, _⟩ := rbox_cells hbox
  have hw : IntKind.i64.wrap (now - made) = now - made := IntWalk.i64_in _ (by omega)
  clear h hbox
  have t1 : decide (made < 0) = false := decide_eq_false (by omega)
  have t2 : decide (now < 0) = false := decide_eq_false (by omega)
  by_cases hlt : now < made
  · clear ho h0 h1 h2 h3
    go_enter Try.func12, Try.ntmps12
    go_wp2_with fail
    go_ret
    exact ⟨rfl, rfl⟩
  · have t4 : decide (win < now - made) = true := decide_eq_true (by omega)
    have t3 : decide (now < made) = false := decide_eq_false hlt
    clear ho h0 h1 h2 h3 hlt
    go_enter Try.func12, Try.ntmps12
    go_wp2_with fail
    go_ret
    exact ⟨rfl, rfl⟩
theorem bl_dr {b : Nat} {w0 w : World} (h : Below b w0 w) : ∀ n, Below b w0 (w.drewN n)
  | 0 => h
  | n + 1 => (bl_dr h n).drew
theorem set_other {w : World} {B k : Nat} (i : Nat) (v : Value) (h : k ≠ B) : (w.setCell ⟨B, i, none⟩ v).heap[k]? = w.heap[k]? := Below.heap_setCell _ _ _ _ h
theorem young_take {win now : Int} {L : List Sp} {k : Nat} (h : k < L.length) : youngS win now (L.take (k + 1)) = youngS win now (L.take k) ++ (if oldB win now (L.getD k (0, 0)) = true then [] else [L.getD k (0, 0)]) := by
  have e : L.getD k (0, 0) = L[k] := by simp [h]
  unfold youngS
  rw [List.take_succ_eq_append_getElem h, List.filter_append, e]
  congr 1
  cases ho : oldB win now L[k] <;> simp [ho]
theorem mem_getD {L : List Sp} {k : Nat} (h : k < L.length) : L.getD k (0, 0) ∈ L := by
  have : L.getD k (0, 0) = L[k] := by simp [h]
  rw [this]; exact List.getElem_mem h
theorem one_sp (w : World) (f t : Int) (T : TypeId) : Rs (w.alloc (.cells #[.int .i64 f, .int .i64 t] T)) (.slice (some ⟨w.heap.size, 0, none⟩) 1 1) [(f, t)] := by
  refine ⟨some ⟨w.heap.size, 0, none⟩, 1, rfl, Nat.le_refl _, by simp [maxLen], (fun h => by cases h), fun a ha j hj => ?_⟩
  cases ha
  obtain rfl : j = 0 := by simp at hj; omega
  simp [go_sem, Addr.add]
/-- Behind the copying. -/
structure Cpd (w : World) (B : Nat) (L : List Sp) (win now : Int) (k : Nat) (v : Value) (wr : World) : Prop where
  own : wr.ownsRow w.heap.size 64 2 v (youngS win now (L.take k)).length (sc (youngS win now (L.take k)))
  bel : Below w.heap.size w wr
/-- Behind the document's Try. -/
def RP (w : World) (B : Nat) (win room : Int) (L : List Sp) (n made now : Int) (e : Ending) (w' : World) : Prop := e = .returned (.int .i64 (tryE win room L n made now)) ∧ RSt w' B win room (tryL win room L n made now) ∧ Below B w w'
theorem RP.of {w w' : World} {B : Nat} {win room : Int} {L M : List Sp} {n made now E : Int} {e : Ending} (h : tryE win room L n made now = E ∧ tryL win room L n made now = M) (he : e = .returned (.int .i64 E)) (hs : RSt w' B win room M) (hb : Below B w w') : RP w B win room L n made now e w' := by
  unfold RP
  rw [h.1, h.2]
  exact ⟨he, hs, hb⟩
theorem tr_twice {win room : Int} {L Y : List Sp} {n made now : Int} (h1 : ¬ (made < 0 ∨ now < 0)) (h2 : ¬ (now < made ∨ win < now - made)) (hY : youngS win now L = Y) (hk : n ∈ keysS Y) : tryE win room L n made now = 10 ∧ tryL win room L n made now = Y := by
  unfold tryE tryL
  rw [if_neg h1, if_neg h1, if_neg h2, if_neg h2, hY, if_pos hk, if_pos hk]
  exact ⟨rfl, rfl⟩
set_option maxRecDepth 20000 in
set_option maxHeartbeats 4000000 in
theorem rt_in {w : World} {B : Nat} {win room : Int} {L : List Sp} (h : RSt w B win room L) {n made now : Int} (h0 : 0 ≤ made) (h1 : made ≤ 9223372036854775807) (h2 : 0 ≤ now) (h3 : now ≤ 9223372036854775807) (ho : ¬ (now < made ∨ win < now - made)) (hl : L.length ≤ 1000) :
    Calls Try.prog 12 #[.pointer (some ⟨B, 0, none⟩), .int .i64 n, .int .i64 made, .int .i64 now] w fun e w' => RP w B win room L n made now e w' := by
  obtain ⟨v, hbox, hown⟩ := h.inner
  obtain ⟨c0, c1, c2, cf⟩ := rbox_cells hbox
  have hr := (Rs.of_own hown).1
  have hBlt := h.lt
  have hw : IntKind.i64.wrap (now - made) = now - made := IntWalk.i64_in _ (by omega)
  have t1 : decide (made < 0) = false := decide_eq_false (by omega)
  have t2 : decide (now < 0) = false := decide_eq_false (by omega)
  have t3 : decide (now < made) = false := decide_eq_false (by omega)
  have t4 : decide (win < now - made) = false := decide_eq_false (by omega)
  have hne : ¬ (made < 0 ∨ now < 0) := by omega
  have hl' : (L.length : Int) ≤ 1000 := by omega
  have hyl : (youngS win now L).length ≤ L.length := List.length_filter_le _ _
  have HO1 := Lib.hid ho
  have HO2' := Lib.hid hne
  have HK := Lib.hid h
  have HR := Lib.hid hr
  have HH := Lib.hid (And.intro h0 (And.intro h1 (And.intro h2 h3)))
  obtain ⟨ao, cap, rfl⟩ := own_shape2 hown
  clear ho hne h hr h0 h1 h2 h3 hown
  go_enter Try.func12, Try.ntmps12
  go_wp2_with fail
  go_loopw [9, 10] (fun lv i wr => ∃ k : Nat, k ≤ L.length ∧ i = .int .i64 k ∧ Cpd w B L win now k lv wr) (fun _ i _ => L.length - (intOf i).toNat)
  case atStart => exact ⟨0, by omega, rfl, by simpa [youngS, sc] using own_nil0 w w.heap.size _ 2, Below.refl _ _⟩
  case round =>
    obtain ⟨k, hk, rfl, hC⟩ := hrel
    have hk' : (k : Int) ≤ (L.length : Int) := by omega
    have hbox1 : wr.heap[B]? = some (.cells #[.int .i64 win, .int .i64 room, .slice ao L.length cap] 36 (0, 0)) := by rw [hC.bel.block B hBlt]; exact hbox
    obtain ⟨d0, d1, d2, df⟩ := rbox_cells hbox1
    have HB1 := Lib.hid hbox1
    obtain ⟨aq, cq, hlv⟩ := own_shape2 hC.own
    subst hlv
    have HC := Lib.hid hC
    have hcs := (HR.out.below hC.bel).cases
    clear hC c0 c1 c2 cf hbox1
    by_cases hlt : k < L.length
    · have hlt' : (k : Int) < (L.length : Int) := by omega
      rcases hcs with ⟨h0, _⟩ | ⟨b, off, cap2, hv, _, _, _, _, h5⟩
      · rw [h0] at hlt; simp at hlt
      simp only [Value.slice.injEq, true_and] at hv
      obtain ⟨rfl, rfl⟩ := hv
      obtain ⟨x1, x2⟩ := h5 k hlt
      have HT := Lib.hid (young_take (win := win) (now := now) hlt)
      have hmd := HK.out.made _ (mem_getD hlt)
      have hwk : IntKind.i64.wrap (now - (L.getD k (0, 0)).2) = now - (L.getD k (0, 0)).2 := IntWalk.i64_in _ (by have := HH.out; omega)
      clear h5
      obtain ⟨p, hp⟩ : ∃ p, L.getD k (0, 0) = p := ⟨_, rfl⟩
      rw [hp] at x1 x2 HT hmd hwk
      clear hp
      obtain ⟨x, m⟩ := p
      dsimp only at x1 x2 hmd hwk
      by_cases hol : win < now - m
      · have t5 : decide (now - m ≤ win) = false := decide_eq_false (by omega)
        have HO : Hid (oldB win now (x, m) = true) := Lib.hid (decide_eq_true hol)
        clear hol hmd
        go_wp2_with fail
        go_quiet (fail)
        go_wp2_with fail
        go_roundw
        case rel => exact ⟨k + 1, by omega, by go_num, by rw [HT.out, if_pos HO.out, List.append_nil]; exact HC.out.own, bl_dr HC.out.bel _⟩
        case measure => simp [intOf]; omega
      · have t5 : decide (now - m ≤ win) = true := decide_eq_true (by omega)
        have HO : Hid (¬ oldB win now (x, m) = true) := Lib.hid (by unfold oldB; simpa using hol)
        have hyk : (youngS win now (L.take k)).length ≤ k := Nat.le_trans (List.length_filter_le _ _) (by simp; omega)
        clear hol hmd
        go_wp2_with fail
        go_quiet (fail)
        go_wp2_with (at_builtin; refine wpList_append_spans 64 (.tmp 55) (.tmp 63) 34 rfl rfl infoH Try.underlying34 w.heap.size _ _ (youngS win now (L.take k)) rfl (own_alloc HC.out.own _) _ [(x, m)] rfl (one_sp _ _ _ _) (by simp; omega) (by have := HC.out.bel.size; simp; omega) ?_; intro v5 w5 hown5 hb5 _)
        go_roundw
        case rel =>
          refine ⟨k + 1, by omega, by go_num, ?_, ((bl_dr HC.out.bel nq).alloc (by have := HC.out.bel.size; simp; omega) _).trans hb5⟩
          rw [HT.out, if_neg HO.out, List.length_append]; exact hown5
        case measure => simp [intOf]; omega
    · obtain rfl : k = L.length := by omega
      have hown : wr.ownsRow w.heap.size 64 2 (.slice aq (youngS win now L).length cq) (youngS win now L).length (sc (youngS win now L)) := by have := HC.out.own; rw [List.take_length] at this; exact this
      have hY := Lib.hid (List.take_length (l := L))
      have HBel := Lib.hid HC.out.bel
      have hf2 := df 2
      have hq : w.heap.size ≤ wr.heap.size := HBel.out.size
      have hmd : ∀ p ∈ youngS win now L, 0 ≤ p.2 ∧ p.2 ≤ 9223372036854775807 := fun p hp => HK.out.made p (List.mem_filter.1 hp).1
      have hown2 : (wr.setCell ⟨B, 2, none⟩ (.slice aq (youngS win now L).length cq)).ownsRow w.heap.size 64 2 (.slice aq (youngS win now L).length cq) (youngS win now L).length (sc (youngS win now L)) :=
        own_keep hown fun g hg => set_other _ _ (by have := (hown.lt g hg).1; omega)
      have hbx2 := rbox_set HB1.out (.slice aq (youngS win now L).length cq)
      have HR2 : Hid (RSt (wr.setCell ⟨B, 2, none⟩ (.slice aq (youngS win now L).length cq)) B win room (youngS win now L)) := Lib.hid ⟨HK.out.win0, hmd, _, hbx2, own_mono hown2 (by omega)⟩
      have HB2 : Hid (Below B w (wr.setCell ⟨B, 2, none⟩ (.slice aq (youngS win now L).length cq))) := Lib.hid ((show Below B w wr from HBel.out.mono (by omega)).setCell (Nat.le_refl B) _)
      obtain ⟨e0, e1, e2, ef⟩ := rbox_cells hbx2
      have HRd := Lib.hid (Rs.of_own hown2).1
      have hY2 : (List.take L.length L) = L := List.take_length
      have hef2 := ef 2
      have HO2 := Lib.hid hown2
      have HX2 := Lib.hid hbx2
      have hsz2 : B < (wr.setCell ⟨B, 2, none⟩ (.slice aq (youngS win now L).length cq)).heap.size := by simp [World.setCell]; omega
      clear hcs hown hmd hown2 hbx2 HC ef df
      rw [hY2]
      clear hY2 hY
      generalize hYe : youngS win now L = Y at *
      have HYe := Lib.hid hYe
      clear hYe
      have hyl' : (Y.length : Int) ≤ 1000 := by omega
      obtain ⟨W2, hW2⟩ : ∃ W2, W2 = (wr.setCell ⟨B, 2, none⟩ (.slice aq Y.length cq)) := ⟨_, rfl⟩
      rw [← hW2] at HX2 HR2 HB2 HRd e0 e1 e2 hef2 HO2 hsz2
      go_wp2_with fail
      rw [← hW2]
      clear hW2
      go_loopw [11] (fun i w' => ∃ j : Nat, j ≤ Y.length ∧ i = .int .i64 j ∧ (∀ p ∈ Y.take j, p.1 ≠ n) ∧ W2 = w') (fun i _ => Y.length - (intOf i).toNat)
      case atStart => exact ⟨0, by omega, rfl, (fun p hp => by simp at hp), rfl⟩
      case round =>
        obtain ⟨q, hq', rfl, hno, rfl⟩ := hrel
        have hq2 : (q : Int) ≤ (Y.length : Int) := by omega
        by_cases hlt2 : q < Y.length
        · have hlt2' : (q : Int) < (Y.length : Int) := by omega
          rcases HRd.out.cases with ⟨h0, _⟩ | ⟨b, off, cap2, hv, _, _, _, _, h5⟩
          · rw [h0] at hlt2; simp at hlt2
          simp only [Value.slice.injEq, true_and] at hv
          obtain ⟨rfl, rfl⟩ := hv
          obtain ⟨x1, _⟩ := h5 q hlt2
          have HM := Lib.hid (mem_getD hlt2)
          have e : Y.getD q (0, 0) = Y[q] := by simp [hlt2]
          have HS := Lib.hid (fun (hx : (Y.getD q (0, 0)).1 ≠ n) => (show ∀ p ∈ Y.take (q + 1), p.1 ≠ n by
            intro p hp
            rw [List.take_succ_eq_append_getElem hlt2, List.mem_append, List.mem_singleton] at hp
            rcases hp with hp | hp
            · exact hno p hp
            · rw [hp, ← e]; exact hx))
          clear h5 hno e
          generalize Y.getD q (0, 0) = p at x1 HM HS
          obtain ⟨x, m⟩ := p
          dsimp only at x1 HS
          by_cases hxn : x = n
          · subst hxn
            have HKM : Hid (x ∈ keysS Y) := Lib.hid (mem_keysS.2 ⟨_, HM.out, rfl⟩)
            go_wp2_with fail
            go_ret
            exact RP.of (tr_twice HO2'.out HO1.out HYe.out HKM.out) rfl HR2.out HB2.out
          · have hxn' : (x == n) = false := beq_eq_false_iff_ne.2 hxn
            have HS2 := Lib.hid (HS.out hxn)
            clear hxn HS
            go_wp2_with fail
            go_roundw
            case rel => exact ⟨q + 1, by omega, by go_num, HS2.out, trivial⟩
            case measure => simp [intOf]; omega
        · obtain rfl : q = Y.length := by omega
          rw [List.take_length] at hno
          have HNK : Hid (¬ n ∈ keysS Y) := Lib.hid (fun hm => by obtain ⟨p, hp, e⟩ := mem_keysS.1 hm; exact hno p hp e)
          clear hno
          by_cases hf : room ≤ (Y.length : Int)
          · have HF := Lib.hid hf
            have t6 : decide (room ≤ (Y.length : Int)) = true := decide_eq_true hf
            clear hf
            go_wp2_with fail
            go_ret
            exact RP.of (tr_full HO2'.out HO1.out HYe.out HNK.out HF.out) rfl HR2.out HB2.out
          · have HF := Lib.hid hf
            have t6 : decide (room ≤ (Y.length : Int)) = false := decide_eq_false hf
            clear hf
            go_wp2_with (at_builtin; refine wpList_append_spans 64 (.tmp 93) (.tmp 97) 34 rfl rfl infoH Try.underlying34 (B + 1) _ _ Y rfl (own_mono (own_alloc HO2.out _) (by omega)) _ [(n, made)] rfl (one_sp _ _ _ _) (by simp; omega) (by simp; omega) ?_; intro v5 w5 hown5 hb5 hg5; obtain ⟨a5, c5, hv5⟩ := own_shape2 hown5; subst hv5; have hbx5 : w5.heap[B]? = some (.cells #[.int .i64 win, .int .i64 room, .slice aq Y.length cq] 36 (0, 0)) := (hb5.block B (by omega)).trans (((below_alloc _ _).block B hsz2).trans HX2.out); have hc5 := (rbox_cells hbx5).2.2.2 2; have hd5 := (rbox_cells hbx5).2.2.1)
            go_ret
            have hne : ∀ g, (Value.slice a5 (Y.length + 1) c5).ownBlock = some g → g ≠ B := fun g hg => by have := (hown5.lt g hg).1; omega
            refine RP.of (tr_ok HO2'.out HO1.out HYe.out HNK.out (by have := HF.out; omega)) rfl ?_ ?_
            · refine ⟨HK.out.win0, fun p hp => ?_, _, rbox_set hbx5 _, ?_⟩
              · rcases List.mem_append.1 hp with hp | hp
                · exact HR2.out.made p hp
                · simp at hp; subst hp; exact ⟨HH.out.1, HH.out.2.1⟩
              · rw [List.length_append]
                exact own_keep hown5 fun g hg => set_other _ _ (hne g hg)
            · have h6 := HB2.out.trans (((below_alloc W2 _).mono (Nat.le_of_lt hsz2)).trans (hb5.mono (Nat.le_succ _)))
              exact h6.setCell (Nat.le_refl _) _
end Go.Proofs.Ytallpkchhkdanaa
