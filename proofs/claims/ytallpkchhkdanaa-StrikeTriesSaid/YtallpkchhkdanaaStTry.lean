/- strike: the program's Try, Many, New. -/
import Derived.Test.YtallpkchhkdanaaStForget
import Derived.BigQuiet
import Derived.Deep.QuietTactic
namespace Go.Proofs.Ytallpkchhkdanaa
open Go Go.RowKit
open Go.Maps (Keyed)

def i64p (n : Int) : Prop := -9223372036854775808 ≤ n ∧ n ≤ 9223372036854775807
theorem try_arg {w : World} {p : Option Addr} {n made now : Int} (h : p = none ∨ made < 0 ∨ now < 0) : Calls Try.prog 11 #[.pointer p, .int .i64 n, .int .i64 made, .int .i64 now] w fun e w' => e = .returned (.int .i64 1) ∧ w = w' := by
  cases p with
  | none =>
    clear h
    go_enter Try.func11, Try.ntmps11
    go_wp2_with fail
    go_ret
    exact ⟨rfl, rfl⟩
  | some a =>
    by_cases h1 : made < 0
    · clear h
      go_enter Try.func11, Try.ntmps11
      go_wp2_with fail
      go_ret
      exact ⟨rfl, rfl⟩
    · have h2 : now < 0 := by rcases h with h | h | h; cases h; exact absurd h h1; exact h
      clear h
      go_enter Try.func11, Try.ntmps11
      go_wp2_with fail
      go_ret
      exact ⟨rfl, rfl⟩
theorem try_old {w : World} {B mb : Nat} {win room : Int} {L : List Sp} (h : St w B mb win room L) {n made now : Int} (h0 : 0 ≤ made) (h1 : made ≤ 9223372036854775807) (h2 : 0 ≤ now) (h3 : now ≤ 9223372036854775807) (ho : now < made ∨ win < now - made) :
    Calls Try.prog 11 #[.pointer (some ⟨B, 0, none⟩), .int .i64 n, .int .i64 made, .int .i64 now] w fun e w' => e = .returned (.int .i64 9) ∧ w = w' := by
  obtain ⟨o, D, hbox, _⟩ := h.inner
  have hold := old_any (box_cells hbox).1 h0 h1 h2 h3
  clear h hbox
  have t1 : decide (made < 0) = false := decide_eq_false (by omega)
  have t2 : decide (now < 0) = false := decide_eq_false (by omega)
  by_cases hlt : now < made
  · clear ho h0 h1 h2 h3
    go_enter Try.func11, Try.ntmps11
    go_wp2_with fail
    go_ret
    exact ⟨rfl, rfl⟩
  · rw [decide_eq_true (by omega)] at hold
    have t3 : decide (now < made) = false := decide_eq_false hlt
    clear ho h0 h1 h2 h3 hlt
    go_enter Try.func11, Try.ntmps11
    go_wp2_with (go_at_call 21; refine hold.mono ?_; rintro e w' ⟨rfl, rfl⟩)
    go_ret
    exact ⟨rfl, rfl⟩
theorem map_drewN {w : World} {mb c : Nat} {D : DataW Value} (h : MapT w mb c D) (k : Nat) : MapT (w.drewN k) mb c D := h
set_option maxRecDepth 20000 in
set_option maxHeartbeats 2000000 in
theorem try_in {w : World} {B mb : Nat} {win room : Int} {L : List Sp} (h : St w B mb win room L) {n made now : Int} (hn : i64 n) (h0 : 0 ≤ made) (h1 : made ≤ 9223372036854775807) (h2 : 0 ≤ now) (h3 : now ≤ 9223372036854775807) (ho : ¬ (now < made ∨ win < now - made)) (hl : L.length ≤ 100000) :
    Calls Try.prog 11 #[.pointer (some ⟨B, 0, none⟩), .int .i64 n, .int .i64 made, .int .i64 now] w fun e w' => e = .returned (.int .i64 (tryE win room L n made now)) ∧ St w' B mb win room (tryL win room L n made now) ∧ Bt B mb w w' := by
  have hold : Calls Try.prog 21 #[.pointer (some ⟨B, 0, none⟩), .int .i64 made, .int .i64 now] w fun e w' => e = .returned (.bool (decide (win < now - made))) ∧ w = w' := by
    obtain ⟨o, D, hbox, _⟩ := h.inner
    exact old_any (box_cells hbox).1 h0 h1 h2 h3
  rw [decide_eq_false (by omega)] at hold
  have t1 : decide (made < 0) = false := decide_eq_false (by omega)
  have t2 : decide (now < 0) = false := decide_eq_false (by omega)
  have t3 : decide (now < made) = false := decide_eq_false (by omega)
  have hfg := forget_any h h2 h3
  have hyl : (youngS win now L).length ≤ L.length := List.length_filter_le _ _
  unfold tryE tryL
  have hne : ¬ (made < 0 ∨ now < 0) := by omega
  rw [if_neg ho, if_neg ho, if_neg hne, if_neg hne]
  clear hne
  clear h ho
  generalize youngS win now L = Y at *
  have HH := Lib.hid (And.intro h0 h1)
  clear h0 h1 h2 h3
  by_cases hk : n ∈ keysS Y
  · rw [if_pos hk, if_pos hk]
    go_enter Try.func11, Try.ntmps11
    go_wp2_with (go_at_call 21; refine hold.mono ?_; rintro e w' ⟨rfl, rfl⟩)
    refine hfg.mono ?_
    rintro e w1 ⟨rfl, hS, hB⟩
    obtain ⟨o, D, hbox, hmap, hsay, hlow, ho0, ho1⟩ := hS.inner
    obtain ⟨c0, c1, c2, c3, cf⟩ := box_cells hbox
    have HB := Lib.hid hB
    have HK := Lib.hid hS
    have hhas := hsay.has n hn
    rw [decide_eq_true hk] at hhas
    clear hfg hB hS hlow hsay hold hk
    go_wp2_with (first
      | (at_lookup; refine wpList_lookup_own_ok_int _ rfl _ _ 58 rfl 29 3 .i64 keyT Try.underlying58 Try.underlying3 (zero3 _) mb Y.length D rfl hmap _ _ rfl (keyOfT hn) ?_; intro cc hat hwc)
      | go_in)
    go_ret
    exact ⟨rfl, HK.out, HB.out⟩
  · rw [if_neg hk, if_neg hk]
    by_cases hf : room ≤ (Y.length : Int)
    · rw [if_pos hf, if_pos hf]
      have t4 : decide (room ≤ (Y.length : Int)) = true := decide_eq_true hf
      clear hf
      go_enter Try.func11, Try.ntmps11
      go_wp2_with (go_at_call 21; refine hold.mono ?_; rintro e w' ⟨rfl, rfl⟩)
      refine hfg.mono ?_
      rintro e w1 ⟨rfl, hS, hB⟩
      obtain ⟨o, D, hbox, hmap, hsay, hlow, ho0, ho1⟩ := hS.inner
      obtain ⟨c0, c1, c2, c3, cf⟩ := box_cells hbox
      have HB := Lib.hid hB
      have HK := Lib.hid hS
      have hhas := hsay.has n hn
      rw [decide_eq_false hk] at hhas
      have hlen : ∀ k ty, (Builtin.len_ #[58] ty #[.map (some mb)]).run Try.prog (w1.drewN k) = .ok (.int .i64 Y.length) (w1.drewN k) := fun k ty => by
        rw [← hsay.size]; exact (map_drewN hmap k).len Try.underlying58 ty
      clear hfg hB hS hlow hsay hold hk
      go_wp2_with (first
        | (at_lookup; refine wpList_lookup_own_ok_int _ rfl _ _ 58 rfl 29 3 .i64 keyT Try.underlying58 Try.underlying3 (zero3 _) mb Y.length D rfl hmap _ _ rfl (keyOfT hn) ?_; intro cc hat hwc)
        | go_in)
      go_quiet (fail)
      go_wp2_with fail
      go_ret
      exact ⟨rfl, HK.out.below ⟨rfl, rfl, rfl, Nat.le_refl _, fun _ _ => rfl⟩, HB.out.trans (Bt.drewN _ _)⟩
    · rw [if_neg hf, if_neg hf]
      have t4 : decide (room ≤ (Y.length : Int)) = false := decide_eq_false hf
      clear hf
      have hwm := wf_i64 (show i64 made from ⟨by have := HH.out.1; omega, HH.out.2⟩)
      go_enter Try.func11, Try.ntmps11
      go_wp2_with (go_at_call 21; refine hold.mono ?_; rintro e w' ⟨rfl, rfl⟩)
      refine hfg.mono ?_
      rintro e w1 ⟨rfl, hS, hB⟩
      obtain ⟨o, D, hbox, hmap, hsay, hlow, ho0, ho1⟩ := hS.inner
      obtain ⟨c0, c1, c2, c3, cf⟩ := box_cells hbox
      have HB := Lib.hid hB
      have HK := Lib.hid hS
      have HL := Lib.hid hlow
      have HS := Lib.hid hsay
      have HX := Lib.hid hk
      have HO := Lib.hid (And.intro ho0 ho1)
      have hhas := hsay.has n hn
      rw [decide_eq_false hk] at hhas
      have hlen : ∀ k ty, (Builtin.len_ #[58] ty #[.map (some mb)]).run Try.prog (w1.drewN k) = .ok (.int .i64 Y.length) (w1.drewN k) := fun k ty => by
        rw [← hsay.size]; exact (map_drewN hmap k).len Try.underlying58 ty
      have hboxn : ∀ k, (w1.drewN k).heap[B]? = some (sBox win room mb o) := fun _ => hbox
      clear hfg hB hS hlow hsay hold hk ho0 ho1
      have fin : ∀ (w2 : World) (z k : Nat) (q : Int), MapT w2 mb z (D.put (.int .i64 n) (.lit (.int .i64 made))) → (w1.drewN k).grownBy w2 (some mb) → q ≤ o → q ≤ made → 0 ≤ q →
          St (w2.setCell ⟨B, 3, none⟩ (.int .i64 q)) B mb win room (Y ++ [(n, made)]) ∧ Bt B mb w (w2.setCell ⟨B, 3, none⟩ (.int .i64 q)) := by
        intro w2 z k q hm2 hg2 hq1 hq2 hq0
        have hne : B ≠ mb := HK.out.ne
        have hs2 := HS.out.put (hmap.tidy keyT) HX.out hn (c := made)
        refine ⟨⟨HK.out.win0, HK.out.ok.app HX.out HH.out.1 HH.out.2 hn, hne, q, _, box_set (o := o) ?_ q, ?_, hs2, ?_, hq0, by have := HH.out.2; omega⟩, ?_⟩
        · rw [hg2.block B (blk_lt hbox) (fun e => hne (by cases e; rfl))]; exact hbox
        · have := own_tight (hm2.kept (grown_set w2 B 3 (.int .i64 q)) (fun e => hne (by cases e; rfl)))
          rw [hs2.size] at this
          exact this
        · intro p hp
          rcases List.mem_append.1 hp with hp | hp
          · have := HL.out p hp; omega
          · simp at hp; subst hp; exact hq2
        · exact HB.out.trans ((Bt.drewN w1 k).trans ((Bt.grown hg2).trans (Bt.set _ _ _ _ _)))
      by_cases hmin : o ≤ made
      · go_wp2_with (first
          | (at_lookup; refine wpList_lookup_own_ok_int _ rfl _ _ 58 rfl 29 3 .i64 keyT Try.underlying58 Try.underlying3 (zero3 _) mb Y.length D rfl hmap _ _ rfl (keyOfT hn) ?_; intro cc hat hwc)
          | go_in)
        go_quiet (fail)
        go_wp2_with (first
          | (at_mapUpdate; refine wpList_mapUpdate_own _ rfl _ _ _ 58 rfl 29 3 keyT Try.underlying58 _ mb Y.length _ rfl (map_drewN hmap nq) (by unfold maxLen; omega) _ _ _ rfl rfl (keyOfT hn) _ [] (plainElem_int Try.underlying3 hwm) ?_; intro w2 hmap2 hg2; have hbox2 : w2.heap[B]? = some (sBox win room mb o) := (hg2.block B (blk_lt (hboxn nq)) (fun e => HK.out.ne (by cases e; rfl))).trans (hboxn nq); obtain ⟨d0, d1, d2, d3, df⟩ := box_cells hbox2; have df3 := df 3; go_frame)
          | go_in)
        go_ret
        have := fin w2 _ nq o hmap2 hg2 (Int.le_refl _) hmin HO.out.1
        exact ⟨rfl, this.1, this.2⟩
      · have hmin' : made ≤ o := by omega
        go_wp2_with (first
          | (at_lookup; refine wpList_lookup_own_ok_int _ rfl _ _ 58 rfl 29 3 .i64 keyT Try.underlying58 Try.underlying3 (zero3 _) mb Y.length D rfl hmap _ _ rfl (keyOfT hn) ?_; intro cc hat hwc)
          | go_in)
        go_quiet (fail)
        go_wp2_with (first
          | (at_mapUpdate; refine wpList_mapUpdate_own _ rfl _ _ _ 58 rfl 29 3 keyT Try.underlying58 _ mb Y.length _ rfl (map_drewN hmap nq) (by unfold maxLen; omega) _ _ _ rfl rfl (keyOfT hn) _ [] (plainElem_int Try.underlying3 hwm) ?_; intro w2 hmap2 hg2; have hbox2 : w2.heap[B]? = some (sBox win room mb o) := (hg2.block B (blk_lt (hboxn nq)) (fun e => HK.out.ne (by cases e; rfl))).trans (hboxn nq); obtain ⟨d0, d1, d2, d3, df⟩ := box_cells hbox2; have df3 := df 3; go_frame)
          | go_in)
        go_ret
        have := fin w2 _ nq made hmap2 hg2 hmin' (Int.le_refl _) HH.out.1
        exact ⟨rfl, this.1, this.2⟩
end Go.Proofs.Ytallpkchhkdanaa
