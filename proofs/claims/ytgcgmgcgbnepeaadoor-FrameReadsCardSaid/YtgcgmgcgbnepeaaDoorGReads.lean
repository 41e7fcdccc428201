/- law 6: FrameReads: what is read is as the document reads it. -/
import Derived.Test.YtgcgmgcgbnepeaaDoorGW5
import Derived.Test.YtgcgmgcgbnepeaaDoorChecked
import Derived.Deep.QuietTactic
import Derived.BigQuiet
import Derived.Outline
import Derived.Test.YtgcgmgcgbnepeaaDoorGOf
import Derived.Test.YtgcgmgcgbnepeaaDoorGRd10
import Derived.Test.YtgcgmgcgbnepeaaDoorGLt
import Derived.Test.YtgcgmgcgbnepeaaDoorJE
namespace Go.Proofs.YtgcgmgcgbnepeaaDoor
open Go Go.RowKit

set_option maxRecDepth 20000 in
set_option maxHeartbeats 400000 in
theorem same_true {w : World} {v1 v2 : Value} {zs : List Int} (h1 : Rd w v1 zs) (h2 : Rd w v2 zs) :
    Calls Tryd.prog 16 #[v1, v2] w fun e w' => e = .returned (.bool true) ∧ Below w.heap.size w w' := by
  rcases h1.cases with ⟨rfl, a1, c1, rfl, hc1⟩ | ⟨b1, o1, c1, rfl, hp, hl1, hc1, _, hcell1⟩
  · rcases h2.cases with ⟨_, a2, c2, rfl, hc2⟩ | ⟨b2, o2, c2, rfl, hp, _⟩
    · clear h1 h2
      go_enter Tryd.func16, Tryd.ntmps16
      go_wp2
      refine wp_loop_rounds 1 ?_
      rw [rounds_succ]
      go_wp2
      go_ret
      exact ⟨rfl, Below.refl _ _⟩
    · simp at hp
  · rcases h2.cases with ⟨rfl, _⟩ | ⟨b2, o2, c2, rfl, _, hl2, hc2, _, hcell2⟩
    · simp at hp
    · clear h1 h2
      obtain ⟨n, hn⟩ : ∃ n, n = zs.length := ⟨_, rfl⟩
      rw [← hn] at hp hl1 hl2 hcell1 hcell2 ⊢
      have HN := Lib.hid hn
      clear hn
      have hne : ((n : Int) != (n : Int)) = false := by simp
      go_enter Tryd.func16, Tryd.ntmps16
      go_wp2
      go_loopw [5] (fun i wr => ∃ k : Nat, k ≤ n ∧ i = .int .i64 k ∧ Below w.heap.size w wr) (fun i _ => n - (intOf i).toNat)
      case atStart => exact ⟨0, Nat.zero_le _, rfl, Below.refl _ _⟩
      case round =>
        obtain ⟨k, hk, rfl, hb⟩ := hrel
        by_cases hlt : k < n
        · have g1 : wr.cell? ⟨b1, o1 + k, none⟩ = some (.int .u8 (zs.getD k 0)) := by rw [hb.cell (cell_lt (hcell1 k hlt))]; exact hcell1 k hlt
          have g2 : wr.cell? ⟨b2, o2 + k, none⟩ = some (.int .u8 (zs.getD k 0)) := by rw [hb.cell (cell_lt (hcell2 k hlt))]; exact hcell2 k hlt
          clear hcell1 hcell2
          have hi : (k : Int) < (n : Int) := by omega
          go_wp2
          go_quiet (fail)
          go_wp2
          go_roundw
          case rel => exact ⟨k + 1, by omega, by go_num, below_drewN hb nq⟩
          case measure => simp [intOf]; omega
        · clear hcell1 hcell2
          go_wp2
          go_ret
          exact ⟨rfl, hb⟩
#print axioms same_true
end Go.Proofs.YtgcgmgcgbnepeaaDoor
namespace Go.Proofs.YtgcgmgcgbnepeaaDoor
open Go Go.RowKit

theorem wrF_len {f : Fv} (h : rightF f) : (wrF f).length ≤ 1300 := by
  obtain ⟨k, c, sp, a, d, t⟩ := f
  rcases h with ⟨rfl, h1, h2, _⟩ | ⟨rfl | rfl, _⟩ | ⟨rfl, _, hA, _⟩ | ⟨rfl, _, _, hA, hD, _⟩ | ⟨rfl, _, _, _, _, hT⟩ | ⟨rfl, hC, _, _, _, hT⟩ | ⟨rfl, hC, _⟩
  · simp [wrF] at *; omega
  · simp [wrF]
  · simp [wrF]
  · have := wrAck_len sp
    have hk := ((ack_iff sp).2 hA).2.1
    simp [wrF]; omega
  · have := enc_len a
    have := enc_len (d.length : Int)
    simp [wrF] at *; omega
  · simp [wrF, gbig_len]
  · have := enc_len c
    simp [wrF, gbig_len]; omega
  · have := enc_len c
    simp [wrF]; omega
/-- What Write tells. -/
def WPost (w : World) (l : List Fe) (e : Ending) (w' : World) : Prop :=
  ∃ u zs n, e = .returned (.tuple #[u, .int .i64 n]) ∧ (Ra w.heap.size w' u zs ∧ Plain u) ∧ Below w.heap.size w w' ∧
    ((¬ mayP l ∧ zs = [] ∧ n = 1) ∨ (mayP l ∧ 1200 < (wrAll (l.map Fe.f)).length ∧ zs = [] ∧ n = 4) ∨ (mayP l ∧ (wrAll (l.map Fe.f)).length ≤ 1200 ∧ zs = wrAll (l.map Fe.f) ∧ n = 0))
theorem wpost_no {w w' : World} {l : List Fe} {n : Int} (hb : Below w.heap.size w w') (h : (¬ mayP l ∧ n = 1) ∨ (mayP l ∧ 1200 < (wrAll (l.map Fe.f)).length ∧ n = 4)) : WPost w l (.returned (.tuple #[.slice none 0 0, .int .i64 n])) w' := by
  refine ⟨_, [], n, rfl, ⟨⟨Rd.nil _, fun _ _ _ h => by cases h⟩, .inl rfl⟩, hb, ?_⟩
  rcases h with ⟨h, e⟩ | ⟨h, h2, e⟩
  · exact .inl ⟨h, rfl, e⟩
  · exact .inr (.inl ⟨h, h2, rfl, e⟩)
theorem wr_step {l : List Fe} {k : Nat} {e : Fe} (he : l[k]? = some e) : wrAll ((l.drop k).map Fe.f) = wrF e.f ++ wrAll ((l.drop (k + 1)).map Fe.f) := by
  obtain ⟨hk, h⟩ := List.getElem?_eq_some_iff.1 he
  rw [List.drop_eq_getElem_cons hk, h]
  rfl
set_option maxRecDepth 20000 in
set_option maxHeartbeats 4000000 in
theorem gwrite_any {w : World} {v : Value} {l : List Fe} (h : Fl w v l) (hl : l.length ≤ 2000) (ht : Tab w) (_hw : 1 < w.heap.size) : Calls Tryd.prog 13 #[v] w (WPost w l) := by
  have HF := Lib.hid h
  have HT := Lib.hid ht
  have hM := may_any h hl
  have hl' : (l.length : Int) ≤ 2000 := by omega
  obtain ⟨ao, cap, rfl⟩ := h.shape
  clear h ht
  by_cases hp : mayP l
  · have hM' : Calls Tryd.prog 26 #[.slice ao l.length cap] w fun e w' => e = .returned (.bool true) ∧ Below w.heap.size w w' := hM.mono fun e w' ⟨b, he, hi, hb⟩ => ⟨by rw [he, hi.2 hp], hb⟩
    have HP := Lib.hid hp
    clear hM hp
    go_enter Tryd.func13, Tryd.ntmps13
    go_wp2_with (go_at_call 26; refine hM'.mono ?_; rintro e w1 ⟨rfl, hb1⟩)
    have HB1 := Lib.hid hb1
    clear hM' hb1
    go_loopw [4, 12] (fun u i wr => ∃ (k : Nat) (P : List Int), i = .int .i64 k ∧ k ≤ l.length ∧ wr.ownsRow w.heap.size 5 1 u P.length (by8 P) ∧ Hid (P ++ wrAll ((l.drop k).map Fe.f) = wrAll (l.map Fe.f)) ∧ P.length ≤ 1200 ∧ Hid (Byt P) ∧ Below w.heap.size w wr) (fun _ i _ => l.length - (intOf i).toNat)
    case atStart => exact ⟨0, [], rfl, by omega, World.ownsRow_nil _ _ _ _, Lib.hid rfl, by simp, Lib.hid Byt.nil, HB1.out⟩
    case round =>
      obtain ⟨k, P, rfl, hk, ho, hE, hPl, hPb, hbel⟩ := hrel
      have hk' : (k : Int) ≤ (l.length : Int) := by omega
      have HO := Lib.hid ho
      obtain ⟨ua, uc, rfl⟩ := own_shape ho
      clear ho
      by_cases hlt : k < l.length
      · have hlt' : (k : Int) < (l.length : Int) := by omega
        have hsz := hbel.size
        have HB := Lib.hid hbel
        obtain ⟨b, off, cap', e0, hb, hat⟩ := (HF.out.below hbel).at (by omega)
        simp only [Value.slice.injEq] at e0
        obtain ⟨rfl, _, rfl⟩ := e0
        obtain ⟨e, he⟩ : ∃ e, l[k]? = some e := ⟨_, List.getElem?_eq_getElem hlt⟩
        have hst := wr_step he
        have hrt := (right_iff _).1 (((stand_iff l).1 HP.out.2 k hlt) e he).1
        have hfr := HF.out.rd e (List.mem_of_getElem? he)
        obtain ⟨x0, x1, x2, x3, x4, x5⟩ := hat k e he
        obtain ⟨f, sv, dv⟩ := e
        simp only at x0 x1 x2 x3 x4 x5 hst hrt
        have hbA := (hbel.trans ((below_alloc wr (.cells (fCells f sv dv) 29)).mono hsz))
        have hfr2 := hfr.below hbA
        have hW := written_any (f := f) (sv := sv) (dv := dv) hfr2.1 hfr2.2 hrt (HT.out.below hbA) (by simp; omega)
        have hLl := wrF_len hrt
        have hs1 : Rs w sv f.sp := hfr.1
        have hd1 : Rd w dv f.d := hfr.2
        obtain ⟨sa, sn, rfl⟩ := rs_shape hs1
        obtain ⟨da, dn, rfl⟩ := hd1.shape
        have HST := Lib.hid hst
        have HBA := Lib.hid hbA
        unfold fAgg fCells at hW
        generalize wrF f = L at *
        clear hbel hat hfr hfr2 he hs1 hd1 hst hrt hbA
        have hk0 : k = 0 ∨ 0 < k := by omega
        by_cases hq : P.length + L.length ≤ 1200
        · have hq' : (P.length : Int) + (L.length : Int) ≤ 1200 := by omega
          rcases hk0 with rfl | hk0
          · simp only [Nat.zero_mul, Nat.add_zero] at x0 x1 x2 x3 x4 x5
            go_wp2_with (first
              | (go_at_call 27; refine hW.mono ?_; rintro e w2 ⟨v2, rfl, hr2, hb2⟩; obtain ⟨a2, c2, rfl⟩ := hr2.shape)
              | (at_builtin; refine wpList_append_bytes (.tmp 16) (.tmp 18) 26 rfl rfl info5 Tryd.underlying26 w.heap.size _ P.length P rfl (own_below (HO.out.alloc _) hb2) _ L rfl hr2 (by omega) (by have := hb2.size; simp at this; omega) ?_; intro v3 w3 hown3 hb3; obtain ⟨a3, c3, rfl⟩ := own_shape hown3))
            go_roundw
            case rel => exact ⟨1, P ++ L, by go_num, by omega, by simpa using hown3, Lib.hid (by rw [← hE.out, HST.out]; simp), by simp; omega, Lib.hid (hPb.out.app hr2.byt), (HBA.out.trans (hb2.mono HBA.out.size)).trans hb3⟩
            case measure => simp [intOf]; omega
          · go_wp2_with (first
              | (go_at_call 27; refine hW.mono ?_; rintro e w2 ⟨v2, rfl, hr2, hb2⟩; obtain ⟨a2, c2, rfl⟩ := hr2.shape)
              | (at_builtin; refine wpList_append_bytes (.tmp 16) (.tmp 18) 26 rfl rfl info5 Tryd.underlying26 w.heap.size _ P.length P rfl (own_below (HO.out.alloc _) hb2) _ L rfl hr2 (by omega) (by have := hb2.size; simp at this; omega) ?_; intro v3 w3 hown3 hb3; obtain ⟨a3, c3, rfl⟩ := own_shape hown3))
            go_roundw
            case rel => exact ⟨k + 1, P ++ L, by go_num, by omega, by simpa using hown3, Lib.hid (by rw [← hE.out, HST.out]; simp), by simp; omega, Lib.hid (hPb.out.app hr2.byt), (HBA.out.trans (hb2.mono HBA.out.size)).trans hb3⟩
            case measure => simp [intOf]; omega
        · have hq' : (1200 : Int) < (P.length : Int) + (L.length : Int) := by omega
          have HBIG : Hid (1200 < (wrAll (l.map Fe.f)).length) := Lib.hid (by rw [← hE.out, HST.out]; simp; omega)
          rcases hk0 with rfl | hk0
          · simp only [Nat.zero_mul, Nat.add_zero] at x0 x1 x2 x3 x4 x5
            go_wp2_with (first
              | (go_at_call 27; refine hW.mono ?_; rintro e w2 ⟨v2, rfl, hr2, hb2⟩; obtain ⟨a2, c2, rfl⟩ := hr2.shape)
              | (at_builtin; refine wpList_append_bytes (.tmp 16) (.tmp 18) 26 rfl rfl info5 Tryd.underlying26 w.heap.size _ P.length P rfl (own_below (HO.out.alloc _) hb2) _ L rfl hr2 (by omega) (by have := hb2.size; simp at this; omega) ?_; intro v3 w3 hown3 hb3; obtain ⟨a3, c3, rfl⟩ := own_shape hown3))
            go_ret2
            exact wpost_no ((HBA.out.trans (hb2.mono HBA.out.size)).trans hb3) (.inr ⟨HP.out, HBIG.out, rfl⟩)
          · go_wp2_with (first
              | (go_at_call 27; refine hW.mono ?_; rintro e w2 ⟨v2, rfl, hr2, hb2⟩; obtain ⟨a2, c2, rfl⟩ := hr2.shape)
              | (at_builtin; refine wpList_append_bytes (.tmp 16) (.tmp 18) 26 rfl rfl info5 Tryd.underlying26 w.heap.size _ P.length P rfl (own_below (HO.out.alloc _) hb2) _ L rfl hr2 (by omega) (by have := hb2.size; simp at this; omega) ?_; intro v3 w3 hown3 hb3; obtain ⟨a3, c3, rfl⟩ := own_shape hown3))
            go_ret2
            exact wpost_no ((HBA.out.trans (hb2.mono HBA.out.size)).trans hb3) (.inr ⟨HP.out, HBIG.out, rfl⟩)
      · obtain rfl : k = l.length := by omega
        have HEQ : Hid (P = wrAll (l.map Fe.f)) := Lib.hid (by have := hE.out; rw [List.drop_length] at this; simpa [wrAll] using this)
        go_wp2_with fail
        go_ret2
        exact ⟨_, P, 0, rfl, ra_own HO.out hPb.out, hbel, .inr (.inr ⟨HP.out, by rw [← HEQ.out]; exact hPl, HEQ.out, rfl⟩)⟩
  · have hM' : Calls Tryd.prog 26 #[.slice ao l.length cap] w fun e w' => e = .returned (.bool false) ∧ Below w.heap.size w w' := hM.mono fun e w' ⟨b, he, hi, hb⟩ => ⟨by
      have : b = false := by
        cases b
        · rfl
        · exact absurd (hi.1 rfl) hp
      rw [he, this], hb⟩
    have HP := Lib.hid hp
    clear hM hp
    go_enter Tryd.func13, Tryd.ntmps13
    go_wp2_with (go_at_call 26; refine hM'.mono ?_; rintro e w1 ⟨rfl, hb1⟩)
    go_ret2
    exact wpost_no hb1 (.inl ⟨HP.out, rfl⟩)
#print axioms gwrite_any
end Go.Proofs.YtgcgmgcgbnepeaaDoor
namespace Go.Proofs.YtgcgmgcgbnepeaaDoor
open Go Go.RowKit

def exF : Fv := ⟨2, 0, [(7, 7), (3, 5)], 0, [], 0⟩
theorem exF_right : rightB exF = true := by decide +kernel
theorem exF_bytes : wrF exF = [2, 7, 1, 0, 0, 2] := by decide +kernel
set_option maxRecDepth 20000 in
set_option maxHeartbeats 2000000 in
theorem gawake_any {w : World} (ht : Tab w) : Calls Tryd.prog 17 #[] w fun e w' => e = .returned (.bool true) ∧ Below w.heap.size w w' := by
  have hb1 := below_alloc w (.cells #[.int .i64 7, .int .i64 7, .int .i64 3, .int .i64 5] 56)
  have hrs : Rs (w.alloc (.cells #[.int .i64 7, .int .i64 7, .int .i64 3, .int .i64 5] 56)) (.slice (some ⟨w.heap.size, 0, none⟩) 2 2) [(7, 7), (3, 5)] := by
    refine ⟨_, 2, rfl, by decide, by decide, (fun h => by cases h), fun a ha j hj => ?_⟩
    cases ha
    have hh := heap_alloc_new w (.cells #[.int .i64 7, .int .i64 7, .int .i64 3, .int .i64 5] 56)
    have hc := fun i => cell_of_row _ w.heap.size i _ _ (0, 0) hh
    have : j = 0 ∨ j = 1 := by simp at hj; omega
    rcases this with rfl | rfl
    · exact ⟨(hc 0).trans rfl, (hc 1).trans rfl⟩
    · exact ⟨(hc 2).trans rfl, (hc 3).trans rfl⟩
  have hfl : Fl ((w.alloc (.cells #[.int .i64 7, .int .i64 7, .int .i64 3, .int .i64 5] 56)).alloc (.cells #[.int .i64 2, .int .i64 0, .slice (some ⟨w.heap.size, 0, none⟩) 2 2, .int .i64 0, .slice none 0 0, .int .i64 0] 29)) (.slice (some ⟨w.heap.size + 1, 0, none⟩) 1 1) [⟨exF, .slice (some ⟨w.heap.size, 0, none⟩) 2 2, .slice none 0 0⟩] := by
    refine ⟨⟨_, 1, rfl, by simp, by simp [maxLen], (fun h => by cases h), fun a ha j e hj i u hu => ?_⟩, fun e he => ?_⟩
    · cases ha
      have hj0 : j = 0 := by
        have := (List.getElem?_eq_some_iff.1 hj).1
        simp at this; exact this
      subst hj0
      simp at hj
      subst hj
      have hh := heap_alloc_new (w.alloc (.cells #[.int .i64 7, .int .i64 7, .int .i64 3, .int .i64 5] 56)) (.cells #[.int .i64 2, .int .i64 0, .slice (some ⟨w.heap.size, 0, none⟩) 2 2, .int .i64 0, .slice none 0 0, .int .i64 0] 29)
      rw [World.size_alloc] at hh
      have hc := cell_of_row _ (w.heap.size + 1) (0 + (0 * 6 + i)) _ _ (0, 0) hh
      rw [Addr.add_lit, hc]
      simp only [Nat.zero_mul, Nat.zero_add]
      rw [← hu]
      simp [feC, exF]
    · simp at he
      subst he
      exact ⟨hrs.below (below_alloc _ _), Rd.nil _⟩
  have hW := gwrite_any hfl (by simp) (ht.below (hb1.trans ((below_alloc _ _).mono hb1.size))) (by simp)
  have HB := Lib.hid (hb1.trans ((below_alloc (w.alloc (.cells #[.int .i64 7, .int .i64 7, .int .i64 3, .int .i64 5] 56)) (.cells #[.int .i64 2, .int .i64 0, .slice (some ⟨w.heap.size, 0, none⟩) 2 2, .int .i64 0, .slice none 0 0, .int .i64 0] 29)).mono hb1.size))
  clear hb1 hrs hfl ht
  go_enter Tryd.func17, Tryd.ntmps17
  go_wp2_with fail
  refine hW.mono ?_
  rintro e w2 ⟨u, zs, n, rfl, ⟨hu, _⟩, hb2, hc⟩
  have hm : mayP [⟨exF, .slice (some ⟨w.heap.size, 0, none⟩) 2 2, .slice none 0 0⟩] := ⟨by simp, ⟨(right_iff _).1 exF_right, fun _ g q h => (by cases h), trivial⟩⟩
  have hz : zs = [2, 7, 1, 0, 0, 2] ∧ n = 0 := by
    have e : wrAll (List.map Fe.f [⟨exF, .slice (some ⟨w.heap.size, 0, none⟩) 2 2, .slice none 0 0⟩]) = [2, 7, 1, 0, 0, 2] := by
      simp only [List.map_cons, List.map_nil, wrAll, exF_bytes, List.append_nil]
    rw [e] at hc
    rcases hc with ⟨h, _⟩ | ⟨_, h, _⟩ | ⟨_, _, h, h2⟩
    · exact absurd hm h
    · simp at h
    · exact ⟨h, h2⟩
  obtain ⟨rfl, rfl⟩ := hz
  have HB2 := Lib.hid (HB.out.trans (hb2.mono HB.out.size))
  have hsm := fun (W : World) (h : Rd W u [2, 7, 1, 0, 0, 2]) (x : Value) (h2 : Rd W x [2, 7, 1, 0, 0, 2]) => same_true h h2
  have hl : Rd (w2.alloc (.cells (by8 [2, 7, 1, 0, 0, 2]).toArray 5)) (.slice (some ⟨w2.heap.size, 0, none⟩) 6 6) [2, 7, 1, 0, 0, 2] := Rd.lit w2 [2, 7, 1, 0, 0, 2] (by decide) (byt_of (by decide))
  have hs := hsm _ (hu.rd.alloc _) _ hl
  have HBA := Lib.hid (below_alloc w2 (.cells (by8 [2, 7, 1, 0, 0, 2]).toArray 5))
  obtain ⟨a, c, rfl⟩ := hu.rd.shape
  simp only [List.length_cons, List.length_nil, Nat.zero_add, Nat.reduceAdd] at *
  clear hW hsm hl hc hm hb2 hu
  go_wp2_with (go_at_call 16; refine hs.mono ?_; rintro e w3 ⟨rfl, hb3⟩)
  go_ret
  exact ⟨rfl, HB2.out.trans ((HBA.out.trans (hb3.mono HBA.out.size)).mono HB2.out.size)⟩
#print axioms gawake_any
end Go.Proofs.YtgcgmgcgbnepeaaDoor
namespace Go.Proofs.YtgcgmgcgbnepeaaDoor
open Go Go.RowKit

/-- What all hands back. -/
def AllPost (w : World) (l : List Fe) (e : Ending) (w' : World) : Prop := ∃ u L, e = .returned u ∧ Fo w.heap.size w' u L ∧ L.map Fe.f = l.map Fe.f ∧ Below w.heap.size w w'
theorem own_lt {w : World} {lo : Nat} {v : Value} {n g : Nat} {T : TypeId} {sz : Nat} {xs : List Value} (h : w.ownsRow lo T sz v n xs) (hg : v.ownBlock = some g) : g < w.heap.size ∧ lo ≤ g := by
  rcases h.2 with ⟨rfl, _⟩ | ⟨g2, cap, cur, rfl, h1, hh, _⟩
  · cases hg
  · cases hg; exact ⟨(Array.getElem?_eq_some_iff.1 hh).1, h1⟩
/-- One more is taken over. -/
theorem all_step {lo : Nat} {w1 w2 : World} {u : Value} {L : List Fe} (h : Fo lo w1 u L) (hb : Below w1.heap.size w1 w2) (hl : L.length ≤ 2000) (hlo : lo ≤ w1.heap.size) (e : Fe) (hs : RsA w1.heap.size w2 e.sv e.f.sp) (hd : Ra w1.heap.size w2 e.dv e.f.d) (hp : Plain e.dv) :
    ∃ v' w', (Builtin.append_ #[38, 38] 38 #[u, .slice (some ⟨w2.heap.size, 0, none⟩) 1 1]).run Tryd.prog (w2.alloc (.cells #[.int .i64 e.f.k, .int .i64 e.f.c, e.sv, .int .i64 e.f.a, e.dv, .int .i64 e.f.t] 29)) = .ok v' w' ∧ Fo lo w' v' (L ++ [e]) ∧ Below lo w1 w' := by
  have hb2 := below_alloc w2 (.cells #[.int .i64 e.f.k, .int .i64 e.f.c, e.sv, .int .i64 e.f.a, e.dv, .int .i64 e.f.t] 29)
  have hb3 := hb.trans (hb2.mono hb.size)
  have hF : Fo lo (w2.alloc (.cells #[.int .i64 e.f.k, .int .i64 e.f.c, e.sv, .int .i64 e.f.a, e.dv, .int .i64 e.f.t] 29)) u L := h.keep fun k hk _ => hb3.block k hk
  have hsz := hb.size
  obtain ⟨v', w', h1, h2, h3⟩ := hF.app hl (by simp; omega) e (hs.below hb2) (hd.below hb2) hp hlo (fun g hg => (own_lt h.own hg).1) w2.heap.size (feC_new w2 e) 38
  exact ⟨v', w', h1, h2, (hb3.mono hlo).trans (below_own hF.own (by simp; omega) h3)⟩
set_option maxRecDepth 20000 in
set_option maxHeartbeats 2000000 in
theorem gall_any {w : World} {v : Value} {l : List Fe} (h : Fl w v l) (hl : LightP l) : Calls Tryd.prog 14 #[v] w (AllPost w l) := by
  have HF := Lib.hid h
  have HLT := Lib.hid hl
  have h30 : l.length ≤ 30 := hl.1
  obtain ⟨ao, cap, rfl⟩ := h.shape
  clear h hl
  go_enter Tryd.func14, Tryd.ntmps14
  go_wp2_with fail
  go_loopw [3, 4] (fun u i wr => ∃ (k : Nat) (L : List Fe), i = .int .i64 k ∧ k ≤ l.length ∧ Hid (Fo w.heap.size wr u L ∧ L.map Fe.f = (l.take k).map Fe.f ∧ Below w.heap.size w wr)) (fun _ i _ => l.length - (intOf i).toNat)
  case atStart => exact ⟨0, [], rfl, by omega, Lib.hid ⟨Fo.nil _ _, by simp, Below.refl _ _⟩⟩
  case round =>
    rename_i wr
    obtain ⟨k, L, rfl, hk, HR⟩ := hrel
    have hk' : (k : Int) ≤ (l.length : Int) := by omega
    obtain ⟨ua, uc, rfl⟩ := HR.out.1.shape
    have HLL : Hid (L.length = k) := Lib.hid (by
      have := congrArg List.length HR.out.2.1
      simp at this; omega)
    by_cases hlt : k < l.length
    · have hlt' : (k : Int) < (l.length : Int) := by omega
      obtain ⟨b, off, cap', e0, hb, hat⟩ := HF.out.at (by omega)
      simp only [Value.slice.injEq] at e0
      obtain ⟨rfl, _, rfl⟩ := e0
      obtain ⟨e, he⟩ : ∃ e, l[k]? = some e := ⟨_, List.getElem?_eq_getElem hlt⟩
      have hfr := HF.out.rd e (List.mem_of_getElem? he)
      have hlp := HLT.out.2 e (List.mem_of_getElem? he)
      have hsz := HR.out.2.2.size
      obtain ⟨x0, x1, x2, x3, x4, x5⟩ := (hat k e he).below HR.out.2.2 hb
      have HT : Hid (l.take (k + 1) = l.take k ++ [e]) := Lib.hid (by
        obtain ⟨h1, h2⟩ := List.getElem?_eq_some_iff.1 he
        rw [List.take_succ_eq_append_getElem h1, h2])
      obtain ⟨⟨fk, fc, fsp, fa, fd, ft⟩, sv, dv⟩ := e
      simp only at x0 x1 x2 x3 x4 x5 hlp
      have hof := gof_any (w := wr) (k := fk) (c := fc) (a := fa) (t := ft) (sp := fsp) (d := fd) (hfr.1.below HR.out.2.2) (hfr.2.below HR.out.2.2) hlp.1 hlp.2
      have hs1 : Rs w sv fsp := hfr.1
      have hd1 : Rd w dv fd := hfr.2
      obtain ⟨sa, sn, rfl⟩ := rs_shape hs1
      obtain ⟨da, dn, rfl⟩ := hd1.shape
      unfold fAgg at hof
      clear hat hfr he hlp hs1 hd1
      have hk0 : k = 0 ∨ 0 < k := by omega
      have HN : ∀ (su du : Value), Hid ((L ++ [(⟨⟨fk, fc, fsp, fa, fd, ft⟩, su, du⟩ : Fe)]).map Fe.f = (l.take (k + 1)).map Fe.f) := fun su du => Lib.hid (by rw [HT.out, List.map_append, List.map_append, HR.out.2.1]; rfl)
      rcases hk0 with rfl | hk0
      · simp only [Nat.zero_mul, Nat.add_zero] at x0 x1 x2 x3 x4 x5
        go_wp2_with (first
          | (go_at_call 11; refine hof.mono ?_; rintro e w2 ⟨su, du, rfl, hs2, hd2, hp2, hb2⟩; obtain ⟨v6, w6, hr6, hg6, hb6⟩ := all_step HR.out.1 hb2 (by have := HLL.out; omega) hsz ⟨⟨fk, fc, fsp, fa, fd, ft⟩, su, du⟩ hs2 hd2 hp2; have HG6 := Lib.hid hg6; have HB6 := Lib.hid hb6; clear hg6 hb6; obtain ⟨a6, c6, rfl⟩ := HG6.out.shape; obtain ⟨sa2, sn2, rfl⟩ := rs_shape hs2.rd; obtain ⟨da2, dn2, rfl⟩ := hd2.rd.shape; clear hs2 hd2 hp2 hb2; unfold fAgg; (try simp only at hr6))
          | (at_builtin; refine wpList_run_ok (.tmp 11) (.tmp 17) _ rfl rfl rfl rfl hr6 ?_))
        have HG7 := HG6.out
        simp only [List.length_append, List.length_cons, List.length_nil, Nat.zero_add] at HG7
        go_roundw
        case rel => exact ⟨1, _, by go_num, by omega, Lib.hid ⟨HG7, (HN _ _).out, HR.out.2.2.trans HB6.out⟩⟩
        case measure => simp [intOf]; omega
      · go_wp2_with (first
          | (go_at_call 11; refine hof.mono ?_; rintro e w2 ⟨su, du, rfl, hs2, hd2, hp2, hb2⟩; obtain ⟨v6, w6, hr6, hg6, hb6⟩ := all_step HR.out.1 hb2 (by have := HLL.out; omega) hsz ⟨⟨fk, fc, fsp, fa, fd, ft⟩, su, du⟩ hs2 hd2 hp2; have HG6 := Lib.hid hg6; have HB6 := Lib.hid hb6; clear hg6 hb6; obtain ⟨a6, c6, rfl⟩ := HG6.out.shape; obtain ⟨sa2, sn2, rfl⟩ := rs_shape hs2.rd; obtain ⟨da2, dn2, rfl⟩ := hd2.rd.shape; clear hs2 hd2 hp2 hb2; unfold fAgg; (try simp only at hr6))
          | (at_builtin; refine wpList_run_ok (.tmp 11) (.tmp 17) _ rfl rfl rfl rfl hr6 ?_))
        have HG7 := HG6.out
        simp only [List.length_append, List.length_cons, List.length_nil, Nat.zero_add] at HG7
        go_roundw
        case rel => exact ⟨k + 1, _, by go_num, by omega, Lib.hid ⟨HG7, (HN _ _).out, HR.out.2.2.trans HB6.out⟩⟩
        case measure => simp [intOf]; omega
    · obtain rfl : k = l.length := by omega
      go_wp2_with fail
      go_ret
      exact ⟨_, L, rfl, HR.out.1, by rw [HR.out.2.1, List.take_length], HR.out.2.2⟩
#print axioms gall_any
end Go.Proofs.YtgcgmgcgbnepeaaDoor
namespace Go.Proofs.YtgcgmgcgbnepeaaDoor
open Go Go.RowKit

/-- The two boxes. -/
structure TBox (w : World) (f : Fv) (sv dv sv2 dv2 : Value) (W : World) : Prop where
  bel : Below w.heap.size w W
  b1 : W.heap[w.heap.size]? = some (.cells (fCells f sv dv) 29 (0, 0))
  b2 : W.heap[w.heap.size + 1]? = some (.cells (fCells f sv2 dv2) 33 (0, 0))
theorem TBox.size {w W : World} {f : Fv} {sv dv sv2 dv2 : Value} (h : TBox w f sv dv sv2 dv2 W) : w.heap.size + 2 ≤ W.heap.size := (Array.getElem?_eq_some_iff.1 h.b2).1
theorem TBox.below {w W W' : World} {f : Fv} {sv dv sv2 dv2 : Value} (h : TBox w f sv dv sv2 dv2 W) (hb : Below W.heap.size W W') : TBox w f sv dv sv2 dv2 W' := by
  have := h.size
  exact ⟨h.bel.trans (hb.mono (by omega)), by rw [hb.block _ (by omega)]; exact h.b1, by rw [hb.block _ (by omega)]; exact h.b2⟩
theorem TBox.new (w : World) (f : Fv) (sv dv sv2 dv2 : Value) : TBox w f sv dv sv2 dv2 ((w.alloc (.cells (fCells f sv dv) 29)).alloc (.cells (fCells f sv2 dv2) 33)) := by
  refine ⟨(below_alloc w _).alloc (by simp) _, ?_, ?_⟩
  · rw [(below_alloc (w.alloc (.cells (fCells f sv dv) 29)) _).block _ (by simp)]
    exact heap_alloc_new w _
  · have h := heap_alloc_new (w.alloc (.cells (fCells f sv dv) 29)) (.cells (fCells f sv2 dv2) 33)
    rw [World.size_alloc] at h
    exact h
theorem TBox.drewN {w W : World} {f : Fv} {sv dv sv2 dv2 : Value} (h : TBox w f sv dv sv2 dv2 W) (n : Nat) : TBox w f sv dv sv2 dv2 (W.drewN n) := h.below (drewN_below W n)
set_option maxRecDepth 20000 in
set_option maxHeartbeats 3000000 in
theorem gtold_any {w : World} {k c a t : Int} {sp : List Sp} {d : List Int} {sv dv sv2 dv2 : Value} (hs : Rs w sv sp) (hd : Rd w dv d) (hs2 : Rs w sv2 sp) (hd2 : Rd w dv2 d) :
    Calls Tryd.prog 20 #[fAgg ⟨k, c, sp, a, d, t⟩ sv dv, fAgg ⟨k, c, sp, a, d, t⟩ sv2 dv2] w fun e w' => e = .returned (.bool true) ∧ Below w.heap.size w w' := by
  have HS := Lib.hid hs
  have HS2 := Lib.hid hs2
  have HSM := Lib.hid (fun W (hb : Below w.heap.size w W) => same_true (hd.below hb) (hd2.below hb))
  have hl63 := hs.le63
  have hld := hd.le63
  obtain ⟨sa, sn, rfl⟩ := rs_shape hs
  obtain ⟨sb, sm, rfl⟩ := rs_shape hs2
  obtain ⟨da, dn, rfl⟩ := hd.shape
  obtain ⟨db, dm, rfl⟩ := hd2.shape
  have HTB := Lib.hid (TBox.new w ⟨k, c, sp, a, d, t⟩ (.slice sa sp.length sn) (.slice da d.length dn) (.slice sb sp.length sm) (.slice db d.length dm))
  unfold fCells at HTB
  obtain ⟨W0, hw0⟩ : ∃ W0, (w.alloc (.cells #[.int .i64 k, .int .i64 c, .slice sa sp.length sn, .int .i64 a, .slice da d.length dn, .int .i64 t] 29)).alloc (.cells #[.int .i64 k, .int .i64 c, .slice sb sp.length sm, .int .i64 a, .slice db d.length dm, .int .i64 t] 33) = W0 := ⟨_, rfl⟩
  dsimp only at HTB
  rw [hw0] at HTB
  clear hs hs2 hd hd2
  obtain ⟨x0, x1, x2, x3, x4, x5, xf⟩ := fcells_of HTB.out.b1
  obtain ⟨y0, y1, y2, y3, y4, y5, yf⟩ := fcells_of HTB.out.b2
  have n1 : (k != k) = false := by simp
  have n2 : (c != c) = false := by simp
  have n3 : (a != a) = false := by simp
  have n4 : (t != t) = false := by simp
  have n5 : ((sp.length : Int) != (sp.length : Int)) = false := by simp
  unfold fAgg
  go_enter Tryd.func20, Tryd.ntmps20
  go_wp2_with (go_at_call 16; refine (HSM.out _ HTB.out.bel).mono ?_; rintro e w2 ⟨rfl, hb2⟩; have HT2 := Lib.hid (HTB.out.below hb2); clear hb2; obtain ⟨u0, u1, u2, u3, u4, u5, uf⟩ := fcells_of HT2.out.b1; obtain ⟨v0, v1, v2, v3, v4, v5, vf⟩ := fcells_of HT2.out.b2)
  clear x0 x1 x2 x3 x4 x5 xf y0 y1 y2 y3 y4 y5 yf u0 u1 u2 u3 u4 u5 uf v0 v1 v2 v3 v4 v5 vf n1 n2 n3 n4 n5
  go_loopw [5] (fun i wr => ∃ j : Nat, i = .int .i64 j ∧ j ≤ sp.length ∧ Hid (TBox w ⟨k, c, sp, a, d, t⟩ (.slice sa sp.length sn) (.slice da d.length dn) (.slice sb sp.length sm) (.slice db d.length dm) wr)) (fun i _ => sp.length - (intOf i).toNat)
  case atStart => exact ⟨0, rfl, by omega, HT2⟩
  case round =>
    rename_i wr
    obtain ⟨j, rfl, hj, HR⟩ := hrel
    have hj' : (j : Int) ≤ (sp.length : Int) := by omega
    obtain ⟨x0, x1, x2, x3, x4, x5, xf⟩ := fcells_of HR.out.b1
    obtain ⟨y0, y1, y2, y3, y4, y5, yf⟩ := fcells_of HR.out.b2
    clear x0 x1 x3 x4 x5 xf y0 y1 y3 y4 y5 yf
    by_cases hlt : j < sp.length
    · have hlt' : (j : Int) < (sp.length : Int) := by omega
      obtain ⟨b, off, cap, e0, hb, hat⟩ := HS.out.at (by omega)
      simp only [Value.slice.injEq] at e0
      obtain ⟨rfl, _, rfl⟩ := e0
      obtain ⟨b', off', cap', e0, hb', hat'⟩ := HS2.out.at (by omega)
      simp only [Value.slice.injEq] at e0
      obtain ⟨rfl, _, rfl⟩ := e0
      obtain ⟨z1, z2⟩ := hat.below HR.out.bel j hlt
      obtain ⟨z3, z4⟩ := hat'.below HR.out.bel j hlt
      clear hat hat' hb hb'
      generalize (sp.getD j (0, 0)).1 = p1 at *
      generalize (sp.getD j (0, 0)).2 = p2 at *
      have m1 : (p1 != p1) = false := by simp
      have m2 : (p2 != p2) = false := by simp
      have hj0 : j = 0 ∨ 0 < j := by omega
      rcases hj0 with rfl | hj0
      · simp only [Nat.zero_mul, Nat.add_zero] at z1 z2 z3 z4
        go_wp2_with fail
        go_quiet (fail)
        go_wp2_with fail
        go_roundw
        case rel => exact ⟨1, by go_num, by omega, Lib.hid (HR.out.drewN _)⟩
        case measure => simp [intOf]; omega
      · go_wp2_with fail
        go_quiet (fail)
        go_wp2_with fail
        go_roundw
        case rel => exact ⟨j + 1, by go_num, by omega, Lib.hid (HR.out.drewN _)⟩
        case measure => simp [intOf]; omega
    · obtain rfl : j = sp.length := by omega
      go_wp2_with fail
      go_ret
      exact ⟨rfl, HR.out.bel⟩
#print axioms gtold_any
end Go.Proofs.YtgcgmgcgbnepeaaDoor
namespace Go.Proofs.YtgcgmgcgbnepeaaDoor
open Go Go.RowKit

theorem plain_inG {W : World} {r : Reach} {b : Nat} {a : Option Addr} {len cap : Nat} (h : Value.okWide Tryd.prog W r b 26 (.slice a len cap)) : Plain (.slice a len cap) := by
  unfold Value.okWide at h
  rw [Tryd.underlying26] at h
  simp only [Cell.okWide, Tryd.underlying26, Cell.ok] at h
  cases a with
  | none =>
    split at h
    all_goals first
      | (rename_i e1 e2; cases e1; cases e2; exact .inl rfl)
      | (exfalso; simp_all; done)
  | some x =>
    obtain ⟨b, off, spot⟩ := x
    have hs : spot = none := h.2.2.2.1
    subst hs
    exact .inr ⟨_, _, _, _, rfl⟩
theorem gRead_one (z : Int) : gRead [z] = if z = 0 then some [⟨0, 1, [], 0, [], 0⟩] else if z = 1 then some [⟨1, 0, [], 0, [], 0⟩] else if z = 30 then some [⟨30, 0, [], 0, [], 0⟩] else none := by
  have hv : gVar [z] 1 = none := by simp [gVar, rd]
  have hg : gTerm [z] 1 = none := by simp [gTerm, gBytes]
  have ha : gAck [z] 1 = none := by simp [gAck, hv]
  unfold gRead
  simp only [List.length_singleton, gAll, gFrame, List.drop_zero]
  unfold gBody
  by_cases h0 : z = 0
  · subst h0; simp [zeros]
  by_cases h1 : z = 1
  · subst h1; simp
  by_cases h30 : z = 30
  · subst h30; simp
  by_cases h2 : z = 2
  · subst h2; simp [ha]
  by_cases h6 : z = 6
  · subst h6; simp [hv]
  by_cases h7 : z = 7
  · subst h7; simp [hg]
  by_cases h8 : z = 8
  · subst h8; simp [hv]
  by_cases h28 : z = 28
  · subst h28; simp [hv]
  simp [h0, h1, h30, h2, h6, h7, h8, h28]
theorem stand_len : ∀ (l : List Fv), standF l → l.length ≤ (wrAll l).length := by
  intro l
  induction l with
  | nil => intro _; simp
  | cons f r ih =>
    rintro ⟨h1, _, h3⟩
    have := ih h3
    have := wrF_pos h1
    simp only [wrAll, List.length_append, List.length_cons]
    omega
set_option maxRecDepth 20000 in
set_option maxHeartbeats 4000000 in
theorem gkinds_walk {w : World} {z : Int} (hz : 0 ≤ z ∧ z ≤ 255) (ht : Tab w) : Calls Tryd.prog 8 #[.int .u8 z] w fun e w' => e = .returned (.bool true) ∧ Below w.heap.size w w' := by
  have hr0 : Rd (w.alloc (.cells (by8 [z]).toArray 5)) (.slice (some ⟨w.heap.size, 0, none⟩) 1 1) [z] := Rd.lit w [z] (by simp) (byt_one hz)
  have hrd := gread_any hr0 (.inr ⟨_, _, _, _, rfl⟩) (by simp)
  have HBA := Lib.hid (below_alloc w (.cells (by8 [z]).toArray 5))
  have HT := Lib.hid ht
  have hone := gRead_one z
  clear hr0 ht
  by_cases hal : z = 0 ∨ z = 1 ∨ z = 30
  · have HS : Hid (∃ x, gRead [z] = some [x]) := Lib.hid (by
      rw [hone]
      rcases hal with rfl | rfl | rfl
      · exact ⟨_, rfl⟩
      · exact ⟨_, rfl⟩
      · exact ⟨_, rfl⟩)
    clear hone hz
    rcases hal with rfl | rfl | rfl
    all_goals
      go_enter Tryd.func8, Tryd.ntmps8
      go_wp2_with fail
      refine hrd.mono ?_
      rintro e w1 ⟨v1, L, n, rfl, hfl, hb1, hc⟩
      have hnL : n = 0 ∧ L.length = 1 := by
        obtain ⟨x, hx⟩ := HS.out
        rw [hx] at hc
        rcases hc with ⟨_, h, _⟩ | ⟨_, _, h, _⟩ | ⟨h, _, h2⟩
        · simp at h
        · cases h
        · refine ⟨h, ?_⟩
          have := congrArg (Option.map List.length) h2
          simpa using this.symm
      obtain ⟨rfl, hL⟩ := hnL
      obtain ⟨a1, c1, rfl⟩ := hfl.shape
      rw [hL] at *
      have HB := Lib.hid (HBA.out.trans (hb1.mono HBA.out.size))
      clear hfl hb1 hc hrd
      go_wp2_with (go_at_call 17; refine (gawake_any (HT.out.below HB.out)).mono ?_; rintro e w2 ⟨rfl, hb2⟩)
      go_ret
      exact ⟨rfl, HB.out.trans (hb2.mono HB.out.size)⟩
  · have h0 : (z == 0) = false := beq_eq_false_iff_ne.2 (by omega)
    have h1 : (z == 1) = false := beq_eq_false_iff_ne.2 (by omega)
    have h30 : (z == 30) = false := beq_eq_false_iff_ne.2 (by omega)
    have HS : Hid (gRead [z] = none) := Lib.hid (by
      rw [hone, if_neg (by omega), if_neg (by omega), if_neg (by omega)])
    clear hone hz hal
    go_enter Tryd.func8, Tryd.ntmps8
    go_wp2_with fail
    refine hrd.mono ?_
    rintro e w1 ⟨v1, L, n, rfl, hfl, hb1, hc⟩
    have hnL : n = 3 ∧ L.length = 0 := by
      rw [HS.out] at hc
      rcases hc with ⟨_, h, _⟩ | ⟨h, _, _, h2⟩ | ⟨h, _, h2⟩
      · simp at h
      · exact ⟨h, by rw [h2]; rfl⟩
      · cases h2
    obtain ⟨rfl, hL⟩ := hnL
    obtain ⟨a1, c1, rfl⟩ := hfl.shape
    rw [hL] at *
    have HB := Lib.hid (HBA.out.trans (hb1.mono HBA.out.size))
    clear hfl hb1 hc hrd
    go_wp2_with (go_at_call 17; refine (gawake_any (HT.out.below HB.out)).mono ?_; rintro e w2 ⟨rfl, hb2⟩)
    go_ret
    exact ⟨rfl, HB.out.trans (hb2.mono HB.out.size)⟩
set_option maxRecDepth 20000 in
set_option maxHeartbeats 4000000 in
theorem gagain_walk {w : World} {v : Value} {zs : List Int} (hr : Rd w v zs) (hp : Plain v) (ht : Tab w) (hw : 1 < w.heap.size) : Calls Tryd.prog 6 #[v] w fun e w' => e = .returned (.bool true) ∧ Below w.heap.size w w' := by
  have hln := hr.len
  obtain ⟨ao, cap, rfl⟩ := hr.shape
  have HR := Lib.hid hr
  have HT := Lib.hid ht
  by_cases h13 : 1300 < zs.length
  · have h13' : (1300 : Int) < (zs.length : Int) := by omega
    clear hr hp ht hw h13
    go_enter Tryd.func6, Tryd.ntmps6
    go_wp2_with fail
    go_ret
    exact ⟨rfl, Below.refl _ _⟩
  · have h13' : ¬ (1300 : Int) < (zs.length : Int) := by omega
    have hrd := gread_any hr hp (by omega)
    clear hr hp ht h13
    go_enter Tryd.func6, Tryd.ntmps6
    go_wp2_with fail
    refine hrd.mono ?_
    rintro e w1 ⟨v1, L, n, rfl, hfl, hb1, hc⟩
    obtain ⟨a1, c1, rfl⟩ := hfl.shape
    have HB := Lib.hid hb1
    have hno : (n = 3 ∨ n = 4) ∧ L.length = 0 ∨ n = 0 ∧ zs.length ≤ 1200 ∧ gRead zs = some (L.map Fe.f) := by
      rcases hc with ⟨h, _, h2⟩ | ⟨h, _, _, h2⟩ | ⟨h, h1, h2⟩
      · exact .inl ⟨.inr h, by rw [h2]; rfl⟩
      · exact .inl ⟨.inl h, by rw [h2]; rfl⟩
      · exact .inr ⟨h, h1, h2⟩
    clear hc hrd
    rcases hno with ⟨hn, hL⟩ | ⟨rfl, hl12, hg⟩
    · rw [hL] at *
      clear hfl hb1
      rcases hn with rfl | rfl
      all_goals
        go_wp2_with (go_at_call 17; refine (gawake_any (HT.out.below HB.out)).mono ?_; rintro e w2 ⟨rfl, hb2⟩)
        go_ret
        exact ⟨rfl, HB.out.trans (hb2.mono HB.out.size)⟩
    · obtain ⟨hz, hst, hne⟩ := gread_again HR.out.byt hl12 hg
      have hLl : L.length ≤ 1200 := by
        have := stand_len _ hst
        rw [← hz] at this
        simp at this; omega
      have hmay : mayP L := ⟨fun e => hne (by rw [e]; rfl), hst⟩
      have hW := gwrite_any hfl (by omega) (HT.out.below hb1) (by have := hb1.size; omega)
      have HZ := Lib.hid hz
      have HM := Lib.hid hmay
      have HL12 := Lib.hid hl12
      clear hz hst hne hmay hfl hg hb1
      go_wp2_with fail
      refine hW.mono ?_
      rintro e w2 ⟨u, xs, m, rfl, ⟨hu, _⟩, hb2, hc⟩
      have hxm : xs = zs ∧ m = 0 := by
        rw [← HZ.out] at hc
        rcases hc with ⟨h, _⟩ | ⟨_, h, _⟩ | ⟨_, _, h, h2⟩
        · exact absurd HM.out h
        · exact absurd HL12.out (by omega)
        · exact ⟨h, h2⟩
      obtain ⟨rfl, rfl⟩ := hxm
      have HB2 := Lib.hid (HB.out.trans (hb2.mono HB.out.size))
      have hsm := same_true hu.rd (HR.out.below HB2.out)
      obtain ⟨a2, c2, rfl⟩ := hu.rd.shape
      clear hW hu hb2 hc
      go_wp2_with (first
        | (go_at_call 16; refine hsm.mono ?_; rintro e w3 ⟨rfl, hb3⟩; have HB3 := Lib.hid (HB2.out.trans (hb3.mono HB2.out.size)))
        | (go_at_call 17; refine (gawake_any (HT.out.below HB3.out)).mono ?_; rintro e w4 ⟨rfl, hb4⟩))
      go_ret
      exact ⟨rfl, HB3.out.trans (hb4.mono HB3.out.size)⟩
#print axioms gkinds_walk
#print axioms gagain_walk
end Go.Proofs.YtgcgmgcgbnepeaaDoor
namespace Go.Proofs.YtgcgmgcgbnepeaaDoor
open Go Go.RowKit

theorem feat_drew {w : World} {b o : Nat} {e : Fe} (h : FeAt w b o e) : FeAt w.drew b o e := ⟨h.c0, h.c1, h.c2, h.c3, h.c4, h.c5⟩
set_option maxRecDepth 20000 in
set_option maxHeartbeats 4000000 in
theorem greads_walk {w : World} {v : Value} {zs : List Int} (hr : Rd w v zs) (hp : Plain v) (ht : Tab w) : Calls Tryd.prog 4 #[v] w fun e w' => e = .returned (.bool true) ∧ Below w.heap.size w w' := by
  have hln := hr.len
  obtain ⟨ao, cap, rfl⟩ := hr.shape
  have HR := Lib.hid hr
  have HP := Lib.hid hp
  have HT := Lib.hid ht
  by_cases h13 : 1300 < zs.length
  · have h13' : (1300 : Int) < (zs.length : Int) := by omega
    clear hr hp ht h13
    go_enter Tryd.func4, Tryd.ntmps4
    go_wp2_with fail
    go_ret
    exact ⟨rfl, Below.refl _ _⟩
  · have h13' : ¬ (1300 : Int) < (zs.length : Int) := by omega
    have HL := Lib.hid (show zs.length ≤ 1300 by omega)
    clear hr hp ht h13
    go_enter Tryd.func4, Tryd.ntmps4
    go_wp2_with (at_builtin; refine wpList_append_bytes (.tmp 12) (.tmp 13) 26 rfl rfl info5 Tryd.underlying26 w.heap.size _ 0 [] rfl (own_fresh w 5) _ zs rfl (HR.out.alloc _) (by have := HL.out; omega) (by simp) ?_; intro v1 w1 hown1 hb1; simp only [List.nil_append, Nat.zero_add] at hown1; have hra1 := ra_own hown1 HR.out.byt; have hrd := gread_any hra1.1.rd hra1.2 (by have := HL.out; omega); have HB1 := Lib.hid ((below_alloc w (.cells #[] 5)).trans hb1); obtain ⟨a1, c1, rfl⟩ := hra1.1.rd.shape; clear hown1 hb1 hra1)
    refine hrd.mono ?_
    rintro e w2 ⟨v2, M, n, rfl, hfl, hb2, hc⟩
    have HB2 := Lib.hid (HB1.out.trans (hb2.mono HB1.out.size))
    have HC := Lib.hid hc
    obtain ⟨va, vc, rfl⟩ := hfl.shape
    have HFM0 := Lib.hid hfl
    have hrd2 := jread_any (HR.out.below HB2.out) HP.out (by have := HL.out; omega)
    clear hrd hfl hb2 hc
    go_wp2_with fail
    refine hrd2.mono ?_
    rintro e w3 ⟨v3, l, n3, rfl, hfl, hb3, hc⟩
    have hnn : n3 = n ∧ M.map Fe.f = l.map Fe.f := by
      rcases HC.out with ⟨h1, h2, rfl⟩ | ⟨h1, h2, h3, rfl⟩ | ⟨h1, h2, h3⟩
      · rcases hc with ⟨g1, g2, rfl⟩ | ⟨g1, g2, _⟩ | ⟨g1, g2, _⟩
        · exact ⟨by omega, rfl⟩
        · omega
        · omega
      · rcases hc with ⟨g1, g2, _⟩ | ⟨g1, g2, g3, rfl⟩ | ⟨g1, g2, g3⟩
        · omega
        · exact ⟨by omega, rfl⟩
        · rw [h3] at g3; cases g3
      · rcases hc with ⟨g1, g2, _⟩ | ⟨g1, g2, g3, rfl⟩ | ⟨g1, g2, g3⟩
        · omega
        · rw [h3] at g3; cases g3
        · rw [h3] at g3; exact ⟨by omega, Option.some.inj g3⟩
    obtain ⟨rfl, hMl⟩ := hnn
    have hlen : M.length = l.length := by simpa using congrArg List.length hMl
    obtain ⟨ua, uc, rfl⟩ := hfl.shape
    have HB3 := Lib.hid (HB2.out.trans (hb3.mono HB2.out.size))
    have HFM := Lib.hid (HFM0.out.below hb3)
    have HF := Lib.hid hfl
    have HMM := Lib.hid hMl
    have HLM := Lib.hid hlen
    have hl63 : (l.length : Int) ≤ 9223372036854775807 := by obtain ⟨_, _, _, h1, h2, _⟩ := hfl.sl; unfold maxLen at h2; omega
    have hne : ((l.length : Int) != (l.length : Int)) = false := by simp
    have hne2 : (n3 != n3) = false := by simp
    clear hrd2 hc hfl hb3 hMl
    rw [hlen]
    clear hlen
    go_wp2_with fail
    clear hne hne2
    go_loopw [7] (fun i wr => ∃ k : Nat, i = .int .i64 k ∧ k ≤ l.length ∧ Below w3.heap.size w3 wr) (fun i _ => l.length - (intOf i).toNat)
    case atStart => exact ⟨0, rfl, by omega, Below.refl _ _⟩
    case round =>
      rename_i wr
      obtain ⟨k, rfl, hk, hbr⟩ := hrel
      have hk' : (k : Int) ≤ (l.length : Int) := by omega
      by_cases hlt : k < l.length
      · have hlt' : (k : Int) < (l.length : Int) := by omega
        have HBR := Lib.hid hbr
        obtain ⟨b1, off1, cap1, e1, hl1, hat1⟩ := (HFM.out.below hbr).at (by have := HLM.out; omega)
        obtain ⟨b2, off2, cap2, e2, hl2, hat2⟩ := (HF.out.below hbr).at (by omega)
        simp only [Value.slice.injEq] at e1 e2
        obtain ⟨rfl, _, rfl⟩ := e1
        obtain ⟨rfl, _, rfl⟩ := e2
        obtain ⟨x, hx⟩ : ∃ x, M[k]? = some x := ⟨_, List.getElem?_eq_getElem (by have := HLM.out; omega)⟩
        obtain ⟨y, hy⟩ : ∃ y, l[k]? = some y := ⟨_, List.getElem?_eq_getElem hlt⟩
        have hxy : x.f = y.f := by
          have h0 := congrArg (fun q => q[k]?) HMM.out
          simp only [List.getElem?_map, hx, hy, Option.map_some] at h0
          exact Option.some.inj h0
        have hc1 := hat1 k x hx
        have hc2 := hat2 k y hy
        have hf1 := ((HFM.out.rd x (List.mem_of_getElem? hx)).below hbr)
        have hf2 := ((HF.out.rd y (List.mem_of_getElem? hy)).below hbr)
        obtain ⟨⟨fk, fc, fsp, fa, fd, ft⟩, sv, dv⟩ := x
        obtain ⟨yf, sv2, dv2⟩ := y
        simp only at hxy
        subst hxy
        have g1 : Rs wr sv fsp := hf1.1
        have g2 : Rd wr dv fd := hf1.2
        have g3 : Rs wr sv2 fsp := hf2.1
        have g4 : Rd wr dv2 fd := hf2.2
        have HTO := Lib.hid (gtold_any (w := wr.drew) (k := fk) (c := fc) (a := fa) (t := ft) g1 g2 g3 g4)
        obtain ⟨sa, sn, rfl⟩ := rs_shape g1
        obtain ⟨da, dn, rfl⟩ := g2.shape
        obtain ⟨sb, sm, rfl⟩ := rs_shape g3
        obtain ⟨db, dm, rfl⟩ := g4.shape
        clear hat1 hat2 hf1 hf2 g1 g2 g3 g4 hx hy hbr
        have hk0 : k = 0 ∨ 0 < k := by omega
        rcases hk0 with rfl | hk0
        · simp only [Nat.zero_mul, Nat.add_zero] at hc1 hc2
          have HC := Lib.hid (And.intro (feat_drew hc1) (feat_drew hc2))
          clear hc1 hc2
          go_wp2_with fail
          refine wp_region_end 8 (fun w' => FeAt w' b1 off1 ⟨⟨fk, fc, fsp, fa, fd, ft⟩, .slice sa fsp.length sn, .slice da fd.length dn⟩ ∧ FeAt w' b2 off2 ⟨⟨fk, fc, fsp, fa, fd, ft⟩, .slice sb fsp.length sm, .slice db fd.length dm⟩) (by kernel_rfl) ?_
          refine wpAnyE_take [3, 2, 0] (i := 0) (oi := { dst := some 39, op := Op.move (Operand.tmp 3), type := 38, pos := "law.go:99", after := #[], guard := none }) (v := ?_) rfl (by kernel_rfl) (by kernel_rfl) (by kernel_rfl) (by kernel_rfl) rfl rfl (by kernel_rfl) (by kernel_rfl) (fun _ _ _ h => h) (Or.inl ⟨by rfl, ?_⟩) (by exact HC.out) ?_
          rotate_left
          · intro w hSw; (try dsimp only at hSw); obtain ⟨⟨r0, r1, r2, r3, r4, r5⟩, q0, q1, q2, q3, q4, q5⟩ := hSw; (try simp only at r0 r1 r2 r3 r4 r5 q0 q1 q2 q3 q4 q5); go_simp; try (with_reducible rfl)
          repeat (first | simp only [Act.put] | simp only [List.setIfInBounds_toArray] | simp only [List.set_cons_zero] | simp only [List.set_cons_succ])
          refine wpAnyE_take [3, 2, 1] (i := 1) (oi := { dst := some 40, op := Op.move (Operand.tmp 7), type := 3, pos := "law.go:99", after := #[], guard := none }) (v := ?_) rfl (by kernel_rfl) (by kernel_rfl) (by kernel_rfl) (by kernel_rfl) rfl rfl (by kernel_rfl) (by kernel_rfl) (fun _ _ _ h => h) (Or.inl ⟨by rfl, ?_⟩) (by exact HC.out) ?_
          rotate_left
          · intro w hSw; (try dsimp only at hSw); obtain ⟨⟨r0, r1, r2, r3, r4, r5⟩, q0, q1, q2, q3, q4, q5⟩ := hSw; (try simp only at r0 r1 r2 r3 r4 r5 q0 q1 q2 q3 q4 q5); go_simp; try (with_reducible rfl)
          repeat (first | simp only [Act.put] | simp only [List.setIfInBounds_toArray] | simp only [List.set_cons_zero] | simp only [List.set_cons_succ])
          refine wpAnyE_take [3, 2] (i := 2) (oi := { dst := some 41, op := Op.indexAddr 38 (Operand.tmp 39) (Operand.tmp 40), type := 0, pos := "law.go:99", after := #[{ on := 0, ground := Ground.data }, { on := 1, ground := Ground.data }], guard := none }) (v := ?_) rfl (by kernel_rfl) (by kernel_rfl) (by kernel_rfl) (by kernel_rfl) rfl rfl (by kernel_rfl) (by kernel_rfl) (fun _ _ _ h => h) (Or.inl ⟨by rfl, ?_⟩) (by exact HC.out) ?_
          rotate_left
          · intro w hSw; (try dsimp only at hSw); obtain ⟨⟨r0, r1, r2, r3, r4, r5⟩, q0, q1, q2, q3, q4, q5⟩ := hSw; (try simp only at r0 r1 r2 r3 r4 r5 q0 q1 q2 q3 q4 q5); go_simp; try (with_reducible rfl)
          repeat (first | simp only [Act.put] | simp only [List.setIfInBounds_toArray] | simp only [List.set_cons_zero] | simp only [List.set_cons_succ])
          refine wpAnyE_take [3] (i := 3) (oi := { dst := some 42, op := Op.load 29 (Operand.tmp 41), type := 29, pos := "law.go:99", after := #[{ on := 2, ground := Ground.data }], guard := none }) (v := ?_) rfl (by kernel_rfl) (by kernel_rfl) (by kernel_rfl) (by kernel_rfl) rfl rfl (by kernel_rfl) (by kernel_rfl) (fun _ _ _ h => h) (Or.inl ⟨by rfl, ?_⟩) (by exact HC.out) ?_
          rotate_left
          · intro w hSw; (try dsimp only at hSw); obtain ⟨⟨r0, r1, r2, r3, r4, r5⟩, q0, q1, q2, q3, q4, q5⟩ := hSw; (try simp only at r0 r1 r2 r3 r4 r5 q0 q1 q2 q3 q4 q5); go_simp; try (with_reducible rfl)
          repeat (first | simp only [Act.put] | simp only [List.setIfInBounds_toArray] | simp only [List.set_cons_zero] | simp only [List.set_cons_succ])
          refine wpAnyE_take [7, 6, 4] (i := 4) (oi := { dst := some 43, op := Op.move (Operand.tmp 5), type := 22, pos := "law.go:99", after := #[], guard := none }) (v := ?_) rfl (by kernel_rfl) (by kernel_rfl) (by kernel_rfl) (by kernel_rfl) rfl rfl (by kernel_rfl) (by kernel_rfl) (fun _ _ _ h => h) (Or.inl ⟨by rfl, ?_⟩) (by exact HC.out) ?_
          rotate_left
          · intro w hSw; (try dsimp only at hSw); obtain ⟨⟨r0, r1, r2, r3, r4, r5⟩, q0, q1, q2, q3, q4, q5⟩ := hSw; (try simp only at r0 r1 r2 r3 r4 r5 q0 q1 q2 q3 q4 q5); go_simp; try (with_reducible rfl)
          repeat (first | simp only [Act.put] | simp only [List.setIfInBounds_toArray] | simp only [List.set_cons_zero] | simp only [List.set_cons_succ])
          refine wpAnyE_take [7, 6, 5] (i := 5) (oi := { dst := some 44, op := Op.move (Operand.tmp 7), type := 3, pos := "law.go:99", after := #[], guard := none }) (v := ?_) rfl (by kernel_rfl) (by kernel_rfl) (by kernel_rfl) (by kernel_rfl) rfl rfl (by kernel_rfl) (by kernel_rfl) (fun _ _ _ h => h) (Or.inl ⟨by rfl, ?_⟩) (by exact HC.out) ?_
          rotate_left
          · intro w hSw; (try dsimp only at hSw); obtain ⟨⟨r0, r1, r2, r3, r4, r5⟩, q0, q1, q2, q3, q4, q5⟩ := hSw; (try simp only at r0 r1 r2 r3 r4 r5 q0 q1 q2 q3 q4 q5); go_simp; try (with_reducible rfl)
          repeat (first | simp only [Act.put] | simp only [List.setIfInBounds_toArray] | simp only [List.set_cons_zero] | simp only [List.set_cons_succ])
          refine wpAnyE_take [7, 6] (i := 6) (oi := { dst := some 45, op := Op.indexAddr 22 (Operand.tmp 43) (Operand.tmp 44), type := 0, pos := "law.go:99", after := #[{ on := 4, ground := Ground.data }, { on := 5, ground := Ground.data }], guard := none }) (v := ?_) rfl (by kernel_rfl) (by kernel_rfl) (by kernel_rfl) (by kernel_rfl) rfl rfl (by kernel_rfl) (by kernel_rfl) (fun _ _ _ h => h) (Or.inl ⟨by rfl, ?_⟩) (by exact HC.out) ?_
          rotate_left
          · intro w hSw; (try dsimp only at hSw); obtain ⟨⟨r0, r1, r2, r3, r4, r5⟩, q0, q1, q2, q3, q4, q5⟩ := hSw; (try simp only at r0 r1 r2 r3 r4 r5 q0 q1 q2 q3 q4 q5); go_simp; try (with_reducible rfl)
          repeat (first | simp only [Act.put] | simp only [List.setIfInBounds_toArray] | simp only [List.set_cons_zero] | simp only [List.set_cons_succ])
          refine wpAnyE_take [7] (i := 7) (oi := { dst := some 46, op := Op.load 33 (Operand.tmp 45), type := 33, pos := "law.go:99", after := #[{ on := 6, ground := Ground.data }], guard := none }) (v := ?_) rfl (by kernel_rfl) (by kernel_rfl) (by kernel_rfl) (by kernel_rfl) rfl rfl (by kernel_rfl) (by kernel_rfl) (fun _ _ _ h => h) (Or.inl ⟨by rfl, ?_⟩) (by exact HC.out) ?_
          rotate_left
          · intro w hSw; (try dsimp only at hSw); obtain ⟨⟨r0, r1, r2, r3, r4, r5⟩, q0, q1, q2, q3, q4, q5⟩ := hSw; (try simp only at r0 r1 r2 r3 r4 r5 q0 q1 q2 q3 q4 q5); go_simp; try (with_reducible rfl)
          repeat (first | simp only [Act.put] | simp only [List.setIfInBounds_toArray] | simp only [List.set_cons_zero] | simp only [List.set_cons_succ])
          refine wpAnyE_one (i := 8) (o := { dst := some 47, op := Op.call { callee := Callee.value (Operand.func 20), args := #[Operand.tmp 42, Operand.tmp 46], argTypes := #[29, 33] }, type := 4, pos := "law.go:99", after := #[{ on := 3, ground := Ground.data }, { on := 7, ground := Ground.data }], guard := none }) (by kernel_rfl) rfl (fun K hK => ?_)
          go_simp
          refine (HTO.out).mono ?_
          rintro e w5 ⟨rfl, hb5⟩
          refine hK.out _ _ (fun hL => absurd hL (by decide)) ?_
          clear hK K
          repeat (first | simp only [Act.put] | simp only [List.setIfInBounds_toArray] | simp only [List.set_cons_zero] | simp only [List.set_cons_succ])
          refine wpAnyE_one (i := 9) (o := { dst := some 48, op := Op.unOp UnOp.not 4 (Operand.tmp 47), type := 4, pos := "law.go:99", after := #[{ on := 8, ground := Ground.data }], guard := none }) (by kernel_rfl) rfl (fun K hK => ?_)
          go_simp
          refine hK.out _ _ (fun hL => absurd hL (by decide)) ?_
          clear hK K
          repeat (first | simp only [Act.put] | simp only [List.setIfInBounds_toArray] | simp only [List.set_cons_zero] | simp only [List.set_cons_succ])
          refine wpAnyE_done (by kernel_rfl) ?_ _
          go_wp2_with fail
          go_roundw
          case rel => exact ⟨1, by go_num, by omega, HBR.out.drew.trans (hb5.mono HBR.out.size)⟩
          case measure => simp [intOf]; omega
        · have HC := Lib.hid (And.intro (feat_drew hc1) (feat_drew hc2))
          clear hc1 hc2
          go_wp2_with fail
          refine wp_region_end 8 (fun w' => FeAt w' b1 (off1 + k * 6) ⟨⟨fk, fc, fsp, fa, fd, ft⟩, .slice sa fsp.length sn, .slice da fd.length dn⟩ ∧ FeAt w' b2 (off2 + k * 6) ⟨⟨fk, fc, fsp, fa, fd, ft⟩, .slice sb fsp.length sm, .slice db fd.length dm⟩) (by kernel_rfl) ?_
          refine wpAnyE_take [3, 2, 0] (i := 0) (oi := { dst := some 39, op := Op.move (Operand.tmp 3), type := 38, pos := "law.go:99", after := #[], guard := none }) (v := ?_) rfl (by kernel_rfl) (by kernel_rfl) (by kernel_rfl) (by kernel_rfl) rfl rfl (by kernel_rfl) (by kernel_rfl) (fun _ _ _ h => h) (Or.inl ⟨by rfl, ?_⟩) (by exact HC.out) ?_
          rotate_left
          · intro w hSw; (try dsimp only at hSw); obtain ⟨⟨r0, r1, r2, r3, r4, r5⟩, q0, q1, q2, q3, q4, q5⟩ := hSw; (try simp only at r0 r1 r2 r3 r4 r5 q0 q1 q2 q3 q4 q5); go_simp; try (with_reducible rfl)
          repeat (first | simp only [Act.put] | simp only [List.setIfInBounds_toArray] | simp only [List.set_cons_zero] | simp only [List.set_cons_succ])
          refine wpAnyE_take [3, 2, 1] (i := 1) (oi := { dst := some 40, op := Op.move (Operand.tmp 7), type := 3, pos := "law.go:99", after := #[], guard := none }) (v := ?_) rfl (by kernel_rfl) (by kernel_rfl) (by kernel_rfl) (by kernel_rfl) rfl rfl (by kernel_rfl) (by kernel_rfl) (fun _ _ _ h => h) (Or.inl ⟨by rfl, ?_⟩) (by exact HC.out) ?_
          rotate_left
          · intro w hSw; (try dsimp only at hSw); obtain ⟨⟨r0, r1, r2, r3, r4, r5⟩, q0, q1, q2, q3, q4, q5⟩ := hSw; (try simp only at r0 r1 r2 r3 r4 r5 q0 q1 q2 q3 q4 q5); go_simp; try (with_reducible rfl)
          repeat (first | simp only [Act.put] | simp only [List.setIfInBounds_toArray] | simp only [List.set_cons_zero] | simp only [List.set_cons_succ])
          refine wpAnyE_take [3, 2] (i := 2) (oi := { dst := some 41, op := Op.indexAddr 38 (Operand.tmp 39) (Operand.tmp 40), type := 0, pos := "law.go:99", after := #[{ on := 0, ground := Ground.data }, { on := 1, ground := Ground.data }], guard := none }) (v := ?_) rfl (by kernel_rfl) (by kernel_rfl) (by kernel_rfl) (by kernel_rfl) rfl rfl (by kernel_rfl) (by kernel_rfl) (fun _ _ _ h => h) (Or.inl ⟨by rfl, ?_⟩) (by exact HC.out) ?_
          rotate_left
          · intro w hSw; (try dsimp only at hSw); obtain ⟨⟨r0, r1, r2, r3, r4, r5⟩, q0, q1, q2, q3, q4, q5⟩ := hSw; (try simp only at r0 r1 r2 r3 r4 r5 q0 q1 q2 q3 q4 q5); go_simp; try (with_reducible rfl)
          repeat (first | simp only [Act.put] | simp only [List.setIfInBounds_toArray] | simp only [List.set_cons_zero] | simp only [List.set_cons_succ])
          refine wpAnyE_take [3] (i := 3) (oi := { dst := some 42, op := Op.load 29 (Operand.tmp 41), type := 29, pos := "law.go:99", after := #[{ on := 2, ground := Ground.data }], guard := none }) (v := ?_) rfl (by kernel_rfl) (by kernel_rfl) (by kernel_rfl) (by kernel_rfl) rfl rfl (by kernel_rfl) (by kernel_rfl) (fun _ _ _ h => h) (Or.inl ⟨by rfl, ?_⟩) (by exact HC.out) ?_
          rotate_left
          · intro w hSw; (try dsimp only at hSw); obtain ⟨⟨r0, r1, r2, r3, r4, r5⟩, q0, q1, q2, q3, q4, q5⟩ := hSw; (try simp only at r0 r1 r2 r3 r4 r5 q0 q1 q2 q3 q4 q5); go_simp; try (with_reducible rfl)
          repeat (first | simp only [Act.put] | simp only [List.setIfInBounds_toArray] | simp only [List.set_cons_zero] | simp only [List.set_cons_succ])
          refine wpAnyE_take [7, 6, 4] (i := 4) (oi := { dst := some 43, op := Op.move (Operand.tmp 5), type := 22, pos := "law.go:99", after := #[], guard := none }) (v := ?_) rfl (by kernel_rfl) (by kernel_rfl) (by kernel_rfl) (by kernel_rfl) rfl rfl (by kernel_rfl) (by kernel_rfl) (fun _ _ _ h => h) (Or.inl ⟨by rfl, ?_⟩) (by exact HC.out) ?_
          rotate_left
          · intro w hSw; (try dsimp only at hSw); obtain ⟨⟨r0, r1, r2, r3, r4, r5⟩, q0, q1, q2, q3, q4, q5⟩ := hSw; (try simp only at r0 r1 r2 r3 r4 r5 q0 q1 q2 q3 q4 q5); go_simp; try (with_reducible rfl)
          repeat (first | simp only [Act.put] | simp only [List.setIfInBounds_toArray] | simp only [List.set_cons_zero] | simp only [List.set_cons_succ])
          refine wpAnyE_take [7, 6, 5] (i := 5) (oi := { dst := some 44, op := Op.move (Operand.tmp 7), type := 3, pos := "law.go:99", after := #[], guard := none }) (v := ?_) rfl (by kernel_rfl) (by kernel_rfl) (by kernel_rfl) (by kernel_rfl) rfl rfl (by kernel_rfl) (by kernel_rfl) (fun _ _ _ h => h) (Or.inl ⟨by rfl, ?_⟩) (by exact HC.out) ?_
          rotate_left
          · intro w hSw; (try dsimp only at hSw); obtain ⟨⟨r0, r1, r2, r3, r4, r5⟩, q0, q1, q2, q3, q4, q5⟩ := hSw; (try simp only at r0 r1 r2 r3 r4 r5 q0 q1 q2 q3 q4 q5); go_simp; try (with_reducible rfl)
          repeat (first | simp only [Act.put] | simp only [List.setIfInBounds_toArray] | simp only [List.set_cons_zero] | simp only [List.set_cons_succ])
          refine wpAnyE_take [7, 6] (i := 6) (oi := { dst := some 45, op := Op.indexAddr 22 (Operand.tmp 43) (Operand.tmp 44), type := 0, pos := "law.go:99", after := #[{ on := 4, ground := Ground.data }, { on := 5, ground := Ground.data }], guard := none }) (v := ?_) rfl (by kernel_rfl) (by kernel_rfl) (by kernel_rfl) (by kernel_rfl) rfl rfl (by kernel_rfl) (by kernel_rfl) (fun _ _ _ h => h) (Or.inl ⟨by rfl, ?_⟩) (by exact HC.out) ?_
          rotate_left
          · intro w hSw; (try dsimp only at hSw); obtain ⟨⟨r0, r1, r2, r3, r4, r5⟩, q0, q1, q2, q3, q4, q5⟩ := hSw; (try simp only at r0 r1 r2 r3 r4 r5 q0 q1 q2 q3 q4 q5); go_simp; try (with_reducible rfl)
          repeat (first | simp only [Act.put] | simp only [List.setIfInBounds_toArray] | simp only [List.set_cons_zero] | simp only [List.set_cons_succ])
          refine wpAnyE_take [7] (i := 7) (oi := { dst := some 46, op := Op.load 33 (Operand.tmp 45), type := 33, pos := "law.go:99", after := #[{ on := 6, ground := Ground.data }], guard := none }) (v := ?_) rfl (by kernel_rfl) (by kernel_rfl) (by kernel_rfl) (by kernel_rfl) rfl rfl (by kernel_rfl) (by kernel_rfl) (fun _ _ _ h => h) (Or.inl ⟨by rfl, ?_⟩) (by exact HC.out) ?_
          rotate_left
          · intro w hSw; (try dsimp only at hSw); obtain ⟨⟨r0, r1, r2, r3, r4, r5⟩, q0, q1, q2, q3, q4, q5⟩ := hSw; (try simp only at r0 r1 r2 r3 r4 r5 q0 q1 q2 q3 q4 q5); go_simp; try (with_reducible rfl)
          repeat (first | simp only [Act.put] | simp only [List.setIfInBounds_toArray] | simp only [List.set_cons_zero] | simp only [List.set_cons_succ])
          refine wpAnyE_one (i := 8) (o := { dst := some 47, op := Op.call { callee := Callee.value (Operand.func 20), args := #[Operand.tmp 42, Operand.tmp 46], argTypes := #[29, 33] }, type := 4, pos := "law.go:99", after := #[{ on := 3, ground := Ground.data }, { on := 7, ground := Ground.data }], guard := none }) (by kernel_rfl) rfl (fun K hK => ?_)
          go_simp
          refine (HTO.out).mono ?_
          rintro e w5 ⟨rfl, hb5⟩
          refine hK.out _ _ (fun hL => absurd hL (by decide)) ?_
          clear hK K
          repeat (first | simp only [Act.put] | simp only [List.setIfInBounds_toArray] | simp only [List.set_cons_zero] | simp only [List.set_cons_succ])
          refine wpAnyE_one (i := 9) (o := { dst := some 48, op := Op.unOp UnOp.not 4 (Operand.tmp 47), type := 4, pos := "law.go:99", after := #[{ on := 8, ground := Ground.data }], guard := none }) (by kernel_rfl) rfl (fun K hK => ?_)
          go_simp
          refine hK.out _ _ (fun hL => absurd hL (by decide)) ?_
          clear hK K
          repeat (first | simp only [Act.put] | simp only [List.setIfInBounds_toArray] | simp only [List.set_cons_zero] | simp only [List.set_cons_succ])
          refine wpAnyE_done (by kernel_rfl) ?_ _
          go_wp2_with fail
          go_roundw
          case rel => exact ⟨k + 1, by go_num, by omega, HBR.out.drew.trans (hb5.mono HBR.out.size)⟩
          case measure => simp [intOf]; omega
      · obtain rfl : k = l.length := by omega
        have HB4 := Lib.hid (HB3.out.trans (hbr.mono HB3.out.size))
        go_wp2_with (go_at_call 17; refine (gawake_any (HT.out.below HB4.out)).mono ?_; rintro e w5 ⟨rfl, hb5⟩)
        go_ret
        exact ⟨rfl, HB4.out.trans (hb5.mono HB4.out.size)⟩
#print axioms greads_walk
end Go.Proofs.YtgcgmgcgbnepeaaDoor
