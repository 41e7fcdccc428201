/- frame.Write: its contract. -/
import Derived.Test.YtocfkkppalpamaaDoorGW5
namespace Go.Proofs.YtocfkkppalpamaaDoor
open Go Go.RowKit

theorem wrF_len {f : Fv} (h : rightF f) : (wrF f).length ≤ 1300 := by
  obtain ⟨k, c, sp, a, d, t⟩ := f
  rcases h with ⟨rfl, h1, h2, _⟩ | ⟨rfl | rfl, _⟩ | ⟨rfl, _, hA, _⟩ | ⟨rfl, _, _, hA, hD, _⟩ | ⟨rfl, _, _, _, _, hT⟩ | ⟨rfl, hC, _, _, _, hT⟩ | ⟨rfl, hC, _⟩
  · simp [wrF] at *; omega
  · simp [wrF]
  · simp [wrF]
  · have := wrAck_len sp
    have hk := ((ack_iff sp).2 hA).2.1
    simp [wrF]; omega
  · have := enc_len a
    have := enc_len (d.length : Int)
    simp [wrF] at *; omega
  · simp [wrF, gbig_len]
  · have := enc_len c
    simp [wrF, gbig_len]; omega
  · have := enc_len c
    simp [wrF]; omega
/-- What Write tells. -/
def WPost (w : World) (l : List Fe) (e : Ending) (w' : World) : Prop :=
  ∃ u zs n, e = .returned (.tuple #[u, .int .i64 n]) ∧ (Ra w.heap.size w' u zs ∧ Plain u) ∧ Below w.heap.size w w' ∧
    ((¬ mayP l ∧ zs = [] ∧ n = 1) ∨ (mayP l ∧ 1200 < (wrAll (l.map Fe.f)).length ∧ zs = [] ∧ n = 4) ∨ (mayP l ∧ (wrAll (l.map Fe.f)).length ≤ 1200 ∧ zs = wrAll (l.map Fe.f) ∧ n = 0))
theorem wpost_no {w w' : World} {l : List Fe} {n : Int} (hb : Below w.heap.size w w') (h : (¬ mayP l ∧ n = 1) ∨ (mayP l ∧ 1200 < (wrAll (l.map Fe.f)).length ∧ n = 4)) : WPost w l (.returned (.tuple #[.slice none 0 0, .int .i64 n])) w' := by
  refine ⟨_, [], n, rfl, ⟨⟨Rd.nil _, fun _ _ _ h => by cases h⟩, .inl rfl⟩, hb, ?_⟩
  rcases h with ⟨h, e⟩ | ⟨h, h2, e⟩
  · exact .inl ⟨h, rfl, e⟩
  · exact .inr (.inl ⟨h, h2, rfl, e⟩)
theorem wr_step {l : List Fe} {k : Nat} {e : Fe} (he : l[k]? = some e) : wrAll ((l.drop k).map Fe.f) = wrF e.f ++ wrAll ((l.drop (k + 1)).map Fe.f) := by
  obtain ⟨hk, h⟩ := List.getElem?_eq_some_iff.1 he
  rw [List.drop_eq_getElem_cons hk, h]
  rfl
set_option maxRecDepth 20000 in
set_option maxHeartbeats 4000000 in
theorem gwrite_any {w : World} {v : Value} {l : List Fe} (h : Fl w v l) (hl : l.length ≤ 2000) (ht : Tab w) (_hw : 1 < w.heap.size) : Calls Tryd.prog 13 #[v] w (WPost w l) := by
  have HF := Lib.hid h
  have HT := Lib.hid ht
  have hM := may_any h hl
  have hl' : (l.length : Int) ≤ 2000 := by omega
  obtain ⟨ao, cap, rfl⟩ := h.shape
  clear h ht
  by_cases hp : mayP l
  · have hM' : Calls Tryd.prog 26 #[.slice ao l.length cap] w fun e w' => e = .returned (.bool true) ∧ Below w.heap.size w w' := hM.mono fun e w' ⟨b, he, hi, hb⟩ => ⟨by rw [he, hi.2 hp], hb⟩
    have HP := Lib.hid hp
    clear hM hp
    go_enter Tryd.func13, Tryd.ntmps13
    go_wp2_with (go_at_call 26; refine hM'.mono ?_; rintro e w1 ⟨rfl, hb1⟩)
    have HB1 := Lib.hid hb1
    clear hM' hb1
    go_loopw [4, 12] (fun u i wr => ∃ (k : Nat) (P : List Int), i = .int .i64 k ∧ k ≤ l.length ∧ wr.ownsRow w.heap.size 5 1 u P.length (by8 P) ∧ Hid (P ++ wrAll ((l.drop k).map Fe.f) = wrAll (l.map Fe.f)) ∧ P.length ≤ 1200 ∧ Hid (Byt P) ∧ Below w.heap.size w wr) (fun _ i _ => l.length - (intOf i).toNat)
    case atStart => exact ⟨0, [], rfl, by omega, World.ownsRow_nil _ _ _ _, Lib.hid rfl, by simp, Lib.hid Byt.nil, HB1.out⟩
    case round =>
      obtain ⟨k, P, rfl, hk, ho, hE, hPl, hPb, hbel⟩ := hrel
      have hk' : (k : Int) ≤ (l.length : Int) := by omega
      have HO := Lib.hid ho
      obtain ⟨ua, uc, rfl⟩ := own_shape ho
      clear ho
      by_cases hlt : k < l.length
      · have hlt' : (k : Int) < (l.length : Int) := by omega
        have hsz := hbel.size
        have HB := Lib.hid hbel
        obtain ⟨b, off, cap', e0, hb, hat⟩ := (HF.out.below hbel).at (by omega)
        simp only [Value.slice.injEq] at e0
        obtain ⟨rfl, _, rfl⟩ := e0
        obtain ⟨e, he⟩ : ∃ e, l[k]? = some e := ⟨_, List.getElem?_eq_getElem hlt⟩
        have hst := wr_step he
        have hrt := (right_iff _).1 (((stand_iff l).1 HP.out.2 k hlt) e he).1
        have hfr := HF.out.rd e (List.mem_of_getElem? he)
        obtain ⟨x0, x1, x2, x3, x4, x5⟩ := hat k e he
        obtain ⟨f, sv, dv⟩ := e
        simp only at x0 x1 x2 x3 x4 x5 hst hrt
        have hbA := (hbel.trans ((below_alloc wr (.cells (fCells f sv dv) 29)).mono hsz))
        have hfr2 := hfr.below hbA
        have hW := written_any (f := f) (sv := sv) (dv := dv) hfr2.1 hfr2.2 hrt (HT.out.below hbA) (by simp; omega)
        have hLl := wrF_len hrt
        have hs1 : Rs w sv f.sp := hfr.1
        have hd1 : Rd w dv f.d := hfr.2
        obtain ⟨sa, sn, rfl⟩ := rs_shape hs1
        obtain ⟨da, dn, rfl⟩ := hd1.shape
        have HST := Lib.hid hst
        have HBA := Lib.hid hbA
        unfold fAgg fCells at hW
        generalize wrF f = L at *
        clear hbel hat hfr hfr2 he hs1 hd1 hst hrt hbA
        have hk0 : k = 0 ∨ 0 < k := by omega
        by_cases hq : P.length + L.length ≤ 1200
        · have hq' : (P.length : Int) + (L.length : Int) ≤ 1200 := by omega
          rcases hk0 with rfl | hk0
          · simp only [Nat.zero_mul, Nat.add_zero] at x0 x1 x2 x3 x4 x5
            go_wp2_with (first
              | (go_at_call 27; refine hW.mono ?_; rintro e w2 ⟨v2, rfl, hr2, hb2⟩; obtain ⟨a2, c2, rfl⟩ := hr2.shape)
              | (at_builtin; refine wpList_append_bytes (.tmp 16) (.tmp 18) 26 rfl rfl info5 Tryd.underlying26 w.heap.size _ P.length P rfl (own_below (HO.out.alloc _) hb2) _ L rfl hr2 (by omega) (by have := hb2.size; simp at this; omega) ?_; intro v3 w3 hown3 hb3; obtain ⟨a3, c3, rfl⟩ := own_shape hown3))
            go_roundw
            case rel => exact ⟨1, P ++ L, by go_num, by omega, by simpa using hown3, Lib.hid (by rw [← hE.out, HST.out]; simp), by simp; omega, Lib.hid (hPb.out.app hr2.byt), (HBA.out.trans (hb2.mono HBA.out.size)).trans hb3⟩
            case measure => simp [intOf]; omega
          · go_wp2_with (first
              | (go_at_call 27; refine hW.mono ?_; rintro e w2 ⟨v2, rfl, hr2, hb2⟩; obtain ⟨a2, c2, rfl⟩ := hr2.shape)
              | (at_builtin; refine wpList_append_bytes (.tmp 16) (.tmp 18) 26 rfl rfl info5 Tryd.underlying26 w.heap.size _ P.length P rfl (own_below (HO.out.alloc _) hb2) _ L rfl hr2 (by omega) (by have := hb2.size; simp at this; omega) ?_; intro v3 w3 hown3 hb3; obtain ⟨a3, c3, rfl⟩ := own_shape hown3))
            go_roundw
            case rel => exact ⟨k + 1, P ++ L, by go_num, by omega, by simpa using hown3, Lib.hid (by rw [← hE.out, HST.out]; simp), by simp; omega, Lib.hid (hPb.out.app hr2.byt), (HBA.out.trans (hb2.mono HBA.out.size)).trans hb3⟩
            case measure => simp [intOf]; omega
        · have hq' : (1200 : Int) < (P.length : Int) + (L.length : Int) := by omega
          have HBIG : Hid (1200 < (wrAll (l.map Fe.f)).length) := Lib.hid (by rw [← hE.out, HST.out]; simp; omega)
          rcases hk0 with rfl | hk0
          · simp only [Nat.zero_mul, Nat.add_zero] at x0 x1 x2 x3 x4 x5
            go_wp2_with (first
              | (go_at_call 27; refine hW.mono ?_; rintro e w2 ⟨v2, rfl, hr2, hb2⟩; obtain ⟨a2, c2, rfl⟩ := hr2.shape)
              | (at_builtin; refine wpList_append_bytes (.tmp 16) (.tmp 18) 26 rfl rfl info5 Tryd.underlying26 w.heap.size _ P.length P rfl (own_below (HO.out.alloc _) hb2) _ L rfl hr2 (by omega) (by have := hb2.size; simp at this; omega) ?_; intro v3 w3 hown3 hb3; obtain ⟨a3, c3, rfl⟩ := own_shape hown3))
            go_ret2
            exact wpost_no ((HBA.out.trans (hb2.mono HBA.out.size)).trans hb3) (.inr ⟨HP.out, HBIG.out, rfl⟩)
          · go_wp2_with (first
              | (go_at_call 27; refine hW.mono ?_; rintro e w2 ⟨v2, rfl, hr2, hb2⟩; obtain ⟨a2, c2, rfl⟩ := hr2.shape)
              | (at_builtin; refine wpList_append_bytes (.tmp 16) (.tmp 18) 26 rfl rfl info5 Tryd.underlying26 w.heap.size _ P.length P rfl (own_below (HO.out.alloc _) hb2) _ L rfl hr2 (by omega) (by have := hb2.size; simp at this; omega) ?_; intro v3 w3 hown3 hb3; obtain ⟨a3, c3, rfl⟩ := own_shape hown3))
            go_ret2
            exact wpost_no ((HBA.out.trans (hb2.mono HBA.out.size)).trans hb3) (.inr ⟨HP.out, HBIG.out, rfl⟩)
      · obtain rfl : k = l.length := by omega
        have HEQ : Hid (P = wrAll (l.map Fe.f)) := Lib.hid (by have := hE.out; rw [List.drop_length] at this; simpa [wrAll] using this)
        go_wp2_with fail
        go_ret2
        exact ⟨_, P, 0, rfl, ra_own HO.out hPb.out, hbel, .inr (.inr ⟨HP.out, by rw [← HEQ.out]; exact hPl, HEQ.out, rfl⟩)⟩
  · have hM' : Calls Tryd.prog 26 #[.slice ao l.length cap] w fun e w' => e = .returned (.bool false) ∧ Below w.heap.size w w' := hM.mono fun e w' ⟨b, he, hi, hb⟩ => ⟨by
      have : b = false := by
        cases b
        · rfl
        · exact absurd (hi.1 rfl) hp
      rw [he, this], hb⟩
    have HP := Lib.hid hp
    clear hM hp
    go_enter Tryd.func13, Tryd.ntmps13
    go_wp2_with (go_at_call 26; refine hM'.mono ?_; rintro e w1 ⟨rfl, hb1⟩)
    go_ret2
    exact wpost_no hb1 (.inl ⟨HP.out, rfl⟩)
#print axioms gwrite_any
end Go.Proofs.YtocfkkppalpamaaDoor
