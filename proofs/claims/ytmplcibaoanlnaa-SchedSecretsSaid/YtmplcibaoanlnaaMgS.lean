/- What follows of one term, and what changes when one has risen. -/
import Derived.Test.YtmplcibaoanlnaaMgO
namespace Go.Proofs.Ytmplcibaoanlnaa
open Go Go.RowKit

theorem Inr.rises {n : Nat} {S : MS} (h : Inr n S) {l : List Int} (hl : ∀ x ∈ l, 1 ≤ x ∧ x ≤ (n : Int)) : Inr n (rises S l) := by
  induction l generalizing S with
  | nil => exact h
  | cons x r ih => exact ih (h.rise (hl x (by simp)) (by decide)) fun y hy => hl y (by simp [hy])
theorem Room.rises {S : MS} {m : Nat} (h : Room S m) (l : List Int) : Room (rises S l) (m + l.length) := by
  induction l generalizing S m with
  | nil => exact h
  | cons x r ih =>
    have := ih (h.rise x 3)
    simp only [List.length_cons]
    exact this.mono (by omega)
theorem rises_snoc (S : MS) (l : List Int) (j : Nat) (h : j < l.length) : rises S (l.take (j + 1)) = riseP (rises S (l.take j)) (l.getD j 0) 3 := foldl_take _ S l j h
theorem lw_shown {c : Fx} {N : List Nd} {w w' : World} {F : Nat → Prop} {r : Nat → Int → Option Value} {S : MS} (h : LW c N w F r S) {x : Int} (hx : 1 ≤ x ∧ x ≤ (N.length : Int)) (hg : w.grownBy w' (some c.m2)) (hm : MapG w' c.m2 (fun j => if j = x then some (.agg #[]) else if S.sh j = true then some (.agg #[]) else none)) :
    LW c N w' F r { S with sh := up S.sh x true } ∧ Stp F w F w' := by
  have hsx : (fun j => if j = x then some (Value.agg #[]) else if S.sh j = true then some (.agg #[]) else none) = fun k => if up S.sh x true k = true then some (.agg #[]) else none := by
    funext j
    by_cases e : j = x
    · subst e; rw [if_pos rfl, up_same, if_pos rfl]
    · rw [if_neg e, up_other _ _ e]
  rw [hsx] at hm
  have s1 : Stp F w F w' := .of_grown hg (fun g e => by cases e; exact h.mnd.f2) (fun k hk => .inl hk)
  have hN := h.nb_ne
  refine ⟨⟨h.mnd.shown' hg _ hm, ?_, h.boxF, ?_, h.nbF, h.tab.step s1, ⟨h.inr.st0, h.inr.stb, fun y hy => ?_, h.inr.shut, h.inr.waits, h.inr.news⟩, h.wf⟩, s1⟩
  · rw [s1.block _ (blk_lt h.box) h.boxF]; exact h.box
  · rw [hg.block _ (blk_lt h.nb) (fun e => hN.2.2.1 (Option.some.inj e))]; exact h.nb
  · by_cases e : y = x
    · rw [e]; exact hx
    · exact h.inr.sh0 y (by simpa [up_other _ _ e] using hy)
theorem slice_inj {a a' : Option Addr} {n n' cap cap' : Nat} (h : Value.slice a n cap = .slice a' n' cap') : a = a' ∧ cap = cap' := by
  cases h; exact ⟨rfl, rfl⟩
theorem cell_two (w : World) (a b c : Value) (t : TypeId) : (w.alloc (.cells #[a, b, c] t)).drew.cell? ⟨w.heap.size, 2, none⟩ = some c := by
  have e := heap_alloc_new w (.cells #[a, b, c] t)
  have e2 : (w.alloc (.cells #[a, b, c] t)).drew.heap = (w.alloc (.cells #[a, b, c] t)).heap := rfl
  unfold World.cell?
  rw [e2, e]
  rfl
def Cz (g b off cap : Nat) (y u : Int) (w' : World) : Prop := w'.cell? ⟨g, 2, none⟩ = some (.slice (some ⟨b, off, none⟩) 3 cap) ∧ w'.cell? ⟨b, off, none⟩ = some (.int .i64 y) ∧ w'.cell? ⟨b, off + 2, none⟩ = some (.int .i64 u)
theorem cell_first {w : World} {ao : Option Addr} {cap : Nat} {y : Int} (h : Rd .i64 w (.slice ao 1 cap) [y]) : ∃ b off, Value.slice ao 1 cap = .slice (some ⟨b, off, none⟩) 1 cap ∧ w.cell? ⟨b, off, none⟩ = some (.int .i64 y) ∧ 1 ≤ cap := by
  rcases h.cases with ⟨h0, _⟩ | ⟨b, off, cp, e, _, h1, _, _, hc⟩
  · cases h0
  · cases e
    exact ⟨b, off, rfl, hc 0 (by simp), by simpa using h1⟩
theorem cell_second {w : World} {ao : Option Addr} {cap : Nat} {z y : Int} (h : Rd .i64 w (.slice ao 2 cap) [z, y]) : ∃ b off, Value.slice ao 2 cap = .slice (some ⟨b, off, none⟩) 2 cap ∧ w.cell? ⟨b, off + 1, none⟩ = some (.int .i64 y) ∧ 2 ≤ cap ∧ cap ≤ 9223372036854775807 := by
  rcases h.cases with ⟨h0, _⟩ | ⟨b, off, cp, e, _, h1, h2, _, hc⟩
  · cases h0
  · cases e
    exact ⟨b, off, rfl, hc 1 (by simp), by simpa using h1, h2⟩
theorem cell_third {w : World} {ao : Option Addr} {cap : Nat} {y z u : Int} (h : Rd .i64 w (.slice ao 3 cap) [y, z, u]) : ∃ b off, Value.slice ao 3 cap = .slice (some ⟨b, off, none⟩) 3 cap ∧ w.cell? ⟨b, off, none⟩ = some (.int .i64 y) ∧ w.cell? ⟨b, off + 2, none⟩ = some (.int .i64 u) ∧ 3 ≤ cap ∧ cap ≤ 9223372036854775807 := by
  rcases h.cases with ⟨h0, _⟩ | ⟨b, off, cp, e, _, h1, h2, _, hc⟩
  · cases h0
  · cases e
    exact ⟨b, off, rfl, hc 0 (by simp), hc 2 (by simp), by simpa using h1, h2⟩
set_option maxHeartbeats 8000000 in
set_option maxRecDepth 20000 in
theorem unfold_any {c : Fx} {N : List Nd} {w : World} {F : Nat → Prop} {r : Nat → Int → Option Value} {S : MS} (h : LW c N w F r S) {x : Int} (hx : 1 ≤ x ∧ x ≤ (N.length : Int)) (hroom : Room S 34359738368) :
    Calls Try.prog 48 #[.pointer (some ⟨c.M, 0, none⟩), .int .i64 x, rv c] w fun e w' => e = .returned (.tuple #[]) ∧ ∃ S', unfoldR N S x S' ∧ After c N w F S' w' := by
  have hw := h.wf1 hx.1 hx.2
  obtain ⟨c0, _⟩ := h.mnd.fields
  have hlk := h.tab.look hx.1 hx.2
  have hlow := h.wf.low x hx.1 hx.2
  have h16 := h.wf.sixteen x
  have h7 := h.wf.one x
  have h9 := h.wf.sig x
  have h10 := h.wf.sea x
  have HH := Lib.hid h
  have HX := Lib.hid hx
  have HRM := Lib.hid hroom
  have hpp : ∀ z ∈ partsN N x, 1 ≤ z ∧ z ≤ (N.length : Int) := fun z hz => by have := hlow z hz; exact ⟨this.1, by omega⟩
  have HPP := Lib.hid hpp
  have HU : Hid (∀ S', unfoldR N S x S' ↔ unfoldR N S x S') := Lib.hid fun _ => Iff.rfl
  clear h hx hroom hlow hpp
  by_cases k3 : kindN N x = 3
  · have e1 : ∀ S', S' = rises S (partsN N x) → unfoldR N S x S' := fun S' e => by unfold unfoldR; rw [if_pos k3]; exact e
    have HE := Lib.hid e1
    rw [k3] at hlk
    clear e1 h7 h9 h10
    go_enter Try.func48, Try.ntmps48
    go_wp2_with (
      go_at_call 31
      refine hlk.mono ?_
      rintro e w4 ⟨s4, pv4, rfl, ho4, hb4⟩
      obtain ⟨a4, c4, rfl, _⟩ := own_shape ho4
      have hb5 : Below w.heap.size w (w4.alloc (.cells #[.int .i64 (3), .string s4, .slice a4 (partsN N x).length c4] 47)) := hb4.trans ((below_alloc w4 _).mono hb4.size)
      have HB5 := Lib.hid hb5
      have HO5 := Lib.hid (outR_own (own_alloc ho4 (.cells #[.int .i64 (3), .string s4, .slice a4 (partsN N x).length c4] 47)) HH.out.mnd.lt)
      have HL5 := Lib.hid (HH.out.below hb5)
      clear hb4 ho4 hb5)
    have hb5 := HB5.out
    have H16 := Lib.hid h16
    clear h16 hlk
    go_loopw [27] (fun i wr => ∃ (j : Nat) (F' : Nat → Prop) (r' : Nat → Int → Option Value), j ≤ (partsN N x).length ∧ i = .int .i64 j ∧ LW c N wr F' r' (rises S ((partsN N x).take j)) ∧ Stp F w F' wr ∧ OutR F' wr (.slice a4 (partsN N x).length c4) (partsN N x)) (fun i _ => (partsN N x).length - (RowKit.intOf i).toNat)
    case atStart => exact ⟨0, F, r, Nat.zero_le _, rfl, HL5.out, .below HB5.out, HO5.out⟩
    case round =>
      obtain ⟨j, F', r', hj, rfl, hl, hs, ho⟩ := hrel
      by_cases hlt : j < (partsN N x).length
      · have hlt' : (j : Int) < ((partsN N x).length : Int) := by omega
        rcases ho.rd.cases with ⟨h0, _⟩ | ⟨b, off, cp, e, _, _, hcap, _, hc⟩
        · rw [h0] at hlt; simp at hlt
        · cases e
          have hcj := hc j hlt
          have hy := HPP.out _ (getD_mem hlt)
          have HT := Lib.hid (rises_snoc S (partsN N x) j hlt)
          have hri := rise_any hl hy (to := 3) (by decide) ((HRM.out.rises ((partsN N x).take j)).mono (by have := H16.out; rw [List.length_take]; omega))
          have HST := Lib.hid hs
          have HOR := Lib.hid ho
          clear hl hs ho hc hy
          generalize (partsN N x).getD j 0 = y at *
          unfold rv at *
          go_wp2_with (go_at_call 42; refine hri.mono ?_; rintro e w6 ⟨rfl, F2, r2, p1, p2, _⟩)
          go_roundw
          case rel => exact ⟨j + 1, F2, r2, by omega, by go_num, by rw [HT.out]; exact p1, HST.out.trans p2, HOR.out.step p2⟩
          case measure => simp [RowKit.intOf]; omega
      · obtain rfl : j = (partsN N x).length := by omega
        rw [List.take_length] at hl
        have HLW := Lib.hid hl
        have HST := Lib.hid hs
        clear hl hs ho
        go_wp2_with fail
        go_end0
        exact ⟨rfl, _, HE.out _ rfl, F', r', HLW.out, HST.out⟩
  by_cases k7 : kindN N x = 7
  · obtain ⟨y, hps⟩ : ∃ y, partsN N x = [y] := by
      have := (h7 k7).1
      match h : partsN N x, this with
      | [y], _ => exact ⟨y, rfl⟩
    have e1 : ∀ S', S' = wakeP N { S with sh := up S.sh y true } y → unfoldR N S x S' := fun S' e => by unfold unfoldR; rw [if_neg (by omega), if_pos k7, hps]; exact e
    have HE := Lib.hid e1
    have hy := HPP.out y (by rw [hps]; simp)
    have HY := Lib.hid hy
    have hy2 : y ≤ 65536 := by have := HH.out.wf.few; omega
    have HY2 := Lib.hid hy2
    have HPS := Lib.hid hps
    rw [hps] at hlk
    rw [k7] at hlk
    clear e1 h7 h9 h10 h16 hy hps hy2
    go_enter Try.func48, Try.ntmps48
    go_wp2_with (first
      | (
         go_at_call 31
         refine hlk.mono ?_
         rintro e w4 ⟨s4, pv4, rfl, ho4, hb4⟩
         obtain ⟨a4, c4, rfl, _⟩ := own_shape ho4
         have hb5 : Below w.heap.size w (w4.alloc (.cells #[.int .i64 (7), .string s4, .slice a4 1 c4] 47)) := hb4.trans ((below_alloc w4 _).mono hb4.size)
         have HB5 := Lib.hid hb5
         have HO5 := Lib.hid (outR_own (zs := [y]) (own_alloc ho4 (.cells #[.int .i64 (7), .string s4, .slice a4 1 c4] 47)) HH.out.mnd.lt)
         have kM := (HH.out.below hb5).mnd.fields.2.2.1
         have hp5 := cell_first HO5.out.rd
         obtain ⟨b, off, e5, hc5, hcap⟩ := hp5
         obtain ⟨rfl, _⟩ := slice_inj e5
         have HL5 := Lib.hid (HH.out.below hb5)
         clear hb4 ho4 hb5)
      | (at_mapUpdate
         refine wpList_updG rfl _ _ _ 69 70 rfl Try.underlying69 HL5.out.mnd.shown HY.out.1 HY2.out (.agg #[]) rfl rfl rfl ?_
         intro w6 hm6 hg6
         have h6 := lw_shown HL5.out HY.out hg6 hm6
         have HS6 := Lib.hid h6.2
         have hwk := wake_any h6.1 HY.out (Room.mono (m := 34359738368) ⟨HRM.out.shut, HRM.out.waits, HRM.out.news⟩ (by decide))
         clear h6 hm6 hg6)
      | (go_at_call 49; refine hwk.mono ?_; rintro e w7 ⟨rfl, ha7⟩))
    go_end0
    exact ⟨rfl, _, HE.out _ rfl, (ha7.pre HS6.out).pre (.below HB5.out)⟩
  by_cases k9 : kindN N x = 9
  · obtain ⟨z, y, hps⟩ : ∃ z y, partsN N x = [z, y] := by
      have := h9 k9
      match h : partsN N x, this with
      | [z, y], _ => exact ⟨z, y, rfl⟩
    have e1 : ∀ S', S' = riseP S y 3 → unfoldR N S x S' := fun S' e => by unfold unfoldR; rw [if_neg (by omega), if_neg (by omega), if_pos k9, hps]; exact e
    have HE := Lib.hid e1
    have hy := HPP.out y (by rw [hps]; simp)
    have HY := Lib.hid hy
    rw [hps] at hlk
    rw [k9] at hlk
    clear e1 h7 h9 h10 h16 hy hps
    unfold rv
    go_enter Try.func48, Try.ntmps48
    go_wp2_with (first
      | (
         go_at_call 31
         refine hlk.mono ?_
         rintro e w4 ⟨s4, pv4, rfl, ho4, hb4⟩
         obtain ⟨a4, c4, rfl, _⟩ := own_shape ho4
         have hb5 : Below w.heap.size w (w4.alloc (.cells #[.int .i64 (9), .string s4, .slice a4 2 c4] 47)) := hb4.trans ((below_alloc w4 _).mono hb4.size)
         have HB5 := Lib.hid hb5
         have HO5 := Lib.hid (outR_own (zs := [z, y]) (own_alloc ho4 (.cells #[.int .i64 (9), .string s4, .slice a4 2 c4] 47)) HH.out.mnd.lt)
         have hri := rise_any (HH.out.below hb5) HY.out (to := 3) (by decide) (HRM.out.mono (by decide))
         have hp5 := cell_second HO5.out.rd
         obtain ⟨b, off, e5, hc5, hcap, hcap2⟩ := hp5
         obtain ⟨rfl, _⟩ := slice_inj e5
         have HL5 := Lib.hid (HH.out.below hb5)
         clear hb4 ho4 hb5)
      | (go_at_call 42; refine hri.mono ?_; rintro e w7 ⟨rfl, ha7⟩))
    go_end0
    exact ⟨rfl, _, HE.out _ rfl, ha7.after.pre (.below HB5.out)⟩
  by_cases k10 : kindN N x = 10
  · obtain ⟨y, z, u, hps⟩ : ∃ y z u, partsN N x = [y, z, u] := by
      have := h10 k10
      match h : partsN N x, this with
      | [y, z, u], _ => exact ⟨y, z, u, rfl⟩
    have e1 : ∀ l S', Bel N S.st y l → S' = openP N S l y u → unfoldR N S x S' := fun l S' e e' => by unfold unfoldR; rw [if_neg (by omega), if_neg (by omega), if_neg (by omega), if_pos k10, hps]; exact ⟨l, e, e'⟩
    have HE := Lib.hid e1
    have HY := Lib.hid (HPP.out y (by rw [hps]; simp))
    have HU3 := Lib.hid (HPP.out u (by rw [hps]; simp))
    rw [hps] at hlk
    rw [k10] at hlk
    clear e1 h7 h9 h10 h16 hps
    go_enter Try.func48, Try.ntmps48
    go_wp2_with (
      go_at_call 31
      refine hlk.mono ?_
      rintro e w4 ⟨s4, pv4, rfl, ho4, hb4⟩
      obtain ⟨a4, c4, rfl, _⟩ := own_shape ho4
      have hb5 : Below w.heap.size w (w4.alloc (.cells #[.int .i64 (10), .string s4, .slice a4 3 c4] 47)) := hb4.trans ((below_alloc w4 _).mono hb4.size)
      have HB5 := Lib.hid hb5
      have HO5 := Lib.hid (outR_own (zs := [y, z, u]) (own_alloc ho4 (.cells #[.int .i64 (10), .string s4, .slice a4 3 c4] 47)) HH.out.mnd.lt)
      have hp5 := cell_third HO5.out.rd
      obtain ⟨b, off, e5, hc5, hc6, hcap, hcap2⟩ := hp5
      obtain ⟨rfl, _⟩ := slice_inj e5
      have HL5 := Lib.hid (HH.out.below hb5)
      clear hb4 ho4 hb5)
    have HC0 : Hid (Cz w4.heap.size b off c4 y u (w4.alloc (.cells #[.int .i64 10, .string s4, .slice (some ⟨b, off, none⟩) 3 c4] 47)).drew) := Lib.hid ⟨cell_two w4 _ _ _ _, hc5, hc6⟩
    have hop := open_any (HL5.out.below (Below.refl _ _).drew) HY.out HU3.out (HRM.out.mono (by decide))
    have HB6 := Lib.hid (HB5.out.drew)
    refine wp_region_end 10 (fun w' => Cz w4.heap.size b off c4 y u w') (by kernel_rfl) ?_
    refine wpAnyE_take [0] (i := 0) (oi := { dst := some 61, op := Op.move (Operand.tmp 0), type := 54, pos := "know.go:153", after := #[], guard := none }) (v := ?_) rfl (by kernel_rfl) (by kernel_rfl) (by kernel_rfl) (by kernel_rfl) rfl rfl (by kernel_rfl) (by kernel_rfl) (fun _ _ _ h => h) (Or.inl ⟨by rfl, ?_⟩) (by exact HC0.out) ?_
    rotate_left
    · intro w hSw; (try dsimp only at hSw); obtain ⟨q0, q1, q2⟩ := hSw; go_simp; try (with_reducible rfl)
    repeat (first | simp only [Act.put] | simp only [List.setIfInBounds_toArray] | simp only [List.set_cons_zero] | simp only [List.set_cons_succ])
    refine wpAnyE_take [4, 3, 2, 1] (i := 1) (oi := { dst := some 62, op := Op.fieldAddr 47 (Operand.tmp 6) 2, type := 0, pos := "know.go:153", after := #[], guard := none }) (v := ?_) rfl (by kernel_rfl) (by kernel_rfl) (by kernel_rfl) (by kernel_rfl) rfl rfl (by kernel_rfl) (by kernel_rfl) (fun _ _ _ h => h) (Or.inl ⟨by rfl, ?_⟩) (by exact HC0.out) ?_
    rotate_left
    · intro w hSw; (try dsimp only at hSw); obtain ⟨q0, q1, q2⟩ := hSw; go_simp; try (with_reducible rfl)
    repeat (first | simp only [Act.put] | simp only [List.setIfInBounds_toArray] | simp only [List.set_cons_zero] | simp only [List.set_cons_succ])
    refine wpAnyE_take [4, 3, 2] (i := 2) (oi := { dst := some 63, op := Op.load 31 (Operand.tmp 62), type := 31, pos := "know.go:153", after := #[{ on := 1, ground := Ground.data }], guard := none }) (v := ?_) rfl (by kernel_rfl) (by kernel_rfl) (by kernel_rfl) (by kernel_rfl) rfl rfl (by kernel_rfl) (by kernel_rfl) (fun _ _ _ h => h) (Or.inl ⟨by rfl, ?_⟩) (by exact HC0.out) ?_
    rotate_left
    · intro w hSw; (try dsimp only at hSw); obtain ⟨q0, q1, q2⟩ := hSw; go_simp; try (with_reducible rfl)
    repeat (first | simp only [Act.put] | simp only [List.setIfInBounds_toArray] | simp only [List.set_cons_zero] | simp only [List.set_cons_succ])
    refine wpAnyE_take [4, 3] (i := 3) (oi := { dst := some 64, op := Op.indexAddr 31 (Operand.tmp 63) (Operand.const (Value.int IntKind.i64 0)), type := 0, pos := "know.go:153", after := #[{ on := 2, ground := Ground.data }], guard := none }) (v := ?_) rfl (by kernel_rfl) (by kernel_rfl) (by kernel_rfl) (by kernel_rfl) rfl rfl (by kernel_rfl) (by kernel_rfl) (fun _ _ _ h => h) (Or.inl ⟨by rfl, ?_⟩) (by exact HC0.out) ?_
    rotate_left
    · intro w hSw; (try dsimp only at hSw); obtain ⟨q0, q1, q2⟩ := hSw; go_simp; try (with_reducible rfl)
    repeat (first | simp only [Act.put] | simp only [List.setIfInBounds_toArray] | simp only [List.set_cons_zero] | simp only [List.set_cons_succ])
    refine wpAnyE_take [4] (i := 4) (oi := { dst := some 65, op := Op.load 26 (Operand.tmp 64), type := 26, pos := "know.go:153", after := #[{ on := 3, ground := Ground.data }], guard := none }) (v := ?_) rfl (by kernel_rfl) (by kernel_rfl) (by kernel_rfl) (by kernel_rfl) rfl rfl (by kernel_rfl) (by kernel_rfl) (fun _ _ _ h => h) (Or.inl ⟨by rfl, ?_⟩) (by exact HC0.out) ?_
    rotate_left
    · intro w hSw; (try dsimp only at hSw); obtain ⟨q0, q1, q2⟩ := hSw; go_simp; try (with_reducible rfl)
    repeat (first | simp only [Act.put] | simp only [List.setIfInBounds_toArray] | simp only [List.set_cons_zero] | simp only [List.set_cons_succ])
    refine wpAnyE_take [8, 7, 6, 5] (i := 5) (oi := { dst := some 66, op := Op.fieldAddr 47 (Operand.tmp 6) 2, type := 0, pos := "know.go:153", after := #[], guard := none }) (v := ?_) rfl (by kernel_rfl) (by kernel_rfl) (by kernel_rfl) (by kernel_rfl) rfl rfl (by kernel_rfl) (by kernel_rfl) (fun _ _ _ h => h) (Or.inl ⟨by rfl, ?_⟩) (by exact HC0.out) ?_
    rotate_left
    · intro w hSw; (try dsimp only at hSw); obtain ⟨q0, q1, q2⟩ := hSw; go_simp; try (with_reducible rfl)
    repeat (first | simp only [Act.put] | simp only [List.setIfInBounds_toArray] | simp only [List.set_cons_zero] | simp only [List.set_cons_succ])
    refine wpAnyE_take [8, 7, 6] (i := 6) (oi := { dst := some 67, op := Op.load 31 (Operand.tmp 66), type := 31, pos := "know.go:153", after := #[{ on := 5, ground := Ground.data }], guard := none }) (v := ?_) rfl (by kernel_rfl) (by kernel_rfl) (by kernel_rfl) (by kernel_rfl) rfl rfl (by kernel_rfl) (by kernel_rfl) (fun _ _ _ h => h) (Or.inl ⟨by rfl, ?_⟩) (by exact HC0.out) ?_
    rotate_left
    · intro w hSw; (try dsimp only at hSw); obtain ⟨q0, q1, q2⟩ := hSw; go_simp; try (with_reducible rfl)
    repeat (first | simp only [Act.put] | simp only [List.setIfInBounds_toArray] | simp only [List.set_cons_zero] | simp only [List.set_cons_succ])
    refine wpAnyE_take [8, 7] (i := 7) (oi := { dst := some 68, op := Op.indexAddr 31 (Operand.tmp 67) (Operand.const (Value.int IntKind.i64 2)), type := 0, pos := "know.go:153", after := #[{ on := 6, ground := Ground.data }], guard := none }) (v := ?_) rfl (by kernel_rfl) (by kernel_rfl) (by kernel_rfl) (by kernel_rfl) rfl rfl (by kernel_rfl) (by kernel_rfl) (fun _ _ _ h => h) (Or.inl ⟨by rfl, ?_⟩) (by exact HC0.out) ?_
    rotate_left
    · intro w hSw; (try dsimp only at hSw); obtain ⟨q0, q1, q2⟩ := hSw; go_simp; try (with_reducible rfl)
    repeat (first | simp only [Act.put] | simp only [List.setIfInBounds_toArray] | simp only [List.set_cons_zero] | simp only [List.set_cons_succ])
    refine wpAnyE_take [8] (i := 8) (oi := { dst := some 69, op := Op.load 26 (Operand.tmp 68), type := 26, pos := "know.go:153", after := #[{ on := 7, ground := Ground.data }], guard := none }) (v := ?_) rfl (by kernel_rfl) (by kernel_rfl) (by kernel_rfl) (by kernel_rfl) rfl rfl (by kernel_rfl) (by kernel_rfl) (fun _ _ _ h => h) (Or.inl ⟨by rfl, ?_⟩) (by exact HC0.out) ?_
    rotate_left
    · intro w hSw; (try dsimp only at hSw); obtain ⟨q0, q1, q2⟩ := hSw; go_simp; try (with_reducible rfl)
    repeat (first | simp only [Act.put] | simp only [List.setIfInBounds_toArray] | simp only [List.set_cons_zero] | simp only [List.set_cons_succ])
    refine wpAnyE_take [9] (i := 9) (oi := { dst := some 70, op := Op.move (Operand.tmp 2), type := 91, pos := "know.go:153", after := #[], guard := none }) (v := ?_) rfl (by kernel_rfl) (by kernel_rfl) (by kernel_rfl) (by kernel_rfl) rfl rfl (by kernel_rfl) (by kernel_rfl) (fun _ _ _ h => h) (Or.inl ⟨by rfl, ?_⟩) (by exact HC0.out) ?_
    rotate_left
    · intro w hSw; (try dsimp only at hSw); obtain ⟨q0, q1, q2⟩ := hSw; go_simp; try (with_reducible rfl)
    repeat (first | simp only [Act.put] | simp only [List.setIfInBounds_toArray] | simp only [List.set_cons_zero] | simp only [List.set_cons_succ])
    refine wpAnyE_one (i := 10) (o := { dst := some 71, op := Op.call { callee := Callee.value (Operand.func 53), args := #[Operand.tmp 61, Operand.tmp 65, Operand.tmp 69, Operand.tmp 70], argTypes := #[54, 26, 26, 91] }, type := 0, pos := "know.go:153", after := #[{ on := 0, ground := Ground.data }, { on := 4, ground := Ground.data }, { on := 8, ground := Ground.data }, { on := 9, ground := Ground.data }], guard := none }) (by kernel_rfl) rfl (fun K hK => ?_)
    go_simp
    refine hop.mono ?_
    rintro e w7 ⟨rfl, l, hl7, ha7⟩
    refine hK.out _ _ (fun hL => absurd hL (by decide)) ?_
    clear hK K
    repeat (first | simp only [Act.put] | simp only [List.setIfInBounds_toArray] | simp only [List.set_cons_zero] | simp only [List.set_cons_succ])
    refine wpAnyE_done (by kernel_rfl) ?_ _
    simp only [Exit.inBlock]
    go_end0
    exact ⟨rfl, _, HE.out l _ hl7 rfl, ha7.pre (.below HB6.out)⟩
  have e1 : unfoldR N S x S := by unfold unfoldR; rw [if_neg k3, if_neg k7, if_neg k9, if_neg k10]
  have b3 : (kindN N x == 3) = false := by simp [k3]
  have b7 : (kindN N x == 7) = false := by simp [k7]
  have b9 : (kindN N x == 9) = false := by simp [k9]
  have b10 : (kindN N x == 10) = false := by simp [k10]
  clear k3 k7 k9 k10 h7 h9 h10
  go_enter Try.func48, Try.ntmps48
  go_wp2_with (
      go_at_call 31
      refine hlk.mono ?_
      rintro e w4 ⟨s4, pv4, rfl, ho4, hb4⟩
      obtain ⟨a4, c4, rfl, _⟩ := own_shape ho4
      have hb5 : Below w.heap.size w (w4.alloc (.cells #[.int .i64 (kindN N x), .string s4, .slice a4 (partsN N x).length c4] 47)) := hb4.trans ((below_alloc w4 _).mono hb4.size)
      have HB5 := Lib.hid hb5
      have HO5 := Lib.hid (outR_own (own_alloc ho4 (.cells #[.int .i64 (kindN N x), .string s4, .slice a4 (partsN N x).length c4] 47)) HH.out.mnd.lt)
      have HL5 := Lib.hid (HH.out.below hb5)
      clear hb4 ho4 hb5)
  go_end0
  exact ⟨rfl, S, e1, F, r, HL5.out, .below HB5.out⟩
end Go.Proofs.Ytmplcibaoanlnaa
