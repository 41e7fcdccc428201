/- frame: slices of frames in memory; mayStand. -/
import Derived.Test.YtgcgmgcgbnepeaaDoorGW4
namespace Go.Proofs.YtgcgmgcgbnepeaaDoor
open Go Go.RowKit

/-- A frame among others, with the values of its two rows. -/
structure Fe where
  f : Fv
  sv : Value
  dv : Value
def feC (e : Fe) : List Value := [.int .i64 e.f.k, .int .i64 e.f.c, e.sv, .int .i64 e.f.a, e.dv, .int .i64 e.f.t]
/-- A frame's rows read. -/
def Fr2 (w : World) (e : Fe) : Prop := Rs w e.sv e.f.sp ∧ Rd w e.dv e.f.d
/-- The value reads as these frames. -/
structure Fl (w : World) (v : Value) (l : List Fe) : Prop where
  sl : ∃ (ao : Option Addr) (cap : Nat), v = .slice ao l.length cap ∧ l.length ≤ cap ∧ cap ≤ maxLen ∧ (ao = none → cap = 0) ∧ ∀ a, ao = some a → ∀ j e, l[j]? = some e → ∀ i u, (feC e)[i]? = some u → w.cell? (a.add (j * 6 + i)) = some u
  rd : ∀ e ∈ l, Fr2 w e
theorem Fr2.below {w w' : World} {e : Fe} (h : Fr2 w e) (hb : Below w.heap.size w w') : Fr2 w' e := ⟨h.1.below hb, h.2.below hb⟩
theorem Fl.below {w w' : World} {v : Value} {l : List Fe} (h : Fl w v l) (hb : Below w.heap.size w w') : Fl w' v l := by
  obtain ⟨ao, cap, hv, h1, h2, h3, hc⟩ := h.sl
  refine ⟨⟨ao, cap, hv, h1, h2, h3, fun a ha j e hj i u hu => ?_⟩, fun e he => (h.rd e he).below hb⟩
  have hx := hc a ha j e hj i u hu
  rw [hb.cell (cell_lt hx)]; exact hx
theorem Fl.shape {w : World} {v : Value} {l : List Fe} (h : Fl w v l) : ∃ ao cap, v = .slice ao l.length cap := by
  obtain ⟨ao, cap, hv, _⟩ := h.sl
  exact ⟨ao, cap, hv⟩
/-- The cells of a frame at a place. -/
structure FeAt (w : World) (b o : Nat) (e : Fe) : Prop where
  c0 : w.cell? ⟨b, o, none⟩ = some (.int .i64 e.f.k)
  c1 : w.cell? ⟨b, o + 1, none⟩ = some (.int .i64 e.f.c)
  c2 : w.cell? ⟨b, o + 2, none⟩ = some e.sv
  c3 : w.cell? ⟨b, o + 3, none⟩ = some (.int .i64 e.f.a)
  c4 : w.cell? ⟨b, o + 4, none⟩ = some e.dv
  c5 : w.cell? ⟨b, o + 5, none⟩ = some (.int .i64 e.f.t)
theorem Fl.at {w : World} {v : Value} {l : List Fe} (h : Fl w v l) (hz : 0 < l.length) : ∃ b off cap, v = .slice (some ⟨b, off, none⟩) l.length cap ∧ b < w.heap.size ∧ ∀ j e, l[j]? = some e → FeAt w b (off + j * 6) e := by
  obtain ⟨ao, cap, hv, h1, h2, h3, hc⟩ := h.sl
  cases ao with
  | none => have := h3 rfl; omega
  | some a =>
    obtain ⟨b, off, spot⟩ := a
    have h0 := hc _ rfl 0 _ (List.getElem?_eq_getElem hz) 0 _ rfl
    have hs : spot = none := by simpa [Addr.add] using World.cell?_spot h0
    subst hs
    refine ⟨b, off, cap, hv, cell_lt (by simpa [Addr.add] using h0), fun j e hj => ?_⟩
    have h := hc _ rfl j e hj
    have key : ∀ i u, (feC e)[i]? = some u → w.cell? ⟨b, off + j * 6 + i, none⟩ = some u := fun i u hu => by
      have := h i u hu
      rw [Addr.add_lit] at this
      rw [Nat.add_assoc]; exact this
    exact ⟨key 0 _ rfl, key 1 _ rfl, key 2 _ rfl, key 3 _ rfl, key 4 _ rfl, key 5 _ rfl⟩
theorem FeAt.below {w w' : World} {b o : Nat} {e : Fe} (h : FeAt w b o e) {base : Nat} (hb : Below base w w') (hl : b < base) : FeAt w' b o e :=
  ⟨keepT hb hl h.c0, keepT hb hl h.c1, keepT hb hl h.c2, keepT hb hl h.c3, keepT hb hl h.c4, keepT hb hl h.c5⟩
/-- The frame at a place may stand there. -/
def stAt (l : List Fe) (k : Nat) : Prop := ∀ e, l[k]? = some e → rightB e.f = true ∧ ∀ p, 0 < k → l[k - 1]? = some p → ¬ (e.f.k = 0 ∧ p.f.k = 0)
def mayP (l : List Fe) : Prop := l ≠ [] ∧ standF (l.map Fe.f)
theorem stand_iff : ∀ (l : List Fe), standF (l.map Fe.f) ↔ ∀ k, k < l.length → stAt l k := by
  intro l
  induction l with
  | nil => simp [standF]
  | cons e r ih =>
    simp only [List.map_cons, standF]
    rw [ih]
    constructor
    · rintro ⟨h1, h2, h3⟩ k hk
      cases k with
      | zero =>
        intro e' he'
        simp at he'
        subst he'
        exact ⟨(right_iff _).2 h1, fun p h => absurd h (by omega)⟩
      | succ k =>
        intro e' he'
        have hk' : k < r.length := by simpa using hk
        have := h3 k hk' e' (by simpa using he')
        refine ⟨this.1, fun p _ hp => ?_⟩
        cases k with
        | zero =>
          simp at hp he'
          subst hp
          rintro ⟨q1, q2⟩
          cases r with
          | nil => simp at hk'
          | cons g r' =>
            simp at he'
            subst he'
            exact h2 q2 _ _ rfl q1
        | succ k => exact this.2 p (by omega) (by simpa using hp)
    · intro h
      refine ⟨(right_iff _).1 ((h 0 (by simp) e rfl).1), fun hk g q hq => ?_, fun k hk => ?_⟩
      · cases r with
        | nil => simp at hq
        | cons g' r' =>
          simp at hq
          rw [← hq.1]
          have := (h 1 (by simp) g' rfl).2 e (by omega) rfl
          intro hg
          exact this ⟨hg, hk⟩
      · intro e' he'
        have := h (k + 1) (by simpa using hk) e' (by simpa using he')
        refine ⟨this.1, fun p h0 hp => this.2 p (by omega) ?_⟩
        obtain ⟨j, rfl⟩ : ∃ j, k = j + 1 := ⟨k - 1, by omega⟩
        simpa using hp
/-- What mayStand tells. -/
def MayPost (w : World) (l : List Fe) (e : Ending) (w' : World) : Prop := ∃ b : Bool, e = .returned (.bool b) ∧ (b = true ↔ mayP l) ∧ Below w.heap.size w w'
theorem mpost {w w' : World} {l : List Fe} {b : Bool} (h : b = true ↔ mayP l) (hb : Below w.heap.size w w') : MayPost w l (.returned (.bool b)) w' := ⟨b, rfl, h, hb⟩
set_option maxRecDepth 20000 in
set_option maxHeartbeats 4000000 in
theorem may_any {w : World} {v : Value} {l : List Fe} (h : Fl w v l) (hl : l.length ≤ 2000) : Calls Tryd.prog 26 #[v] w (MayPost w l) := by
  have HF := Lib.hid h
  have hl' : (l.length : Int) ≤ 2000 := by omega
  obtain ⟨ao, cap, rfl⟩ := h.shape
  clear h
  go_enter Tryd.func26, Tryd.ntmps26
  go_wp2_with fail
  go_loopw [7] (fun i wr => ∃ k : Nat, i = .int .i64 k ∧ k ≤ l.length ∧ Hid (∀ j, j < k → stAt l j) ∧ Below w.heap.size w wr) (fun i _ => l.length - (intOf i).toNat)
  case atStart => exact ⟨0, rfl, by omega, Lib.hid (fun j hj => by omega), Below.refl _ _⟩
  case round =>
    obtain ⟨k, rfl, hk, hok, hbel⟩ := hrel
    have hk' : (k : Int) ≤ (l.length : Int) := by omega
    by_cases hlt : k < l.length
    · have hlt' : (k : Int) < (l.length : Int) := by omega
      have hsz := hbel.size
      have HB := Lib.hid hbel
      obtain ⟨b, off, cap', e0, hb, hat⟩ := (HF.out.below hbel).at (by omega)
      simp only [Value.slice.injEq] at e0
      obtain ⟨rfl, _, rfl⟩ := e0
      obtain ⟨e, he⟩ : ∃ e, l[k]? = some e := ⟨_, List.getElem?_eq_getElem hlt⟩
      have hA := hat k e he
      obtain ⟨x0, x1, x2, x3, x4, x5⟩ := hA
      have hfr := HF.out.rd e (List.mem_of_getElem? he)
      have HNO : Hid (¬ stAt l k → ¬ mayP l) := Lib.hid fun hn hp => hn ((stand_iff l).1 hp.2 k hlt)
      have HYS : Hid (stAt l k → ∀ j, j < k + 1 → stAt l j) := Lib.hid fun hs j hj => by
        by_cases e : j = k
        · rw [e]; exact hs
        · exact hok.out j (by omega)
      have HE := Lib.hid he
      have HAT := Lib.hid hat
      obtain ⟨f, sv, dv⟩ := e
      simp only at x0 x1 x2 x3 x4 x5
      have hfr2 := (hfr.below (hbel.trans ((below_alloc wr (.cells (fCells f sv dv) 29)).mono hsz)))
      have hR := right_any (f := f) hfr2.1 hfr2.2.shape
      have hs1 : Rs w sv f.sp := hfr.1
      have hd1 : Rd w dv f.d := hfr.2
      obtain ⟨sa, sn, rfl⟩ := rs_shape hs1
      obtain ⟨da, dn, rfl⟩ := hd1.shape
      have HBX := Lib.hid (heap_alloc_new wr (.cells (fCells f (.slice sa f.sp.length sn) (.slice da f.d.length dn)) 29))
      unfold fAgg fCells at hR
      clear hok hbel hat hfr hfr2 he hs1 hd1
      by_cases hr : rightB f = true
      · rw [hr] at hR
        have HR := Lib.hid hr
        clear hr
        cases k with
        | zero =>
          simp only [Nat.zero_mul, Nat.add_zero] at x0 x1 x2 x3 x4 x5
          have HQ : Hid (stAt l 0) := Lib.hid (fun e' he' => by
            have := HE.out
            rw [this] at he'
            cases he'
            exact ⟨HR.out, fun p h => absurd h (by omega)⟩)
          go_wp2_with (go_at_call 10; refine hR.mono ?_; rintro e w1 ⟨rfl, hb1⟩; have q0 : w1.cell? ⟨wr.heap.size, 0, none⟩ = some (.int .i64 f.k) := (cell_of_row w1 wr.heap.size 0 _ _ (0, 0) ((hb1.block wr.heap.size (by simp)).trans HBX.out)).trans rfl)
          go_roundw
          case rel => exact ⟨1, by go_num, by omega, Lib.hid (HYS.out HQ.out), (HB.out.alloc hsz _).trans (hb1.mono (by simp; omega))⟩
          case measure => simp [intOf]; omega
        | succ j =>
          obtain ⟨p, hp⟩ : ∃ p, l[j]? = some p := ⟨_, List.getElem?_eq_getElem (by omega)⟩
          have y0 := (HAT.out j p hp).c0
          have HPJ := Lib.hid hp
          have hjl : (j : Int) < (l.length : Int) := by omega
          have z5' : decide ((0 : Int) < (j : Int) + 1) = true := decide_eq_true (by omega)
          clear hp
          have HQ : Hid (¬ (f.k = 0 ∧ p.f.k = 0) → stAt l (j + 1)) := Lib.hid (fun hn e' he' => by
            have := HE.out
            rw [this] at he'
            cases he'
            refine ⟨HR.out, fun p' _ hp' => ?_⟩
            rw [Nat.add_sub_cancel, HPJ.out] at hp'
            cases hp'
            exact hn)
          have HN : Hid (f.k = 0 ∧ p.f.k = 0 → ¬ mayP l) := Lib.hid (fun hz => HNO.out fun hs => (hs _ HE.out).2 p (by omega) (by simpa using HPJ.out) hz)
          generalize p.f.k = pk at *
          obtain ⟨fk, fc, fsp, fa, fd, ft⟩ := f
          simp only at *
          by_cases h0 : fk = 0
          · by_cases hp0 : pk = 0
            · have HQ2 := Lib.hid (HN.out ⟨h0, hp0⟩)
              subst h0
              subst hp0
              go_wp2_with (go_at_call 10; refine hR.mono ?_; rintro e w1 ⟨rfl, hb1⟩; have q0 : w1.cell? ⟨wr.heap.size, 0, none⟩ = some (.int .i64 0) := (cell_of_row w1 wr.heap.size 0 _ _ (0, 0) ((hb1.block wr.heap.size (by simp)).trans HBX.out)).trans rfl; have q1 := keepT hb1 (show b < _ by simp; omega) (keepT (below_alloc wr _) hb y0))
              go_ret
              exact mpost (by simp; exact HQ2.out) ((HB.out.alloc hsz _).trans (hb1.mono (by simp; omega)))
            · have HQ2 := Lib.hid (HQ.out fun h => hp0 h.2)
              have ep : (pk == 0) = false := beq_eq_false_iff_ne.2 hp0
              subst h0
              clear hp0
              go_wp2_with (go_at_call 10; refine hR.mono ?_; rintro e w1 ⟨rfl, hb1⟩; have q0 : w1.cell? ⟨wr.heap.size, 0, none⟩ = some (.int .i64 0) := (cell_of_row w1 wr.heap.size 0 _ _ (0, 0) ((hb1.block wr.heap.size (by simp)).trans HBX.out)).trans rfl; have q1 := keepT hb1 (show b < _ by simp; omega) (keepT (below_alloc wr _) hb y0))
              go_roundw
              case rel => exact ⟨j + 1 + 1, by go_num, by omega, Lib.hid (HYS.out HQ2.out), (HB.out.alloc hsz _).trans (hb1.mono (by simp; omega))⟩
              case measure => simp [intOf]; omega
          · have HQ2 := Lib.hid (HQ.out fun h => h0 h.1)
            have ep : (fk == 0) = false := beq_eq_false_iff_ne.2 h0
            clear h0
            go_wp2_with (go_at_call 10; refine hR.mono ?_; rintro e w1 ⟨rfl, hb1⟩; have q0 : w1.cell? ⟨wr.heap.size, 0, none⟩ = some (.int .i64 fk) := (cell_of_row w1 wr.heap.size 0 _ _ (0, 0) ((hb1.block wr.heap.size (by simp)).trans HBX.out)).trans rfl; have q1 := keepT hb1 (show b < _ by simp; omega) (keepT (below_alloc wr _) hb y0))
            go_roundw
            case rel => exact ⟨j + 1 + 1, by go_num, by omega, Lib.hid (HYS.out HQ2.out), (HB.out.alloc hsz _).trans (hb1.mono (by simp; omega))⟩
            case measure => simp [intOf]; omega
      · have hr' : rightB f = false := by simpa using hr
        have HQ : Hid (¬ mayP l) := Lib.hid (HNO.out fun hs => hr (hs _ HE.out).1)
        rw [hr'] at hR
        clear hr hr'
        cases k with
        | zero =>
          simp only [Nat.zero_mul, Nat.add_zero] at x0 x1 x2 x3 x4 x5
          go_wp2_with (go_at_call 10; refine hR.mono ?_; rintro e w1 ⟨rfl, hb1⟩; have q0 : w1.cell? ⟨wr.heap.size, 0, none⟩ = some (.int .i64 f.k) := (cell_of_row w1 wr.heap.size 0 _ _ (0, 0) ((hb1.block wr.heap.size (by simp)).trans HBX.out)).trans rfl)
          go_ret
          exact mpost (by simp; exact HQ.out) ((HB.out.alloc hsz _).trans (hb1.mono (by simp; omega)))
        | succ j =>
          go_wp2_with (go_at_call 10; refine hR.mono ?_; rintro e w1 ⟨rfl, hb1⟩; have q0 : w1.cell? ⟨wr.heap.size, 0, none⟩ = some (.int .i64 f.k) := (cell_of_row w1 wr.heap.size 0 _ _ (0, 0) ((hb1.block wr.heap.size (by simp)).trans HBX.out)).trans rfl)
          go_ret
          exact mpost (by simp; exact HQ.out) ((HB.out.alloc hsz _).trans (hb1.mono (by simp; omega)))
    · obtain rfl : k = l.length := by omega
      have HQ := Lib.hid ((stand_iff l).2 hok.out)
      by_cases hz : 0 < l.length
      · have HP : Hid (mayP l) := Lib.hid ⟨fun e => (by rw [e] at hz; simp at hz), HQ.out⟩
        have hz' : decide ((0 : Int) < (l.length : Int)) = true := decide_eq_true (by omega)
        go_wp2_with fail
        go_ret
        exact mpost (by simp; exact HP.out) hbel
      · have HP : Hid (¬ mayP l) := Lib.hid fun h => h.1 (List.eq_nil_of_length_eq_zero (by omega))
        have hz' : decide ((0 : Int) < (l.length : Int)) = false := decide_eq_false (by omega)
        go_wp2_with fail
        go_ret
        exact mpost (by simp; exact HP.out) hbel
#print axioms may_any
end Go.Proofs.YtgcgmgcgbnepeaaDoor
