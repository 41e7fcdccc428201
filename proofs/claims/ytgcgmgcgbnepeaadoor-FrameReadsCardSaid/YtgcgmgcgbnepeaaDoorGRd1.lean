/- frame.Read: what its reader holds; numbers, bytes, runs by the bytes' places. -/
import Derived.Test.YtgcgmgcgbnepeaaDoorGW4
import Derived.Test.YtgcgmgcgbnepeaaDoorGNmd
namespace Go.Proofs.YtgcgmgcgbnepeaaDoor
open Go Go.RowKit

/-- Nothing but two blocks has changed of what was there. -/
structure Kq (R D : Nat) (w w' : World) : Prop where
  os : w'.os = w.os
  tape : w'.tape = w.tape
  output : w'.output = w.output
  size : w.heap.size ≤ w'.heap.size
  block : ∀ k, k < w.heap.size → k ≠ R → k ≠ D → w'.heap[k]? = w.heap[k]?
theorem Kq.refl (R D : Nat) (w : World) : Kq R D w w := ⟨rfl, rfl, rfl, Nat.le_refl _, fun _ _ _ _ => rfl⟩
theorem Kq.trans {R D : Nat} {a b c : World} (h : Kq R D a b) (k : Kq R D b c) : Kq R D a c :=
  ⟨k.os.trans h.os, k.tape.trans h.tape, k.output.trans h.output, Nat.le_trans h.size k.size, fun i hi hn hm => (k.block i (Nat.lt_of_lt_of_le hi h.size) hn hm).trans (h.block i hi hn hm)⟩
theorem Kq.l {R D : Nat} {w w' : World} (h : But R w w') : Kq R D w w' := ⟨h.os, h.tape, h.output, h.size, fun k hk hn _ => h.block k hk hn⟩
theorem Kq.r {R D : Nat} {w w' : World} (h : But D w w') : Kq R D w w' := ⟨h.os, h.tape, h.output, h.size, fun k hk _ hn => h.block k hk hn⟩
theorem Kq.of_below {R D : Nat} {w w' : World} (h : Below w.heap.size w w') : Kq R D w w' := ⟨h.os, h.tape, h.output, h.size, fun k hk _ _ => h.block k hk⟩
theorem Kq.below {R D : Nat} {w0 w w' : World} (h : Kq R D w w') (hb : Below w0.heap.size w0 w) (hR : w0.heap.size ≤ R) (hD : w0.heap.size ≤ D) : Below w0.heap.size w0 w' :=
  ⟨h.os.trans hb.os, h.tape.trans hb.tape, h.output.trans hb.output, Nat.le_trans hb.size h.size, fun k hk => (h.block k (Nat.lt_of_lt_of_le hk hb.size) (by omega) (by omega)).trans (hb.block k hk)⟩
theorem Kq.bel {R D : Nat} {w w1 w3 : World} (h : Kq R D w w1) (hb : Below w.heap.size w1 w3) : Kq R D w w3 :=
  ⟨hb.os.trans h.os, hb.tape.trans h.tape, hb.output.trans h.output, Nat.le_trans h.size hb.size, fun k hk hn hm => (hb.block k hk).trans (h.block k hk hn hm)⟩
theorem enterp {F : Nat} {fn : Func} (hf : Tryd.prog.funcs[F]? = some fn) (hn : (fn.name == "runtime.NumGoroutine") = false) (hb : fn.body.isNone = false) (args : Array Value) (w : World) : (callFunc F args).run Tryd.prog w = .ok (.enter F args) w := by
  have hn' : ¬ fn.name = "runtime.NumGoroutine" := by simpa using hn
  have hb' : ¬ fn.body = none := by intro e; rw [e] at hb; cases hb
  simp [callFunc, hf, hn', hb']

theorem Fq.kq {w0 w w' : World} {R D B : Nat} {rest : List Int} {t : Nat} {short : Int} (h : Fq w0 w B rest t short) (hb : Kq R D w w') (hR : w0.heap.size ≤ R) (hD : w0.heap.size ≤ D) (h1 : B ≠ R) (h2 : B ≠ D) : Fq w0 w' B rest t short := by
  obtain ⟨rv, h3, h4⟩ := h.box
  exact ⟨hb.below h.bel hR hD, h.lo, h.sum, rv, by rw [hb.block B h.lt h1 h2]; exact h3, h4⟩
/-- The reader's cells. -/
def gCells (B : Nat) (f : Fv) (sv dv : Value) : Array Value := #[.pointer (some ⟨B, 0, none⟩), .int .i64 f.k, .int .i64 f.c, sv, .int .i64 f.a, dv, .int .i64 f.t]
/-- The reader in the box R: the fields' reader in B, the frame as far as it is taken; its rows lie from lo on. -/
structure Gq (w : World) (R B lo : Nat) (f : Fv) (sv dv : Value) : Prop where
  box : w.heap[R]? = some (.cells (gCells B f sv dv) 64 (0, 0))
  sp : w.ownsRow lo 56 2 sv f.sp.length (sc f.sp)
  d : Ra lo w dv f.d
  pl : Plain dv
  ord : B < R ∧ R < lo ∧ lo ≤ w.heap.size
theorem Gq.lt {w : World} {R B lo : Nat} {f : Fv} {sv dv : Value} (h : Gq w R B lo f sv dv) : R < w.heap.size := by have := h.ord; omega
theorem Gq.cells {w : World} {R B lo : Nat} {f : Fv} {sv dv : Value} (h : Gq w R B lo f sv dv) :
    w.cell? ⟨R, 0, none⟩ = some (.pointer (some ⟨B, 0, none⟩)) ∧ w.cell? ⟨R, 1, none⟩ = some (.int .i64 f.k) ∧ w.cell? ⟨R, 2, none⟩ = some (.int .i64 f.c) ∧ w.cell? ⟨R, 3, none⟩ = some sv ∧
    w.cell? ⟨R, 4, none⟩ = some (.int .i64 f.a) ∧ w.cell? ⟨R, 5, none⟩ = some dv ∧ w.cell? ⟨R, 6, none⟩ = some (.int .i64 f.t) ∧ (∀ j, w.frozen? ⟨R, j, none⟩ = false) :=
  have c := fun j => cell_of_row w R j _ _ (0, 0) h.box
  ⟨(c 0).trans rfl, (c 1).trans rfl, (c 2).trans rfl, (c 3).trans rfl, (c 4).trans rfl, (c 5).trans rfl, (c 6).trans rfl, fun j => by simp [World.frozen?, h.box]⟩
/-- What changes no block but K, not the box, and K ahead of its rows, keeps the reader. -/
theorem Gq.keep {w w' : World} {R B lo K : Nat} {f : Fv} {sv dv : Value} (h : Gq w R B lo f sv dv) (hb : But K w w') (hne : R ≠ K) (hK : K < lo) : Gq w' R B lo f sv dv := by
  obtain ⟨o1, o2, o3⟩ := h.ord
  exact ⟨by rw [hb.block R h.lt hne]; exact h.box, own_keepG h.sp fun k hk hl => hb.block k hk (by omega), h.d.keep fun k hk hl => hb.block k hk (by omega), h.pl, o1, o2, Nat.le_trans o3 hb.size⟩
theorem Gq.below {w w' : World} {R B lo : Nat} {f : Fv} {sv dv : Value} (h : Gq w R B lo f sv dv) (hb : Below w.heap.size w w') : Gq w' R B lo f sv dv := by
  obtain ⟨o1, o2, o3⟩ := h.ord
  exact ⟨by rw [hb.block R h.lt]; exact h.box, own_keepG h.sp fun k hk hl => hb.block k hk, h.d.keep fun k hk hl => hb.block k hk, h.pl, o1, o2, Nat.le_trans o3 hb.size⟩
theorem Gq.drew {w : World} {R B lo : Nat} {f : Fv} {sv dv : Value} (h : Gq w R B lo f sv dv) : Gq w.drew R B lo f sv dv := ⟨h.box, h.sp, ⟨h.d.rd, h.d.far⟩, h.pl, h.ord⟩
theorem Gq.set {w : World} {R B lo : Nat} {f : Fv} {sv dv : Value} (h : Gq w R B lo f sv dv) (i : Nat) (x : Value) : (w.setCell ⟨R, i, none⟩ x).heap[R]? = some (.cells ((gCells B f sv dv).setIfInBounds i x) 64 (0, 0)) := heap_setCell_same w R i _ 64 x h.box
/-- A store of a number into the box. -/
theorem Gq.setc {w : World} {R B lo : Nat} {f : Fv} {sv dv : Value} (h : Gq w R B lo f sv dv) (x : Int) : Gq (w.setCell ⟨R, 2, none⟩ (.int .i64 x)) R B lo { f with c := x } sv dv := by
  obtain ⟨o1, o2, o3⟩ := h.ord
  exact ⟨h.set 2 _, own_keepG h.sp fun k hk hl => Below.heap_setCell _ _ _ _ (show k ≠ R by omega), h.d.keep fun k hk hl => Below.heap_setCell _ _ _ _ (show k ≠ R by omega), h.pl, o1, o2, by simpa [World.setCell] using o3⟩
theorem Gq.seta {w : World} {R B lo : Nat} {f : Fv} {sv dv : Value} (h : Gq w R B lo f sv dv) (x : Int) : Gq (w.setCell ⟨R, 4, none⟩ (.int .i64 x)) R B lo { f with a := x } sv dv := by
  obtain ⟨o1, o2, o3⟩ := h.ord
  exact ⟨h.set 4 _, own_keepG h.sp fun k hk hl => Below.heap_setCell _ _ _ _ (show k ≠ R by omega), h.d.keep fun k hk hl => Below.heap_setCell _ _ _ _ (show k ≠ R by omega), h.pl, o1, o2, by simpa [World.setCell] using o3⟩
theorem Gq.sett {w : World} {R B lo : Nat} {f : Fv} {sv dv : Value} (h : Gq w R B lo f sv dv) (x : Int) : Gq (w.setCell ⟨R, 6, none⟩ (.int .i64 x)) R B lo { f with t := x } sv dv := by
  obtain ⟨o1, o2, o3⟩ := h.ord
  exact ⟨h.set 6 _, own_keepG h.sp fun k hk hl => Below.heap_setCell _ _ _ _ (show k ≠ R by omega), h.d.keep fun k hk hl => Below.heap_setCell _ _ _ _ (show k ≠ R by omega), h.pl, o1, o2, by simpa [World.setCell] using o3⟩
theorem Gq.setd {w : World} {R B lo : Nat} {f : Fv} {sv dv x : Value} {zs : List Int} (h : Gq w R B lo f sv dv) (hx : Ra lo w x zs) (hp : Plain x) : Gq (w.setCell ⟨R, 5, none⟩ x) R B lo { f with d := zs } sv x := by
  obtain ⟨o1, o2, o3⟩ := h.ord
  exact ⟨h.set 5 _, own_keepG h.sp fun k hk hl => Below.heap_setCell _ _ _ _ (show k ≠ R by omega), hx.keep fun k hk hl => Below.heap_setCell _ _ _ _ (show k ≠ R by omega), hp, o1, o2, by simpa [World.setCell] using o3⟩
theorem Gq.sets {w : World} {R B lo : Nat} {f : Fv} {sv dv x : Value} {S : List Sp} (h : w.heap[R]? = some (.cells (gCells B f sv dv) 64 (0, 0))) (hd : Ra lo w dv f.d) (hp : Plain dv) (ho : B < R ∧ R < lo ∧ lo ≤ w.heap.size) (hx : w.ownsRow lo 56 2 x S.length (sc S)) : Gq (w.setCell ⟨R, 3, none⟩ x) R B lo { f with sp := S } x dv := by
  obtain ⟨o1, o2, o3⟩ := ho
  exact ⟨heap_setCell_same w R 3 _ 64 x h, own_keepG hx fun k hk hl => Below.heap_setCell _ _ _ _ (show k ≠ R by omega), hd.keep fun k hk hl => Below.heap_setCell _ _ _ _ (show k ≠ R by omega), hp, o1, o2, by simpa [World.setCell] using o3⟩

theorem gvar_yes {zs : List Int} {t t' : Nat} {n : Int} (h : gVar zs t = some (n, t')) : ∃ k : Nat, t' = t + k ∧ (rd (zs.drop t)).2.2 = 0 ∧ (rd (zs.drop t)).1 = n ∧ (rd (zs.drop t)).2.1.toNat = k := by
  unfold gVar at h
  split at h
  · rename_i h0
    simp only [Option.some.injEq, Prod.mk.injEq] at h
    exact ⟨_, h.2.symm, h0, h.1, rfl⟩
  · cases h
/-- Number, by places. -/
theorem gnum_yes {w0 w : World} {B t t' : Nat} {zs : List Int} {n : Int} (hF : Fq w0 w B (zs.drop t) t 3) (hb : Byt zs) (h : gVar zs t = some (n, t')) :
    Calls Tryd.prog 62 #[.pointer (some ⟨B, 0, none⟩)] w fun e w' => e = .returned (.int .i64 n) ∧ Fq w0 w' B (zs.drop t') t' 3 ∧ But B w w' := by
  obtain ⟨k, rfl, h0, h1, h2⟩ := gvar_yes h
  rcases rd_size (hb.drop t) with ⟨_, _, k', ek, _, _, hk⟩ | ⟨_, _, h3⟩
  · have : k' = k := by rw [ek] at h2; simpa using h2
    subst this
    have hrd : rd (zs.drop t) = (n, (k' : Int), 0) := Prod.ext h1 (Prod.ext ek h0)
    refine (number_q hF n k' hrd hk).mono ?_
    rintro e w' ⟨rfl, hF', hB⟩
    rw [List.drop_drop] at hF'
    exact ⟨rfl, hF', hB⟩
  · omega
theorem gnum_no {w0 w : World} {B t : Nat} {zs : List Int} (hF : Fq w0 w B (zs.drop t) t 3) (hb : Byt zs) (h : gVar zs t = none) :
    Calls Tryd.prog 62 #[.pointer (some ⟨B, 0, none⟩)] w fun e w' => e = errPanic 3 ∧ But B w w' := by
  rcases rd_size (hb.drop t) with ⟨h0, _⟩ | ⟨h1, h2, h3⟩
  · unfold gVar at h
    rw [if_pos h0] at h
    cases h
  · have hrd : rd (zs.drop t) = (0, 0, (rd (zs.drop t)).2.2) := Prod.ext h1 (Prod.ext h2 rfl)
    have hn := number_e hF _ hrd h3
    have e4 : (if (rd (zs.drop t)).2.2 = 2 then (3 : Int) else (rd (zs.drop t)).2.2) = 3 := by split <;> omega
    rw [e4] at hn
    exact hn
/-- Bytes, by places. -/
theorem gbytes_yes {w0 w : World} {B t t' : Nat} {zs l : List Int} {n : Nat} (hF : Fq w0 w B (zs.drop t) t 3) (h : gBytes zs n t = some (l, t')) :
    Calls Tryd.prog 64 #[.pointer (some ⟨B, 0, none⟩), .int .i64 (n : Int)] w fun e w' => ∃ v, e = .returned v ∧ (Ra w.heap.size w' v l ∧ Plain v) ∧ Fq w0 w' B (zs.drop t') t' 3 ∧ But B w w' := by
  unfold gBytes at h
  split at h
  · cases h
  · rename_i hl
    simp only [Option.some.injEq, Prod.mk.injEq] at h
    obtain ⟨rfl, rfl⟩ := h
    refine (bytes_q hF n (by omega)).mono ?_
    rintro e w' ⟨v, rfl, hv, hF', hB⟩
    rw [List.drop_drop] at hF'
    exact ⟨v, rfl, hv, hF', hB⟩
theorem gbytes_no {w0 w : World} {B t : Nat} {zs : List Int} {n : Nat} (hF : Fq w0 w B (zs.drop t) t 3) (h : gBytes zs n t = none) :
    Calls Tryd.prog 64 #[.pointer (some ⟨B, 0, none⟩), .int .i64 (n : Int)] w fun e w' => e = errPanic 3 ∧ But B w w' := by
  unfold gBytes at h
  split at h
  · rename_i hl
    exact bytes_e hF n (by omega)
  · cases h
theorem gvar_bd {zs : List Int} (hb : Byt zs) {t t' : Nat} {n : Int} (h : gVar zs t = some (n, t')) : numR n ∧ t < t' ∧ t' ≤ zs.length := (gvar_inv hb h).2
theorem numd_big {l : List Int} (hl : l.length = 4) : numd l = if 1 ≤ bigv l 0 ∧ bigv l 0 ≤ 65536 then bigv l 0 else 0 := by
  obtain ⟨a, b, c, d, rfl⟩ := four hl
  have e : bigv [a, b, c, d] 0 = ((a * 256 + b) * 256 + c) * 256 + d := by simp [bigv]; omega
  unfold numd
  rw [e]
  simp [say4]
set_option maxRecDepth 20000 in
set_option maxHeartbeats 2000000 in
theorem run_q {w0 w : World} {B : Nat} {rest : List Int} {t : Nat} (hF : Fq w0 w B rest t 3) :
    Calls Tryd.prog 61 #[.pointer (some ⟨B, 0, none⟩), .int .u8 0] w fun e w' => e = .returned (.int .i64 (zeros rest : Int)) ∧ Fq w0 w' B (rest.drop (zeros rest)) (t + zeros rest) 3 ∧ But B w w' := by
  obtain ⟨ao, cap, hr, c0, c1, c2⟩ := hF.cells
  have hzi := zeros_inv rest
  have hcut := cut_q hF (zeros rest) hzi.2
  have hrw := hr.below hF.bel
  have hsum := hF.sum
  have hln : (rest.length : Int) ≤ 1000000 := by omega
  have hZ : Hid (∀ k, (k < zeros rest → rest.getD k 0 = 0) ∧ (k = zeros rest → k < rest.length → rest.getD k 0 ≠ 0)) := Lib.hid fun k => ⟨fun hk => by
    have e := congrArg (fun l => List.getD l k 0) hzi.1
    rw [e]
    simp [List.getD, List.getElem?_append_left, hk], fun hk hl => by
    have hs := zeros_stop rest
    have h2 : rest.drop (zeros rest) = rest[zeros rest]'(hk ▸ hl) :: rest.drop (zeros rest + 1) := List.drop_eq_getElem_cons (hk ▸ hl)
    have h3 := hs _ _ h2
    rw [hk]
    simpa [List.getD, hk ▸ hl] using h3⟩
  have hz2 := hzi.2
  generalize zeros rest = z at *
  have HR := Lib.hid hrw
  clear hF hr hrw hzi
  go_enter Tryd.func61, Tryd.ntmps61
  go_wp2_with fail
  go_loop [5] (fun i => ∃ k : Nat, i = .int .i64 k ∧ k ≤ z) (fun i => z - (intOf i).toNat)
  case atStart => exact ⟨0, rfl, by omega⟩
  case round =>
    obtain ⟨k, rfl, hk⟩ := hrel
    by_cases hlt : k < z
    · have hx := (hZ.out k).1 hlt
      have hkl : k < rest.length := by omega
      have hkl' : (k : Int) < (rest.length : Int) := by omega
      rcases HR.out.cases with ⟨e, _⟩ | ⟨b, off, cp, e0, _, hlc, hcap, _, hc⟩
      · rw [e] at hkl; simp at hkl
      simp only [Value.slice.injEq] at e0
      obtain ⟨rfl, _, rfl⟩ := e0
      have hxc := hc k hkl
      rw [hx] at hxc
      clear hx hc
      go_wp2_with fail
      go_round
      case rel => exact ⟨k + 1, by go_num, by omega⟩
      case measure => simp [intOf]; omega
    · obtain rfl : k = z := by omega
      by_cases hkl : k < rest.length
      · have hx := (hZ.out k).2 rfl hkl
        have hkl' : (k : Int) < (rest.length : Int) := by omega
        rcases HR.out.cases with ⟨e, _⟩ | ⟨b, off, cp, e0, _, hlc, hcap, _, hc⟩
        · rw [e] at hkl; simp at hkl
        simp only [Value.slice.injEq] at e0
        obtain ⟨rfl, _, rfl⟩ := e0
        have hxc := hc k hkl
        have hxb : (rest.getD k 0 == 0) = false := beq_eq_false_iff_ne.2 hx
        generalize rest.getD k 0 = X at *
        clear hx hc
        go_wp2_with (go_at_call 59; refine hcut.mono ?_; rintro e w1 ⟨pv, rfl, _, hF1, hb1⟩)
        go_ret
        exact ⟨rfl, hF1, hb1⟩
      · have hkl' : ¬ (k : Int) < (rest.length : Int) := by omega
        go_wp2_with (go_at_call 59; refine hcut.mono ?_; rintro e w1 ⟨pv, rfl, _, hF1, hb1⟩)
        go_ret
        exact ⟨rfl, hF1, hb1⟩
#print axioms run_q
#print axioms Gq.sets
end Go.Proofs.YtgcgmgcgbnepeaaDoor
