/- The document's Find: what follows, and what can be made. -/
import Derived.Test.YtinncmljffcobaaZKFd2
import Derived.Deep.RegionWith
import Derived.BigRegion
namespace Go.Proofs.Ytinncmljffcobaa
open Go Go.RowKit

theorem run_bools (X : World) (n : Nat) (hn : n ≤ 1000) : (Instr.makeSlice 34 (.int .i64 ((n : Int) + 1)) (.int .i64 ((n : Int) + 1))).run Try.prog X = .ok (.slice (some ⟨X.heap.size, 0, none⟩) (n + 1) (n + 1)) (X.alloc (.cells (madeCells #[.bool false] (n + 1)) 4)) := by
  obtain ⟨i4, hi4, hz4, hy4, hx4⟩ := info_parts info4
  have hr := run_make (P := Try.prog) X 34 4 i4 (.bool false) Try.underlying34 hi4 hz4 .i64 .i64 ((n : Int) + 1) ((n : Int) + 1) (by omega) (Int.le_refl _) (by rw [hx4]; omega) (by omega)
  rw [hr, hy4, show ((n : Int) + 1).toNat = n + 1 by omega, Nat.mul_one]
  rfl
/-- Two rows of bools, all false yet. -/
structure Fd (w X : World) (gA gB n : Nat) : Prop where
  a : Bl X gA (fun _ => false) n
  b : Bl X gB (fun _ => false) n
  ne : gA ≠ gB
  la : w.heap.size ≤ gA
  lb : w.heap.size ≤ gB
  bel : Below w.heap.size w X
/-- Two rows in memory, right as far as they go. -/
structure Ps (w : World) (gA gB : Nat) (N : List Nd) (zs : List Int) (X : World) (f c : Nat → Bool) : Prop where
  a : Bl X gA f (N.length + 1)
  b : Bl X gB c (N.length + 1)
  bel : Below w.heap.size w X
  rt : Rt N (fun u => u ∈ zs) f c
  base : ∀ x ∈ zs, 1 ≤ x → x ≤ (N.length : Int) → f x.toNat = true
theorem Ps.keep {w X X' : World} {gA gB : Nat} {N : List Nd} {zs : List Int} {f c : Nat → Bool} (h : Ps w gA gB N zs X f c) (hb : Below X.heap.size X X') : Ps w gA gB N zs X' f c :=
  ⟨h.a.below hb, h.b.below hb, h.bel.trans (hb.mono h.bel.size), h.rt, h.base⟩
theorem upB_true {f : Nat → Bool} {j y : Nat} (h : upB f j true y = true) : y = j ∨ f y = true := by
  by_cases e : y = j
  · exact .inl e
  · rw [upB_other f true e] at h; exact .inr h
theorem upB_le {f : Nat → Bool} {j y : Nat} (h : f y = true) : upB f j true y = true := by
  by_cases e : y = j
  · rw [e, upB_same]
  · rw [upB_other f true e]; exact h
theorem Ps.setC {w X : World} {gA gB : Nat} {N : List Nd} {zs : List Int} {f c : Nat → Bool} (h : Ps w gA gB N zs X f c) (hne : gA ≠ gB) (hlb : w.heap.size ≤ gB) {j : Nat} (hj : j < N.length + 1) (hd : Der N (fun u => u ∈ zs) false (j : Int)) : Ps w gA gB N zs (X.setCell ⟨gB, j, none⟩ (.bool true)) f (upB c j true) :=
  ⟨h.a.keep (heap_setCell_other _ _ _ _ (by simp only; omega)), h.b.set hj true, h.bel.setCell (by simp only; omega) _, ⟨h.rt.f, fun y hy => by
    rcases upB_true hy with e | e
    · rw [e]; exact hd
    · exact h.rt.c y e⟩, h.base⟩
theorem Ps.setF {w X : World} {gA gB : Nat} {N : List Nd} {zs : List Int} {f c : Nat → Bool} (h : Ps w gA gB N zs X f c) (hne : gA ≠ gB) (hla : w.heap.size ≤ gA) {j : Nat} (hj : j < N.length + 1) (hd : Der N (fun u => u ∈ zs) true (j : Int)) : Ps w gA gB N zs (X.setCell ⟨gA, j, none⟩ (.bool true)) (upB f j true) c :=
  ⟨h.a.set hj true, h.b.keep (heap_setCell_other _ _ _ _ (by simp only; omega)), h.bel.setCell (by simp only; omega) _, ⟨fun y hy => by
    rcases upB_true hy with e | e
    · rw [e]; exact hd
    · exact h.rt.f y e, h.rt.c⟩, fun x hx h1 h2 => upB_le (h.base x hx h1 h2)⟩
def Sz (n : Nat) (f c : Nat → Bool) : Nat := 2 * (cntB (n + 1) f + cntB (n + 1) c)
theorem Sz.c {n : Nat} {f c : Nat → Bool} {j : Nat} (hj : j < n + 1) (h : c j = false) : Sz n f (upB c j true) + 2 = Sz n f c := by unfold Sz; have := cntB_up hj h; omega
theorem Sz.f {n : Nat} {f c : Nat → Bool} {j : Nat} (hj : j < n + 1) (h : f j = false) : Sz n (upB f j true) c + 2 = Sz n f c := by unfold Sz; have := cntB_up hj h; omega
def Below1 (N : List Nd) (f c : Nat → Bool) (x : Int) : Prop := ∀ y : Int, 1 ≤ y → y < x → Cl N f c y
def PassS (N : List Nd) (k : Nat) (x : Int) (mo : Bool) (f c : Nat → Bool) : Prop := (mo = true ∧ Sz N.length f c + 1 < k) ∨ (mo = false ∧ Sz N.length f c < k ∧ Below1 N f c x)
def PassA (N : List Nd) (k : Nat) (x : Int) (mo : Bool) (f c : Nat → Bool) : Prop := (mo = true ∧ Sz N.length f c + 1 < k) ∨ (mo = false ∧ Sz N.length f c < k ∧ Below1 N f c x ∧ (Mk N f c x → c x.toNat = true))
def PassI (N : List Nd) (k : Nat) (x : Int) (i : Nat) (mo : Bool) (f c : Nat → Bool) : Prop := (mo = true ∧ Sz N.length f c + 1 < k) ∨ (mo = false ∧ Sz N.length f c < k ∧ Below1 N f c x ∧ (Mk N f c x → c x.toNat = true) ∧ ∀ j, j < i → Op N c x j → f ((partsN N x).getD j 0).toNat = true)
theorem PassS.old {N : List Nd} {k : Nat} {x : Int} {mo : Bool} {f c : Nat → Bool} (h : PassS N k x mo f c) (hm : Mk N f c x → c x.toNat = true) : PassA N k x mo f c := by
  rcases h with h | ⟨a, b, d⟩
  · exact .inl h
  · exact .inr ⟨a, b, d, hm⟩
theorem PassS.made {N : List Nd} {k : Nat} {x : Int} {mo : Bool} {f c : Nat → Bool} (h : PassS N k x mo f c) {j : Nat} (hj : j < N.length + 1) (hc : c j = false) : PassA N k x true f (upB c j true) := by
  have := Sz.c (f := f) hj hc
  rcases h with ⟨_, h⟩ | ⟨_, h, _⟩ <;> exact .inl ⟨rfl, by omega⟩
theorem Below1.next {N : List Nd} {f c : Nat → Bool} {x : Int} (h : Below1 N f c x) (hx : Cl N f c x) : Below1 N f c (x + 1) := fun y h1 h2 => by
  by_cases e : y = x
  · rw [e]; exact hx
  · exact h y h1 (by omega)
theorem PassA.skip {N : List Nd} {k : Nat} {x : Int} {mo : Bool} {f c : Nat → Bool} (h : PassA N k x mo f c) (hf : f x.toNat = false) : PassS N k (x + 1) mo f c := by
  rcases h with h | ⟨a, b, d, e⟩
  · exact .inl h
  · exact .inr ⟨a, b, d.next ⟨e, fun ht => by rw [hf] at ht; cases ht⟩⟩
theorem PassA.zero {N : List Nd} {k : Nat} {x : Int} {mo : Bool} {f c : Nat → Bool} (h : PassA N k x mo f c) : PassI N k x 0 mo f c := by
  rcases h with h | ⟨a, b, d, e⟩
  · exact .inl h
  · exact .inr ⟨a, b, d, e, fun j hj => by omega⟩
theorem PassI.old {N : List Nd} {k : Nat} {x : Int} {i : Nat} {mo : Bool} {f c : Nat → Bool} (h : PassI N k x i mo f c) (ho : Op N c x i → f ((partsN N x).getD i 0).toNat = true) : PassI N k x (i + 1) mo f c := by
  rcases h with h | ⟨a, b, d, e, g⟩
  · exact .inl h
  · exact .inr ⟨a, b, d, e, fun j hj o => by
      by_cases e2 : j = i
      · subst e2; exact ho o
      · exact g j (by omega) o⟩
theorem PassI.new {N : List Nd} {k : Nat} {x : Int} {i : Nat} {mo : Bool} {f c : Nat → Bool} (h : PassI N k x i mo f c) {j : Nat} (hj : j < N.length + 1) (hf : f j = false) : PassI N k x (i + 1) true (upB f j true) c := by
  have := Sz.f (c := c) hj hf
  rcases h with ⟨_, h⟩ | ⟨_, h, _⟩ <;> exact .inl ⟨rfl, by omega⟩
theorem PassI.done {N : List Nd} {k : Nat} {x : Int} {mo : Bool} {f c : Nat → Bool} (h : PassI N k x (partsN N x).length mo f c) : PassS N k (x + 1) mo f c := by
  rcases h with h | ⟨a, b, d, e, g⟩
  · exact .inl h
  · exact .inr ⟨a, b, d.next ⟨e, fun _ i hi o => g i hi o⟩⟩
/-- At the head of a pass. -/
def PassH (N : List Nd) (k : Nat) (mo : Bool) (f c : Nat → Bool) : Prop := (mo = true ∧ Sz N.length f c + 1 ≤ k) ∨ (mo = false ∧ Sz N.length f c ≤ k ∧ Below1 N f c ((N.length : Int) + 1))
theorem PassH.start {N : List Nd} {k : Nat} {f c : Nat → Bool} (h : PassH N k true f c) : PassS N k 1 false f c := by
  rcases h with ⟨_, h⟩ | ⟨h, _⟩
  · exact .inr ⟨rfl, by omega, fun y h1 h2 => by omega⟩
  · cases h
theorem PassS.finish {N : List Nd} {k : Nat} {mo : Bool} {f c : Nat → Bool} (h : PassS N k ((N.length : Int) + 1) mo f c) : ∃ k', k' < k ∧ PassH N k' mo f c := by
  rcases h with ⟨a, b⟩ | ⟨a, b, d⟩
  · exact ⟨_, b, .inl ⟨a, Nat.le_refl _⟩⟩
  · exact ⟨_, b, .inr ⟨a, Nat.le_refl _, d⟩⟩
theorem PassH.out {N : List Nd} {k : Nat} {f c : Nat → Bool} (h : PassH N k false f c) : Below1 N f c ((N.length : Int) + 1) := by
  rcases h with ⟨h, _⟩ | ⟨_, _, h⟩
  · cases h
  · exact h
set_option maxRecDepth 20000 in
set_option maxHeartbeats 16000000 in
theorem find_any {B : Nat} {w : World} {rb : Nat} {N : List Nd} (h : Rb B w rb N) (hN : Wf N) (ht : Txt N) (hn : N.length ≤ 50) {bv : Value} {zs : List Int} (hr : Rd .i64 w bv zs) :
    Calls Try.prog 12 #[.pointer (some ⟨rb, 0, none⟩), bv] w fun e w' => ∃ Gf Gc f c, e = .returned (.tuple #[.slice (some ⟨Gf, 0, none⟩) (N.length + 1) (N.length + 1), .slice (some ⟨Gc, 0, none⟩) (N.length + 1) (N.length + 1)]) ∧ Bl w' Gf f (N.length + 1) ∧ Bl w' Gc c (N.length + 1) ∧
      (∀ y : Nat, y ≤ N.length → (f y = true ↔ Der N (fun u => u ∈ zs) true (y : Int))) ∧ (∀ y : Nat, y ≤ N.length → (c y = true ↔ Der N (fun u => u ∈ zs) false (y : Int))) ∧ Below w.heap.size w w' := by
  obtain ⟨ra, rc, hr0, -⟩ := h.len
  have hr1 := hr
  obtain ⟨ba, bc, rfl, -⟩ := hr1
  have hmk := fun X => run_bools X N.length (by omega)
  have HRb := Lib.hid h
  have HN := Lib.hid hN
  have HT := Lib.hid ht
  have HR := Lib.hid hr
  clear h hN ht hr
  go_enter Try.func12, Try.ntmps12
  go_wp2_with fail
  rename_i Q' K hK
  have tail : ∀ (X : World) (gA gB : Nat), Fd w X gA gB (N.length + 1) → Exit.then K Q' Exit.normal { tmps := #[.pointer (some ⟨rb, 0, none⟩), .slice ba zs.length bc, undef, undef, .slice none 0 0, .slice none 0 0, .int .i64 (N.length : Int), .slice (some ⟨gA, 0, none⟩) (N.length + 1) (N.length + 1), .slice (some ⟨gB, 0, none⟩) (N.length + 1) (N.length + 1), undef, undef, undef, undef, undef, undef, .pointer (some ⟨rb, 0, none⟩), .pointer (some ⟨rb, 0, none⟩), .pointer (some ⟨rb, 0, none⟩), .slice ra N.length rc, .int .i64 (N.length : Int), .int .i64 (N.length : Int), .int .i64 ((N.length : Int) + 1), .slice (some ⟨gA, 0, none⟩) (N.length + 1) (N.length + 1), .int .i64 (N.length : Int), .int .i64 ((N.length : Int) + 1), .slice (some ⟨gB, 0, none⟩) (N.length + 1) (N.length + 1), undef, undef, undef, undef, undef, undef, undef, undef, undef, undef, undef, undef, undef, undef, undef, undef, undef, undef, undef, undef, undef, undef, undef, undef, undef, undef, undef, undef, undef, undef, undef, undef, undef, undef, undef, undef, undef, undef, undef, undef, undef, undef, undef, undef, undef, undef, undef, undef, undef, undef, undef, undef, undef, undef, undef, undef, undef, undef, undef, undef, undef, undef, undef, undef, undef, undef, undef, undef, undef, undef, undef, undef, undef, undef, undef, undef, undef, undef, undef, undef, undef, undef, undef, undef, undef, undef, undef, undef, undef, undef, undef, undef, undef, undef, undef, undef, undef, undef, undef, undef, undef, undef, undef, undef, undef, undef, undef, undef, undef, undef, undef, undef, undef, undef, undef, undef, undef], defers := [] } X := by
    intro X gA gB hfd
    have HFD := Lib.hid hfd
    have hne := hfd.ne
    have hr1 : X.cell? ⟨rb, 0, none⟩ = some (.slice ra N.length rc) := by rw [hfd.bel.cell (cell_lt hr0)]; exact hr0
    clear hfd hmk
    go_wp2_with fail
    go_loopw [9] (fun iv wr => ∃ (i : Nat) (f : Nat → Bool), i ≤ zs.length ∧ iv = .int .i64 i ∧ Bl wr gA f (N.length + 1) ∧ Bl wr gB (fun _ => false) (N.length + 1) ∧ Below w.heap.size w wr ∧ Rt N (fun u => u ∈ zs) f (fun _ => false) ∧ ∀ j, j < i → 1 ≤ zs.getD j 0 → zs.getD j 0 ≤ (N.length : Int) → f (zs.getD j 0).toNat = true) (fun iv _ => zs.length - (intOf iv).toNat)
    case atStart => exact ⟨0, _, Nat.zero_le _, rfl, HFD.out.a, HFD.out.b, HFD.out.bel, ⟨fun y e => (by cases e), fun y e => (by cases e)⟩, fun j hj => by omega⟩
    case round =>
      obtain ⟨i, f, hi, rfl, hf, hc, hb, hrt, hbs⟩ := hrel
      have HF := Lib.hid hf
      have HC := Lib.hid hc
      have HB := Lib.hid hb
      have HRT := Lib.hid hrt
      have HBS := Lib.hid hbs
      clear hf hc hb hrt hbs hr1
      by_cases hlt : i < zs.length
      · have hlt' : (i : Int) < (zs.length : Int) := by omega
        obtain ⟨b1, o1, c1, e1, hc1, hd1, q1⟩ := rd_at2 (HR.out.below HB.out) hlt
        cases e1
        have HMZ := Lib.hid (getD_mem hlt)
        have HSK := Lib.hid (show ¬ (1 ≤ zs.getD i 0 ∧ zs.getD i 0 ≤ (N.length : Int)) → ∀ j, j < i + 1 → 1 ≤ zs.getD j 0 → zs.getD j 0 ≤ (N.length : Int) → f (zs.getD j 0).toNat = true from fun hn j hj h1 h2 => by
          by_cases e : j = i
          · subst e; exact absurd ⟨h1, h2⟩ hn
          · exact HBS.out j (by omega) h1 h2)
        have HST := Lib.hid (show ∀ p : Nat, zs.getD i 0 = (p : Int) → ∀ j, j < i + 1 → 1 ≤ zs.getD j 0 → zs.getD j 0 ≤ (N.length : Int) → upB f p true (zs.getD j 0).toNat = true from fun p hp j hj h1 h2 => by
          by_cases e : j = i
          · subst e; rw [hp, Int.toNat_natCast, upB_same]
          · exact upB_le (HBS.out j (by omega) h1 h2))
        generalize zs.getD i 0 = z at *
        by_cases hz1 : (1 : Int) ≤ z
        · by_cases hz2 : z ≤ (N.length : Int)
          · obtain ⟨p, rfl⟩ : ∃ p : Nat, z = (p : Int) := ⟨z.toNat, by omega⟩
            have ip : p < N.length + 1 := by omega
            obtain ⟨fc, ff, fl⟩ := HF.out.cell (j := p) ip
            have HZ := Lib.hid (And.intro hz1 hz2)
            go_wp2_with fail
            go_roundw
            case rel =>
              refine ⟨i + 1, upB f p true, by omega, by go_num, HF.out.set ip true, HC.out.keep (heap_setCell_other _ _ _ _ (by simp only; omega)), HB.out.setCell (by have := HFD.out.la; simp only; omega) _, ⟨fun y hy => ?_, HRT.out.c⟩, HST.out p rfl⟩
              rcases upB_true hy with e | e
              · rw [e]; exact .base HMZ.out HZ.out.1 HZ.out.2
              · exact HRT.out.f y e
            case measure => simp [intOf]; omega
          · go_wp2_with fail
            go_roundw
            case rel => exact ⟨i + 1, f, by omega, by go_num, HF.out, HC.out, HB.out, HRT.out, HSK.out fun e => hz2 e.2⟩
            case measure => simp [intOf]; omega
        · go_wp2_with fail
          go_roundw
          case rel => exact ⟨i + 1, f, by omega, by go_num, HF.out, HC.out, HB.out, HRT.out, HSK.out fun e => hz1 e.1⟩
          case measure => simp [intOf]; omega
      · obtain rfl : i = zs.length := by omega
        have HPS1 := Lib.hid (show Ps w gA gB N zs wr f (fun _ => false) from ⟨HF.out, HC.out, HB.out, HRT.out, fun x hx h1 h2 => by
          obtain ⟨j, hj, e⟩ := mem_at hx
          rw [← e]; rw [← e] at h1 h2
          exact HBS.out j hj h1 h2⟩)
        clear HF HC HB HRT HBS
        go_wp2_with fail
        go_loopg [10] (Sz N.length f (fun _ => false) + 1) (fun k mv wr => ∃ (mo : Bool) (f c : Nat → Bool), mv = .bool mo ∧ Ps w gA gB N zs wr f c ∧ PassH N k mo f c)
        case atStart => exact ⟨true, f, _, rfl, HPS1.out, .inl ⟨rfl, Nat.le_refl _⟩⟩
        case round =>
          clear HPS1
          obtain ⟨mo, f, c, rfl, hps, hph⟩ := hrel
          have HPS := Lib.hid hps
          have HPH := Lib.hid hph
          clear hps hph
          cases mo with
          | false =>
            go_wp2_with fail
            go_ret2
            have hall := fun (b : Bool) (y : Nat) (hy : y ≤ N.length) (d : Der N (fun u => u ∈ zs) b (y : Int)) => Cl.all HN.out (fun x h1 h2 => HPH.out.out x h1 (by omega)) HPS.out.base d
            exact ⟨gA, gB, f, c, rfl, HPS.out.a, HPS.out.b, fun y hy => ⟨HPS.out.rt.f y, fun d => by have := (hall _ y hy d).1 rfl; rwa [Int.toNat_natCast] at this⟩, fun y hy => ⟨HPS.out.rt.c y, fun d => by have := (hall _ y hy d).2; rwa [Int.toNat_natCast] at this⟩, HPS.out.bel⟩
          | true =>
            go_wp2_with fail
            go_loopw [10, 11] (fun mv hv wr => ∃ (x : Nat) (mo : Bool) (f c : Nat → Bool), 1 ≤ x ∧ x ≤ N.length + 1 ∧ mv = .bool mo ∧ hv = .int .i64 x ∧ Ps w gA gB N zs wr f c ∧ PassS N gk (x : Int) mo f c) (fun _ hv _ => N.length + 1 - (intOf hv).toNat)
            case atStart => exact ⟨1, false, f, c, Nat.le_refl _, by omega, rfl, rfl, HPS.out, HPH.out.start⟩
            case round =>
              clear HPS HPH
              obtain ⟨x, mo, f, c, hx1, hx2, rfl, rfl, hps, hpa⟩ := hrel
              have HPS0 := Lib.hid hps
              have HPSS := Lib.hid hpa
              clear hps hpa
              by_cases hlt : x ≤ N.length
              · obtain ⟨q, rfl⟩ : ∃ q, x = q + 1 := ⟨x - 1, by omega⟩
                have hlt' : ((q + 1 : Nat) : Int) ≤ (N.length : Int) := by omega
                have iq : q + 1 < N.length + 1 := by omega
                have HTN := Lib.hid (show ((q : Int) + 1).toNat = q + 1 by omega)
                have HCA := Lib.hid (show ((q + 1 : Nat) : Int) = (q : Int) + 1 by omega)
                have cx := (HPS0.out.b.cell (j := q + 1) iq).1
                cases hcx : c (q + 1) with
                | true =>
                  rw [hcx] at cx
                  have HPA := Lib.hid (show PassA N gk ((q : Int) + 1) mo f c from PassS.old (by have := HPSS.out; rwa [HCA.out] at this) (fun _ => by rw [HTN.out]; exact hcx))
                  clear hcx HPSS
                  generalize wr = W8 at *
                  have fx := (HPS0.out.a.cell (j := q + 1) (by omega)).1
                  cases hfx : f (q + 1) with
                  | false =>
                    rw [hfx] at fx
                    have HNX := Lib.hid (HPA.out.skip (show f ((q : Int) + 1).toNat = false from by rw [show ((q : Int) + 1).toNat = q + 1 by omega]; exact hfx))
                    clear hfx
                    go_wp2_with fail
                    go_roundw
                    case rel => exact ⟨q + 2, _, f, _, by omega, by omega, rfl, by go_num, HPS0.out, HNX.out⟩
                    case measure => simp [intOf]; omega
                  | true =>
                    rw [hfx] at fx
                    have HFX := Lib.hid hfx
                    clear hfx
                    obtain ⟨g, gc, pa, pc, tx, m0, n1, n2, m3, m4, m5, m6⟩ := HRb.out.at (q := q) (by omega)
                    have n0 : W8.cell? ⟨rb, 0, none⟩ = some (.slice (some ⟨g, 0, none⟩) N.length gc) := by rw [HPS0.out.bel.cell (cell_lt m0)]; exact m0
                    have n3 : W8.cell? ⟨g, q * 3, none⟩ = some (.int .i64 (kindN N ((q : Int) + 1))) := by rw [HPS0.out.bel.cell (cell_lt m3)]; exact m3
                    have n4 : W8.cell? ⟨g, q * 3 + 1, none⟩ = some (.string tx) := by rw [HPS0.out.bel.cell (cell_lt m4)]; exact m4
                    have n5 : W8.cell? ⟨g, q * 3 + 2, none⟩ = some (.slice pa (partsN N ((q : Int) + 1)).length pc) := by rw [HPS0.out.bel.cell (cell_lt m5)]; exact m5
                    have HRP0W := Lib.hid m6
                    clear m0 m3 m4 m5 m6
                    have HLOW := Lib.hid (show ∀ y ∈ partsN N ((q : Int) + 1), 1 ≤ y ∧ y < (q : Int) + 1 from HN.out.low _ (by omega) (by omega))
                    have H16 := Lib.hid (HN.out.sixteen ((q : Int) + 1))
                    generalize hkk : kindN N ((q : Int) + 1) = kk at n3
                    generalize hpn : partsN N ((q : Int) + 1) = ps at n5 HRP0W HLOW H16
                    have HKK := Lib.hid hkk
                    have HPN := Lib.hid hpn
                    clear hkk hpn
                    have HBA := Lib.hid (show gA < W8.heap.size from HPS0.out.a.lt)
                    have hbel := below_alloc W8 (.cells #[.int .i64 kk, .string tx, .slice pa ps.length pc] 69)
                    have hnew := heap_alloc_new W8 (.cells #[.int .i64 kk, .string tx, .slice pa ps.length pc] 69)
                    have HPSB := Lib.hid (HPS0.out.keep hbel)
                    have HNB0 := Lib.hid hnew
                    have HBW := Lib.hid hbel
                    clear hbel hnew
                    go_wp2_with fail
                    go_loopw [10, 13] (fun mv iv wr => ∃ (i : Nat) (mo : Bool) (f : Nat → Bool), i ≤ ps.length ∧ mv = .bool mo ∧ iv = .int .i64 i ∧ Ps w gA gB N zs wr f c ∧ f (q + 1) = true ∧ PassI N gk ((q : Int) + 1) i mo f c ∧ wr.heap[W8.heap.size]? = some (.cells #[.int .i64 kk, .string tx, .slice pa ps.length pc] 69 (0, 0))) (fun _ iv _ => ps.length - (intOf iv).toNat)
                    case atStart => exact ⟨0, _, f, Nat.zero_le _, rfl, rfl, HPSB.out, HFX.out, HPA.out.zero, HNB0.out⟩
                    case round =>
                      clear HPSB HNB0 HPA
                      obtain ⟨i, mo, f, hi, rfl, rfl, hps, hft, hpi, hnb⟩ := hrel
                      have k0 : wr.cell? ⟨W8.heap.size, 0, none⟩ = some (.int .i64 kk) := (cell_of_row _ W8.heap.size 0 _ 69 (0, 0) hnb).trans rfl
                      have k2 : wr.cell? ⟨W8.heap.size, 2, none⟩ = some (.slice pa ps.length pc) := (cell_of_row _ W8.heap.size 2 _ 69 (0, 0) hnb).trans rfl
                      have HPS := Lib.hid hps
                      have HPI := Lib.hid hpi
                      have HFT := Lib.hid hft
                      have HNB := Lib.hid hnb
                      have HRP := Lib.hid (show Rd .i64 wr (.slice pa ps.length pc) ps from (HRP0W.out).below HPS.out.bel)
                      clear hps hpi hnb hft
                      by_cases hlt : i < ps.length
                      · have hlt' : (i : Int) < (ps.length : Int) := by omega
                        have hi16 : i ≤ 16 := by have := H16.out; omega
                        obtain ⟨b3, o3, c3, e3', hc3, hd3, q3⟩ := rd_at2 HRP.out hlt
                        cases e3'
                        have hmp := HLOW.out _ (getD_mem hlt)
                        obtain ⟨p, hp⟩ : ∃ n : Nat, ps.getD i 0 = (n : Int) := ⟨(ps.getD i 0).toNat, by omega⟩
                        have HPP := Lib.hid (show (partsN N ((q : Int) + 1)).getD i 0 = (p : Int) from by rw [HPN.out]; exact hp)
                        have HDP := Lib.hid (fun o => (show Der N (fun u => u ∈ zs) true (p : Int) from by
                          have := Op.sound HN.out HPS.out.rt (x := (q : Int) + 1) (by omega) (by omega) (by rw [show ((q : Int) + 1).toNat = q + 1 by omega]; exact HFT.out) (i := i) (by rw [HPN.out]; exact hlt) o
                          rw [HPN.out, hp] at this; exact this))
                        rw [hp] at q3 hmp
                        have ipp : p < N.length + 1 := by omega
                        clear hp hmp
                        by_cases k3 : kk = 3
                        · have HOP := Lib.hid (show Op N c ((q : Int) + 1) i from .inl (HKK.out.trans k3))
                          subst k3
                          cases hfp : f p with
                          | true =>
                            have fp := (HPS.out.a.cell (j := p) (by omega)).1
                            rw [hfp] at fp
                            have HFP := Lib.hid hfp
                            clear hfp
                            go_wp2_with fail
                            go_roundw
                            case rel => exact ⟨i + 1, mo, f, by omega, rfl, by go_num, HPS.out, HFT.out, HPI.out.old (fun _ => by rw [HPP.out, Int.toNat_natCast]; exact HFP.out), HNB.out⟩
                            case measure => simp [intOf]; omega
                          | false =>
                            obtain ⟨fp, ff, fl⟩ := HPS.out.a.cell (j := p) (by omega)
                            rw [hfp] at fp
                            have HFP := Lib.hid hfp
                            clear hfp
                            have HSET := Lib.hid (HPS.out.setF hne HFD.out.la (j := p) (by omega) (HDP.out HOP.out))
                            have hgA : gA ≠ W8.heap.size := by have := HBA.out; omega
                            go_wp2_with fail
                            go_roundw
                            case rel => exact ⟨i + 1, true, upB f p true, by omega, rfl, by go_num, HSET.out, upB_le HFT.out, HPI.out.new (by omega) HFP.out, by rw [heap_setCell_other _ _ _ _ (by simp only; omega)]; exact HNB.out⟩
                            case measure => simp [intOf]; omega
                        · have e3 : (kk == 3) = false := beq_eq_false_iff_ne.2 k3
                          by_cases k9 : kk = 9
                          · by_cases i1 : i = 1
                            · have HOP := Lib.hid (show Op N c ((q : Int) + 1) i from .inr (.inl ⟨HKK.out.trans k9, i1⟩))
                              subst k9
                              subst i1
                              cases hfp : f p with
                              | true =>
                                have fp := (HPS.out.a.cell (j := p) (by omega)).1
                                rw [hfp] at fp
                                have HFP := Lib.hid hfp
                                clear hfp
                                go_wp2_with fail
                                go_roundw
                                case rel => exact ⟨2, mo, f, by omega, rfl, by go_num, HPS.out, HFT.out, HPI.out.old (fun _ => by rw [HPP.out, Int.toNat_natCast]; exact HFP.out), HNB.out⟩
                                case measure => simp [intOf]; omega
                              | false =>
                                obtain ⟨fp, ff, fl⟩ := HPS.out.a.cell (j := p) (by omega)
                                rw [hfp] at fp
                                have HFP := Lib.hid hfp
                                clear hfp
                                have HSET := Lib.hid (HPS.out.setF hne HFD.out.la (j := p) (by omega) (HDP.out HOP.out))
                                have hgA : gA ≠ W8.heap.size := by have := HBA.out; omega
                                go_wp2_with fail
                                go_roundw
                                case rel => exact ⟨2, true, upB f p true, by omega, rfl, by go_num, HSET.out, upB_le HFT.out, HPI.out.new (by omega) HFP.out, by rw [heap_setCell_other _ _ _ _ (by simp only; omega)]; exact HNB.out⟩
                                case measure => simp [intOf]; omega
                            · have HNO := Lib.hid (show ¬ Op N c ((q : Int) + 1) i from fun o => by
                                have := HKK.out
                                rcases o with o | ⟨_, o⟩ | ⟨o, _⟩ <;> omega)
                              have ei : ((i : Int) == 1) = false := beq_eq_false_iff_ne.2 (by omega)
                              subst k9
                              go_wp2_with fail
                              go_roundw
                              case rel => exact ⟨i + 1, mo, f, by omega, rfl, by go_num, HPS.out, HFT.out, HPI.out.old (fun o => absurd o HNO.out), HNB.out⟩
                              case measure => simp [intOf]; omega
                          · have e9 : (kk == 9) = false := beq_eq_false_iff_ne.2 k9
                            by_cases k10 : kk = 10
                            · by_cases i2 : i = 2
                              · have hm0 := HLOW.out _ (getD_mem (ps := ps) (j := 0) (by omega))
                                obtain ⟨p0, hp0⟩ : ∃ n : Nat, ps.getD 0 0 = (n : Int) := ⟨(ps.getD 0 0).toNat, by omega⟩
                                obtain ⟨b4, o4, c4, e4, hc4, hd4, q4⟩ := rd_at2 HRP.out (i := 0) (by omega)
                                cases e4
                                rw [hp0] at q4 hm0
                                simp only [Nat.add_zero] at q4
                                have ip0 : p0 < N.length + 1 := by omega
                                have cp0 := (HPS.out.b.cell (j := p0) ip0).1
                                have HP0 := Lib.hid hp0
                                clear hp0 hm0
                                cases hcp : c p0 with
                                | true =>
                                  rw [hcp] at cp0
                                  have HOP := Lib.hid (show Op N c ((q : Int) + 1) i from .inr (.inr ⟨HKK.out.trans k10, i2, by rw [HPN.out, HP0.out, Int.toNat_natCast]; exact hcp⟩))
                                  clear hcp
                                  subst k10
                                  subst i2
                                  cases hfp : f p with
                                  | true =>
                                    have fp := (HPS.out.a.cell (j := p) (by omega)).1
                                    rw [hfp] at fp
                                    have HFP := Lib.hid hfp
                                    clear hfp
                                    go_wp2_with fail
                                    go_roundw
                                    case rel => exact ⟨3, mo, f, by omega, rfl, by go_num, HPS.out, HFT.out, HPI.out.old (fun _ => by rw [HPP.out, Int.toNat_natCast]; exact HFP.out), HNB.out⟩
                                    case measure => simp [intOf]; omega
                                  | false =>
                                    obtain ⟨fp, ff, fl⟩ := HPS.out.a.cell (j := p) (by omega)
                                    rw [hfp] at fp
                                    have HFP := Lib.hid hfp
                                    clear hfp
                                    have HSET := Lib.hid (HPS.out.setF hne HFD.out.la (j := p) (by omega) (HDP.out HOP.out))
                                    have hgA : gA ≠ W8.heap.size := by have := HBA.out; omega
                                    go_wp2_with fail
                                    go_roundw
                                    case rel => exact ⟨3, true, upB f p true, by omega, rfl, by go_num, HSET.out, upB_le HFT.out, HPI.out.new (by omega) HFP.out, by rw [heap_setCell_other _ _ _ _ (by simp only; omega)]; exact HNB.out⟩
                                    case measure => simp [intOf]; omega
                                | false =>
                                  rw [hcp] at cp0
                                  have HNO := Lib.hid (show ¬ Op N c ((q : Int) + 1) i from fun o => by
                                    have := HKK.out
                                    rcases o with o | ⟨o, _⟩ | ⟨_, _, o⟩
                                    · omega
                                    · omega
                                    · rw [HPN.out, HP0.out, Int.toNat_natCast, hcp] at o; cases o)
                                  clear hcp
                                  subst k10
                                  subst i2
                                  go_wp2_with fail
                                  go_roundw
                                  case rel => exact ⟨3, mo, f, by omega, rfl, by go_num, HPS.out, HFT.out, HPI.out.old (fun o => absurd o HNO.out), HNB.out⟩
                                  case measure => simp [intOf]; omega
                              · have HNO := Lib.hid (show ¬ Op N c ((q : Int) + 1) i from fun o => by
                                  have := HKK.out
                                  rcases o with o | ⟨o, _⟩ | ⟨_, o, _⟩ <;> omega)
                                have ei : ((i : Int) == 2) = false := beq_eq_false_iff_ne.2 (by omega)
                                subst k10
                                go_wp2_with fail
                                go_roundw
                                case rel => exact ⟨i + 1, mo, f, by omega, rfl, by go_num, HPS.out, HFT.out, HPI.out.old (fun o => absurd o HNO.out), HNB.out⟩
                                case measure => simp [intOf]; omega
                            · have HNO := Lib.hid (show ¬ Op N c ((q : Int) + 1) i from fun o => by
                                have := HKK.out
                                rcases o with o | ⟨o, _⟩ | ⟨o, _⟩ <;> omega)
                              have e10 : (kk == 10) = false := beq_eq_false_iff_ne.2 k10
                              go_wp2_with fail
                              go_roundw
                              case rel => exact ⟨i + 1, mo, f, by omega, rfl, by go_num, HPS.out, HFT.out, HPI.out.old (fun o => absurd o HNO.out), HNB.out⟩
                              case measure => simp [intOf]; omega
                      · obtain rfl : i = ps.length := by omega
                        have HNX := Lib.hid (show PassS N gk ((q : Int) + 1 + 1) mo f c from PassI.done (by rw [HPN.out]; exact HPI.out))
                        go_wp2_with fail
                        skip
                        go_roundw
                        case rel => exact ⟨q + 2, mo, f, c, by omega, by omega, rfl, by go_num, HPS.out, HNX.out⟩
                        case measure => simp [intOf]; omega
                | false =>
                  rw [hcx] at cx
                  have HCX := Lib.hid hcx
                  have HPSS' := Lib.hid (show PassS N gk ((q : Int) + 1) mo f c from by have := HPSS.out; rwa [HCA.out] at this)
                  clear hcx HPSS
                  have hmk := makes_any (HRb.out.keep HPS0.out.bel) HN.out HPS0.out.a HPS0.out.b (i := q) (by omega)
                  have HMS := Lib.hid (fun m => Mk.sound HN.out HT.out HPS0.out.rt (x := (q : Int) + 1) (by omega) (by omega) m)
                  go_wp2_with fail
                  refine hmk.mono ?_
                  clear hmk
                  rintro e w6 ⟨⟨b, rfl, hbm⟩, hb6⟩
                  have HPS6 := Lib.hid (HPS0.out.keep hb6)
                  have HBM := Lib.hid hbm
                  clear hbm hb6 HPS0
                  have HPS0 := HPS6
                  clear HPS6
                  cases b with
                  | false =>
                    have HPA := Lib.hid (show PassA N gk ((q : Int) + 1) mo f c from PassS.old HPSS'.out (fun m => absurd (HBM.out.2 m) (by simp)))
                    clear HPSS' HBM
                    have fx := (HPS0.out.a.cell (j := q + 1) (by omega)).1
                    cases hfx : f (q + 1) with
                    | false =>
                      rw [hfx] at fx
                      have HNX := Lib.hid (HPA.out.skip (show f ((q : Int) + 1).toNat = false from by rw [show ((q : Int) + 1).toNat = q + 1 by omega]; exact hfx))
                      clear hfx
                      go_wp2_with fail
                      go_roundw
                      case rel => exact ⟨q + 2, _, f, _, by omega, by omega, rfl, by go_num, HPS0.out, HNX.out⟩
                      case measure => simp [intOf]; omega
                    | true =>
                      rw [hfx] at fx
                      have HFX := Lib.hid hfx
                      clear hfx
                      obtain ⟨g, gc, pa, pc, tx, m0, n1, n2, m3, m4, m5, m6⟩ := HRb.out.at (q := q) (by omega)
                      have n0 : w6.cell? ⟨rb, 0, none⟩ = some (.slice (some ⟨g, 0, none⟩) N.length gc) := by rw [HPS0.out.bel.cell (cell_lt m0)]; exact m0
                      have n3 : w6.cell? ⟨g, q * 3, none⟩ = some (.int .i64 (kindN N ((q : Int) + 1))) := by rw [HPS0.out.bel.cell (cell_lt m3)]; exact m3
                      have n4 : w6.cell? ⟨g, q * 3 + 1, none⟩ = some (.string tx) := by rw [HPS0.out.bel.cell (cell_lt m4)]; exact m4
                      have n5 : w6.cell? ⟨g, q * 3 + 2, none⟩ = some (.slice pa (partsN N ((q : Int) + 1)).length pc) := by rw [HPS0.out.bel.cell (cell_lt m5)]; exact m5
                      have HRP0W := Lib.hid m6
                      clear m0 m3 m4 m5 m6
                      have HLOW := Lib.hid (show ∀ y ∈ partsN N ((q : Int) + 1), 1 ≤ y ∧ y < (q : Int) + 1 from HN.out.low _ (by omega) (by omega))
                      have H16 := Lib.hid (HN.out.sixteen ((q : Int) + 1))
                      generalize hkk : kindN N ((q : Int) + 1) = kk at n3
                      generalize hpn : partsN N ((q : Int) + 1) = ps at n5 HRP0W HLOW H16
                      have HKK := Lib.hid hkk
                      have HPN := Lib.hid hpn
                      clear hkk hpn
                      have HBA := Lib.hid (show gA < w6.heap.size from HPS0.out.a.lt)
                      have hbel := below_alloc w6 (.cells #[.int .i64 kk, .string tx, .slice pa ps.length pc] 69)
                      have hnew := heap_alloc_new w6 (.cells #[.int .i64 kk, .string tx, .slice pa ps.length pc] 69)
                      have HPSB := Lib.hid (HPS0.out.keep hbel)
                      have HNB0 := Lib.hid hnew
                      have HBW := Lib.hid hbel
                      clear hbel hnew
                      go_wp2_with fail
                      go_loopw [10, 13] (fun mv iv wr => ∃ (i : Nat) (mo : Bool) (f : Nat → Bool), i ≤ ps.length ∧ mv = .bool mo ∧ iv = .int .i64 i ∧ Ps w gA gB N zs wr f c ∧ f (q + 1) = true ∧ PassI N gk ((q : Int) + 1) i mo f c ∧ wr.heap[w6.heap.size]? = some (.cells #[.int .i64 kk, .string tx, .slice pa ps.length pc] 69 (0, 0))) (fun _ iv _ => ps.length - (intOf iv).toNat)
                      case atStart => exact ⟨0, _, f, Nat.zero_le _, rfl, rfl, HPSB.out, HFX.out, HPA.out.zero, HNB0.out⟩
                      case round =>
                        clear HPSB HNB0 HPA
                        obtain ⟨i, mo, f, hi, rfl, rfl, hps, hft, hpi, hnb⟩ := hrel
                        have k0 : wr.cell? ⟨w6.heap.size, 0, none⟩ = some (.int .i64 kk) := (cell_of_row _ w6.heap.size 0 _ 69 (0, 0) hnb).trans rfl
                        have k2 : wr.cell? ⟨w6.heap.size, 2, none⟩ = some (.slice pa ps.length pc) := (cell_of_row _ w6.heap.size 2 _ 69 (0, 0) hnb).trans rfl
                        have HPS := Lib.hid hps
                        have HPI := Lib.hid hpi
                        have HFT := Lib.hid hft
                        have HNB := Lib.hid hnb
                        have HRP := Lib.hid (show Rd .i64 wr (.slice pa ps.length pc) ps from (HRP0W.out).below HPS.out.bel)
                        clear hps hpi hnb hft
                        by_cases hlt : i < ps.length
                        · have hlt' : (i : Int) < (ps.length : Int) := by omega
                          have hi16 : i ≤ 16 := by have := H16.out; omega
                          obtain ⟨b3, o3, c3, e3', hc3, hd3, q3⟩ := rd_at2 HRP.out hlt
                          cases e3'
                          have hmp := HLOW.out _ (getD_mem hlt)
                          obtain ⟨p, hp⟩ : ∃ n : Nat, ps.getD i 0 = (n : Int) := ⟨(ps.getD i 0).toNat, by omega⟩
                          have HPP := Lib.hid (show (partsN N ((q : Int) + 1)).getD i 0 = (p : Int) from by rw [HPN.out]; exact hp)
                          have HDP := Lib.hid (fun o => (show Der N (fun u => u ∈ zs) true (p : Int) from by
                            have := Op.sound HN.out HPS.out.rt (x := (q : Int) + 1) (by omega) (by omega) (by rw [show ((q : Int) + 1).toNat = q + 1 by omega]; exact HFT.out) (i := i) (by rw [HPN.out]; exact hlt) o
                            rw [HPN.out, hp] at this; exact this))
                          rw [hp] at q3 hmp
                          have ipp : p < N.length + 1 := by omega
                          clear hp hmp
                          by_cases k3 : kk = 3
                          · have HOP := Lib.hid (show Op N c ((q : Int) + 1) i from .inl (HKK.out.trans k3))
                            subst k3
                            cases hfp : f p with
                            | true =>
                              have fp := (HPS.out.a.cell (j := p) (by omega)).1
                              rw [hfp] at fp
                              have HFP := Lib.hid hfp
                              clear hfp
                              go_wp2_with fail
                              go_roundw
                              case rel => exact ⟨i + 1, mo, f, by omega, rfl, by go_num, HPS.out, HFT.out, HPI.out.old (fun _ => by rw [HPP.out, Int.toNat_natCast]; exact HFP.out), HNB.out⟩
                              case measure => simp [intOf]; omega
                            | false =>
                              obtain ⟨fp, ff, fl⟩ := HPS.out.a.cell (j := p) (by omega)
                              rw [hfp] at fp
                              have HFP := Lib.hid hfp
                              clear hfp
                              have HSET := Lib.hid (HPS.out.setF hne HFD.out.la (j := p) (by omega) (HDP.out HOP.out))
                              have hgA : gA ≠ w6.heap.size := by have := HBA.out; omega
                              go_wp2_with fail
                              go_roundw
                              case rel => exact ⟨i + 1, true, upB f p true, by omega, rfl, by go_num, HSET.out, upB_le HFT.out, HPI.out.new (by omega) HFP.out, by rw [heap_setCell_other _ _ _ _ (by simp only; omega)]; exact HNB.out⟩
                              case measure => simp [intOf]; omega
                          · have e3 : (kk == 3) = false := beq_eq_false_iff_ne.2 k3
                            by_cases k9 : kk = 9
                            · by_cases i1 : i = 1
                              · have HOP := Lib.hid (show Op N c ((q : Int) + 1) i from .inr (.inl ⟨HKK.out.trans k9, i1⟩))
                                subst k9
                                subst i1
                                cases hfp : f p with
                                | true =>
                                  have fp := (HPS.out.a.cell (j := p) (by omega)).1
                                  rw [hfp] at fp
                                  have HFP := Lib.hid hfp
                                  clear hfp
                                  go_wp2_with fail
                                  go_roundw
                                  case rel => exact ⟨2, mo, f, by omega, rfl, by go_num, HPS.out, HFT.out, HPI.out.old (fun _ => by rw [HPP.out, Int.toNat_natCast]; exact HFP.out), HNB.out⟩
                                  case measure => simp [intOf]; omega
                                | false =>
                                  obtain ⟨fp, ff, fl⟩ := HPS.out.a.cell (j := p) (by omega)
                                  rw [hfp] at fp
                                  have HFP := Lib.hid hfp
                                  clear hfp
                                  have HSET := Lib.hid (HPS.out.setF hne HFD.out.la (j := p) (by omega) (HDP.out HOP.out))
                                  have hgA : gA ≠ w6.heap.size := by have := HBA.out; omega
                                  go_wp2_with fail
                                  go_roundw
                                  case rel => exact ⟨2, true, upB f p true, by omega, rfl, by go_num, HSET.out, upB_le HFT.out, HPI.out.new (by omega) HFP.out, by rw [heap_setCell_other _ _ _ _ (by simp only; omega)]; exact HNB.out⟩
                                  case measure => simp [intOf]; omega
                              · have HNO := Lib.hid (show ¬ Op N c ((q : Int) + 1) i from fun o => by
                                  have := HKK.out
                                  rcases o with o | ⟨_, o⟩ | ⟨o, _⟩ <;> omega)
                                have ei : ((i : Int) == 1) = false := beq_eq_false_iff_ne.2 (by omega)
                                subst k9
                                go_wp2_with fail
                                go_roundw
                                case rel => exact ⟨i + 1, mo, f, by omega, rfl, by go_num, HPS.out, HFT.out, HPI.out.old (fun o => absurd o HNO.out), HNB.out⟩
                                case measure => simp [intOf]; omega
                            · have e9 : (kk == 9) = false := beq_eq_false_iff_ne.2 k9
                              by_cases k10 : kk = 10
                              · by_cases i2 : i = 2
                                · have hm0 := HLOW.out _ (getD_mem (ps := ps) (j := 0) (by omega))
                                  obtain ⟨p0, hp0⟩ : ∃ n : Nat, ps.getD 0 0 = (n : Int) := ⟨(ps.getD 0 0).toNat, by omega⟩
                                  obtain ⟨b4, o4, c4, e4, hc4, hd4, q4⟩ := rd_at2 HRP.out (i := 0) (by omega)
                                  cases e4
                                  rw [hp0] at q4 hm0
                                  simp only [Nat.add_zero] at q4
                                  have ip0 : p0 < N.length + 1 := by omega
                                  have cp0 := (HPS.out.b.cell (j := p0) ip0).1
                                  have HP0 := Lib.hid hp0
                                  clear hp0 hm0
                                  cases hcp : c p0 with
                                  | true =>
                                    rw [hcp] at cp0
                                    have HOP := Lib.hid (show Op N c ((q : Int) + 1) i from .inr (.inr ⟨HKK.out.trans k10, i2, by rw [HPN.out, HP0.out, Int.toNat_natCast]; exact hcp⟩))
                                    clear hcp
                                    subst k10
                                    subst i2
                                    cases hfp : f p with
                                    | true =>
                                      have fp := (HPS.out.a.cell (j := p) (by omega)).1
                                      rw [hfp] at fp
                                      have HFP := Lib.hid hfp
                                      clear hfp
                                      go_wp2_with fail
                                      go_roundw
                                      case rel => exact ⟨3, mo, f, by omega, rfl, by go_num, HPS.out, HFT.out, HPI.out.old (fun _ => by rw [HPP.out, Int.toNat_natCast]; exact HFP.out), HNB.out⟩
                                      case measure => simp [intOf]; omega
                                    | false =>
                                      obtain ⟨fp, ff, fl⟩ := HPS.out.a.cell (j := p) (by omega)
                                      rw [hfp] at fp
                                      have HFP := Lib.hid hfp
                                      clear hfp
                                      have HSET := Lib.hid (HPS.out.setF hne HFD.out.la (j := p) (by omega) (HDP.out HOP.out))
                                      have hgA : gA ≠ w6.heap.size := by have := HBA.out; omega
                                      go_wp2_with fail
                                      go_roundw
                                      case rel => exact ⟨3, true, upB f p true, by omega, rfl, by go_num, HSET.out, upB_le HFT.out, HPI.out.new (by omega) HFP.out, by rw [heap_setCell_other _ _ _ _ (by simp only; omega)]; exact HNB.out⟩
                                      case measure => simp [intOf]; omega
                                  | false =>
                                    rw [hcp] at cp0
                                    have HNO := Lib.hid (show ¬ Op N c ((q : Int) + 1) i from fun o => by
                                      have := HKK.out
                                      rcases o with o | ⟨o, _⟩ | ⟨_, _, o⟩
                                      · omega
                                      · omega
                                      · rw [HPN.out, HP0.out, Int.toNat_natCast, hcp] at o; cases o)
                                    clear hcp
                                    subst k10
                                    subst i2
                                    go_wp2_with fail
                                    go_roundw
                                    case rel => exact ⟨3, mo, f, by omega, rfl, by go_num, HPS.out, HFT.out, HPI.out.old (fun o => absurd o HNO.out), HNB.out⟩
                                    case measure => simp [intOf]; omega
                                · have HNO := Lib.hid (show ¬ Op N c ((q : Int) + 1) i from fun o => by
                                    have := HKK.out
                                    rcases o with o | ⟨o, _⟩ | ⟨_, o, _⟩ <;> omega)
                                  have ei : ((i : Int) == 2) = false := beq_eq_false_iff_ne.2 (by omega)
                                  subst k10
                                  go_wp2_with fail
                                  go_roundw
                                  case rel => exact ⟨i + 1, mo, f, by omega, rfl, by go_num, HPS.out, HFT.out, HPI.out.old (fun o => absurd o HNO.out), HNB.out⟩
                                  case measure => simp [intOf]; omega
                              · have HNO := Lib.hid (show ¬ Op N c ((q : Int) + 1) i from fun o => by
                                  have := HKK.out
                                  rcases o with o | ⟨o, _⟩ | ⟨o, _⟩ <;> omega)
                                have e10 : (kk == 10) = false := beq_eq_false_iff_ne.2 k10
                                go_wp2_with fail
                                go_roundw
                                case rel => exact ⟨i + 1, mo, f, by omega, rfl, by go_num, HPS.out, HFT.out, HPI.out.old (fun o => absurd o HNO.out), HNB.out⟩
                                case measure => simp [intOf]; omega
                        · obtain rfl : i = ps.length := by omega
                          have HNX := Lib.hid (show PassS N gk ((q : Int) + 1 + 1) mo f c from PassI.done (by rw [HPN.out]; exact HPI.out))
                          go_wp2_with fail
                          skip
                          go_roundw
                          case rel => exact ⟨q + 2, mo, f, c, by omega, by omega, rfl, by go_num, HPS.out, HNX.out⟩
                          case measure => simp [intOf]; omega
                  | true =>
                    have HPA := Lib.hid (show PassA N gk ((q : Int) + 1) true f (upB c (q + 1) true) from PassS.made HPSS'.out iq HCX.out)
                    obtain ⟨_, cf, cl⟩ := HPS0.out.b.cell (j := q + 1) iq
                    have HPS7 := Lib.hid (HPS0.out.setC hne HFD.out.lb iq (by have := HMS.out (HBM.out.1 (by simp)); exact this))
                    clear HPSS' HBM HPS0
                    generalize hW7 : w6.setCell ⟨gB, q + 1, none⟩ (.bool true) = w7 at *
                    have HPS0 := HPS7
                    clear HPS7
                    generalize hcc : upB c (q + 1) true = c7 at *
                    clear hcc HCX HMS
                    have fx := (HPS0.out.a.cell (j := q + 1) (by omega)).1
                    cases hfx : f (q + 1) with
                    | false =>
                      rw [hfx] at fx
                      have HNX := Lib.hid (HPA.out.skip (show f ((q : Int) + 1).toNat = false from by rw [show ((q : Int) + 1).toNat = q + 1 by omega]; exact hfx))
                      clear hfx
                      go_wp2_with fail
                      go_roundw
                      case rel => exact ⟨q + 2, _, f, _, by omega, by omega, rfl, by go_num, HPS0.out, HNX.out⟩
                      case measure => simp [intOf]; omega
                    | true =>
                      rw [hfx] at fx
                      have HFX := Lib.hid hfx
                      clear hfx
                      obtain ⟨g, gc, pa, pc, tx, m0, n1, n2, m3, m4, m5, m6⟩ := HRb.out.at (q := q) (by omega)
                      have n0 : w7.cell? ⟨rb, 0, none⟩ = some (.slice (some ⟨g, 0, none⟩) N.length gc) := by rw [HPS0.out.bel.cell (cell_lt m0)]; exact m0
                      have n3 : w7.cell? ⟨g, q * 3, none⟩ = some (.int .i64 (kindN N ((q : Int) + 1))) := by rw [HPS0.out.bel.cell (cell_lt m3)]; exact m3
                      have n4 : w7.cell? ⟨g, q * 3 + 1, none⟩ = some (.string tx) := by rw [HPS0.out.bel.cell (cell_lt m4)]; exact m4
                      have n5 : w7.cell? ⟨g, q * 3 + 2, none⟩ = some (.slice pa (partsN N ((q : Int) + 1)).length pc) := by rw [HPS0.out.bel.cell (cell_lt m5)]; exact m5
                      have HRP0W := Lib.hid m6
                      clear m0 m3 m4 m5 m6
                      have HLOW := Lib.hid (show ∀ y ∈ partsN N ((q : Int) + 1), 1 ≤ y ∧ y < (q : Int) + 1 from HN.out.low _ (by omega) (by omega))
                      have H16 := Lib.hid (HN.out.sixteen ((q : Int) + 1))
                      generalize hkk : kindN N ((q : Int) + 1) = kk at n3
                      generalize hpn : partsN N ((q : Int) + 1) = ps at n5 HRP0W HLOW H16
                      have HKK := Lib.hid hkk
                      have HPN := Lib.hid hpn
                      clear hkk hpn
                      have HBA := Lib.hid (show gA < w7.heap.size from HPS0.out.a.lt)
                      have hbel := below_alloc w7 (.cells #[.int .i64 kk, .string tx, .slice pa ps.length pc] 69)
                      have hnew := heap_alloc_new w7 (.cells #[.int .i64 kk, .string tx, .slice pa ps.length pc] 69)
                      have HPSB := Lib.hid (HPS0.out.keep hbel)
                      have HNB0 := Lib.hid hnew
                      have HBW := Lib.hid hbel
                      clear hbel hnew
                      go_wp2_with fail
                      go_loopw [10, 13] (fun mv iv wr => ∃ (i : Nat) (mo : Bool) (f : Nat → Bool), i ≤ ps.length ∧ mv = .bool mo ∧ iv = .int .i64 i ∧ Ps w gA gB N zs wr f c7 ∧ f (q + 1) = true ∧ PassI N gk ((q : Int) + 1) i mo f c7 ∧ wr.heap[w7.heap.size]? = some (.cells #[.int .i64 kk, .string tx, .slice pa ps.length pc] 69 (0, 0))) (fun _ iv _ => ps.length - (intOf iv).toNat)
                      case atStart => exact ⟨0, _, f, Nat.zero_le _, rfl, rfl, HPSB.out, HFX.out, HPA.out.zero, HNB0.out⟩
                      case round =>
                        clear HPSB HNB0 HPA
                        obtain ⟨i, mo, f, hi, rfl, rfl, hps, hft, hpi, hnb⟩ := hrel
                        have k0 : wr.cell? ⟨w7.heap.size, 0, none⟩ = some (.int .i64 kk) := (cell_of_row _ w7.heap.size 0 _ 69 (0, 0) hnb).trans rfl
                        have k2 : wr.cell? ⟨w7.heap.size, 2, none⟩ = some (.slice pa ps.length pc) := (cell_of_row _ w7.heap.size 2 _ 69 (0, 0) hnb).trans rfl
                        have HPS := Lib.hid hps
                        have HPI := Lib.hid hpi
                        have HFT := Lib.hid hft
                        have HNB := Lib.hid hnb
                        have HRP := Lib.hid (show Rd .i64 wr (.slice pa ps.length pc) ps from (HRP0W.out).below HPS.out.bel)
                        clear hps hpi hnb hft
                        by_cases hlt : i < ps.length
                        · have hlt' : (i : Int) < (ps.length : Int) := by omega
                          have hi16 : i ≤ 16 := by have := H16.out; omega
                          obtain ⟨b3, o3, c3, e3', hc3, hd3, q3⟩ := rd_at2 HRP.out hlt
                          cases e3'
                          have hmp := HLOW.out _ (getD_mem hlt)
                          obtain ⟨p, hp⟩ : ∃ n : Nat, ps.getD i 0 = (n : Int) := ⟨(ps.getD i 0).toNat, by omega⟩
                          have HPP := Lib.hid (show (partsN N ((q : Int) + 1)).getD i 0 = (p : Int) from by rw [HPN.out]; exact hp)
                          have HDP := Lib.hid (fun o => (show Der N (fun u => u ∈ zs) true (p : Int) from by
                            have := Op.sound HN.out HPS.out.rt (x := (q : Int) + 1) (by omega) (by omega) (by rw [show ((q : Int) + 1).toNat = q + 1 by omega]; exact HFT.out) (i := i) (by rw [HPN.out]; exact hlt) o
                            rw [HPN.out, hp] at this; exact this))
                          rw [hp] at q3 hmp
                          have ipp : p < N.length + 1 := by omega
                          clear hp hmp
                          by_cases k3 : kk = 3
                          · have HOP := Lib.hid (show Op N (c7) ((q : Int) + 1) i from .inl (HKK.out.trans k3))
                            subst k3
                            cases hfp : f p with
                            | true =>
                              have fp := (HPS.out.a.cell (j := p) (by omega)).1
                              rw [hfp] at fp
                              have HFP := Lib.hid hfp
                              clear hfp
                              go_wp2_with fail
                              go_roundw
                              case rel => exact ⟨i + 1, mo, f, by omega, rfl, by go_num, HPS.out, HFT.out, HPI.out.old (fun _ => by rw [HPP.out, Int.toNat_natCast]; exact HFP.out), HNB.out⟩
                              case measure => simp [intOf]; omega
                            | false =>
                              obtain ⟨fp, ff, fl⟩ := HPS.out.a.cell (j := p) (by omega)
                              rw [hfp] at fp
                              have HFP := Lib.hid hfp
                              clear hfp
                              have HSET := Lib.hid (HPS.out.setF hne HFD.out.la (j := p) (by omega) (HDP.out HOP.out))
                              have hgA : gA ≠ w7.heap.size := by have := HBA.out; omega
                              go_wp2_with fail
                              go_roundw
                              case rel => exact ⟨i + 1, true, upB f p true, by omega, rfl, by go_num, HSET.out, upB_le HFT.out, HPI.out.new (by omega) HFP.out, by rw [heap_setCell_other _ _ _ _ (by simp only; omega)]; exact HNB.out⟩
                              case measure => simp [intOf]; omega
                          · have e3 : (kk == 3) = false := beq_eq_false_iff_ne.2 k3
                            by_cases k9 : kk = 9
                            · by_cases i1 : i = 1
                              · have HOP := Lib.hid (show Op N (c7) ((q : Int) + 1) i from .inr (.inl ⟨HKK.out.trans k9, i1⟩))
                                subst k9
                                subst i1
                                cases hfp : f p with
                                | true =>
                                  have fp := (HPS.out.a.cell (j := p) (by omega)).1
                                  rw [hfp] at fp
                                  have HFP := Lib.hid hfp
                                  clear hfp
                                  go_wp2_with fail
                                  go_roundw
                                  case rel => exact ⟨2, mo, f, by omega, rfl, by go_num, HPS.out, HFT.out, HPI.out.old (fun _ => by rw [HPP.out, Int.toNat_natCast]; exact HFP.out), HNB.out⟩
                                  case measure => simp [intOf]; omega
                                | false =>
                                  obtain ⟨fp, ff, fl⟩ := HPS.out.a.cell (j := p) (by omega)
                                  rw [hfp] at fp
                                  have HFP := Lib.hid hfp
                                  clear hfp
                                  have HSET := Lib.hid (HPS.out.setF hne HFD.out.la (j := p) (by omega) (HDP.out HOP.out))
                                  have hgA : gA ≠ w7.heap.size := by have := HBA.out; omega
                                  go_wp2_with fail
                                  go_roundw
                                  case rel => exact ⟨2, true, upB f p true, by omega, rfl, by go_num, HSET.out, upB_le HFT.out, HPI.out.new (by omega) HFP.out, by rw [heap_setCell_other _ _ _ _ (by simp only; omega)]; exact HNB.out⟩
                                  case measure => simp [intOf]; omega
                              · have HNO := Lib.hid (show ¬ Op N (c7) ((q : Int) + 1) i from fun o => by
                                  have := HKK.out
                                  rcases o with o | ⟨_, o⟩ | ⟨o, _⟩ <;> omega)
                                have ei : ((i : Int) == 1) = false := beq_eq_false_iff_ne.2 (by omega)
                                subst k9
                                go_wp2_with fail
                                go_roundw
                                case rel => exact ⟨i + 1, mo, f, by omega, rfl, by go_num, HPS.out, HFT.out, HPI.out.old (fun o => absurd o HNO.out), HNB.out⟩
                                case measure => simp [intOf]; omega
                            · have e9 : (kk == 9) = false := beq_eq_false_iff_ne.2 k9
                              by_cases k10 : kk = 10
                              · by_cases i2 : i = 2
                                · have hm0 := HLOW.out _ (getD_mem (ps := ps) (j := 0) (by omega))
                                  obtain ⟨p0, hp0⟩ : ∃ n : Nat, ps.getD 0 0 = (n : Int) := ⟨(ps.getD 0 0).toNat, by omega⟩
                                  obtain ⟨b4, o4, c4, e4, hc4, hd4, q4⟩ := rd_at2 HRP.out (i := 0) (by omega)
                                  cases e4
                                  rw [hp0] at q4 hm0
                                  simp only [Nat.add_zero] at q4
                                  have ip0 : p0 < N.length + 1 := by omega
                                  have cp0 := (HPS.out.b.cell (j := p0) ip0).1
                                  have HP0 := Lib.hid hp0
                                  clear hp0 hm0
                                  cases hcp : c7 p0 with
                                  | true =>
                                    rw [hcp] at cp0
                                    have HOP := Lib.hid (show Op N (c7) ((q : Int) + 1) i from .inr (.inr ⟨HKK.out.trans k10, i2, by rw [HPN.out, HP0.out, Int.toNat_natCast]; exact hcp⟩))
                                    clear hcp
                                    subst k10
                                    subst i2
                                    cases hfp : f p with
                                    | true =>
                                      have fp := (HPS.out.a.cell (j := p) (by omega)).1
                                      rw [hfp] at fp
                                      have HFP := Lib.hid hfp
                                      clear hfp
                                      go_wp2_with fail
                                      go_roundw
                                      case rel => exact ⟨3, mo, f, by omega, rfl, by go_num, HPS.out, HFT.out, HPI.out.old (fun _ => by rw [HPP.out, Int.toNat_natCast]; exact HFP.out), HNB.out⟩
                                      case measure => simp [intOf]; omega
                                    | false =>
                                      obtain ⟨fp, ff, fl⟩ := HPS.out.a.cell (j := p) (by omega)
                                      rw [hfp] at fp
                                      have HFP := Lib.hid hfp
                                      clear hfp
                                      have HSET := Lib.hid (HPS.out.setF hne HFD.out.la (j := p) (by omega) (HDP.out HOP.out))
                                      have hgA : gA ≠ w7.heap.size := by have := HBA.out; omega
                                      go_wp2_with fail
                                      go_roundw
                                      case rel => exact ⟨3, true, upB f p true, by omega, rfl, by go_num, HSET.out, upB_le HFT.out, HPI.out.new (by omega) HFP.out, by rw [heap_setCell_other _ _ _ _ (by simp only; omega)]; exact HNB.out⟩
                                      case measure => simp [intOf]; omega
                                  | false =>
                                    rw [hcp] at cp0
                                    have HNO := Lib.hid (show ¬ Op N (c7) ((q : Int) + 1) i from fun o => by
                                      have := HKK.out
                                      rcases o with o | ⟨o, _⟩ | ⟨_, _, o⟩
                                      · omega
                                      · omega
                                      · rw [HPN.out, HP0.out, Int.toNat_natCast, hcp] at o; cases o)
                                    clear hcp
                                    subst k10
                                    subst i2
                                    go_wp2_with fail
                                    go_roundw
                                    case rel => exact ⟨3, mo, f, by omega, rfl, by go_num, HPS.out, HFT.out, HPI.out.old (fun o => absurd o HNO.out), HNB.out⟩
                                    case measure => simp [intOf]; omega
                                · have HNO := Lib.hid (show ¬ Op N (c7) ((q : Int) + 1) i from fun o => by
                                    have := HKK.out
                                    rcases o with o | ⟨o, _⟩ | ⟨_, o, _⟩ <;> omega)
                                  have ei : ((i : Int) == 2) = false := beq_eq_false_iff_ne.2 (by omega)
                                  subst k10
                                  go_wp2_with fail
                                  go_roundw
                                  case rel => exact ⟨i + 1, mo, f, by omega, rfl, by go_num, HPS.out, HFT.out, HPI.out.old (fun o => absurd o HNO.out), HNB.out⟩
                                  case measure => simp [intOf]; omega
                              · have HNO := Lib.hid (show ¬ Op N (c7) ((q : Int) + 1) i from fun o => by
                                  have := HKK.out
                                  rcases o with o | ⟨o, _⟩ | ⟨o, _⟩ <;> omega)
                                have e10 : (kk == 10) = false := beq_eq_false_iff_ne.2 k10
                                go_wp2_with fail
                                go_roundw
                                case rel => exact ⟨i + 1, mo, f, by omega, rfl, by go_num, HPS.out, HFT.out, HPI.out.old (fun o => absurd o HNO.out), HNB.out⟩
                                case measure => simp [intOf]; omega
                        · obtain rfl : i = ps.length := by omega
                          have HNX := Lib.hid (show PassS N gk ((q : Int) + 1 + 1) mo f c7 from PassI.done (by rw [HPN.out]; exact HPI.out))
                          go_wp2_with fail
                          skip
                          go_roundw
                          case rel => exact ⟨q + 2, mo, f, c7, by omega, by omega, rfl, by go_num, HPS.out, HNX.out⟩
                          case measure => simp [intOf]; omega
              · obtain rfl : x = N.length + 1 := by omega
                have hlt' : ¬ (((N.length + 1 : Nat) : Int) ≤ (N.length : Int)) := by omega
                obtain ⟨k', hk1, hk2⟩ := PassS.finish (by have := HPSS.out; rwa [show ((N.length + 1 : Nat) : Int) = (N.length : Int) + 1 by omega] at this)
                have HK1 := Lib.hid hk1
                have HK2 := Lib.hid hk2
                clear hk1 hk2
                go_wp2_with fail
                go_roundg k'
                case measure => exact HK1.out
                case rel => exact ⟨mo, f, c, rfl, HPS0.out, HK2.out⟩
  have hA : Fd w (((w.alloc (.cells (madeCells #[.bool false] (N.length + 1)) 4)).alloc (.cells (madeCells #[.bool false] (N.length + 1)) 4)).drew) w.heap.size (w.heap.size + 1) (N.length + 1) := by
    have e1 := heap_alloc2_old w (.cells (madeCells #[.bool false] (N.length + 1)) 4) (.cells (madeCells #[.bool false] (N.length + 1)) 4)
    have e2 := heap_alloc2_new w (.cells (madeCells #[.bool false] (N.length + 1)) 4) (.cells (madeCells #[.bool false] (N.length + 1)) 4)
    have hb : ∀ g, (((w.alloc (.cells (madeCells #[.bool false] (N.length + 1)) 4)).alloc (.cells (madeCells #[.bool false] (N.length + 1)) 4))).heap[g]? = some (.cells (madeCells #[.bool false] (N.length + 1)) 4 (0, 0)) → Bl (((w.alloc (.cells (madeCells #[.bool false] (N.length + 1)) 4)).alloc (.cells (madeCells #[.bool false] (N.length + 1)) 4)).drew) g (fun _ => false) (N.length + 1) := fun g hg =>
      ⟨_, hg, by simp [madeCells], fun j hj => by simp [madeCells, hj, Nat.mod_one]⟩
    exact ⟨hb _ e1, hb _ (by simpa using e2), by omega, by omega, by omega, ((below_alloc w _).trans ((below_alloc _ _).mono (by simp))).drew⟩
  go_region
  · exact tail _ _ _ hA
  · exact tail _ _ _ ⟨hA.b, hA.a, by omega, hA.lb, hA.la, hA.bel⟩
#print axioms find_any
end Go.Proofs.Ytinncmljffcobaa
