/- Packets: what bytes are as a row of packets; what it is for a row of them to lie in memory; what stays of it where few blocks change. -/
import Derived.Test.YtgnjmmaahpngpaaDoorHRead2
import Derived.Test.YtgnjmmaahpngpaaDoorRf
namespace Go.Proofs.YtgnjmmaahpngpaaDoor
open Go Go.RowKit

/-! ### Plain -/
theorem inBytes_zs (n : Nat) (s : In) : (inBytes n s).2.zs = s.zs := by unfold inBytes; split <;> (try split) <;> rfl
theorem inNeed_zs (b : Bool) (k : Int) (s : In) : (inNeed b k s).zs = s.zs := by unfold inNeed; split <;> rfl
theorem inBytes_end {n : Nat} {s : In} (h : (inBytes n s).2.e = 0) : s.e = 0 ∧ n ≤ s.zs.length - s.t ∧ (inBytes n s).2.t = s.t + n := by
  unfold inBytes at *
  by_cases h0 : s.e = 0
  · rw [if_pos h0] at h ⊢
    by_cases h1 : s.zs.length - s.t < n
    · rw [if_pos h1] at h; cases h
    · rw [if_neg h1]; exact ⟨h0, by omega, rfl⟩
  · rw [if_neg h0] at h; exact absurd h h0
theorem inNeed_end {b : Bool} {k : Int} {s : In} (hk : k ≠ 0) (h : (inNeed b k s).e = 0) : b = true ∧ inNeed b k s = s := by
  unfold inNeed at *
  by_cases h0 : s.e = 0 ∧ b = false
  · rw [if_pos h0] at h; exact absurd h hk
  · rw [if_neg h0] at h ⊢
    refine ⟨?_, rfl⟩
    cases b with
    | true => rfl
    | false => exact absurd ⟨h, rfl⟩ h0
theorem short_bounds {zs : List Int} (hf : (refShort zs).2.2.2 = 0) : 0 < (refShort zs).2.1 ∧ ((refShort zs).2.1 : Int) ≤ (refShort zs).2.2.1 ∧ (refShort zs).2.2.1 ≤ zs.length := by
  unfold refShort at *
  simp only at *
  generalize hf1 : inNumber 1 ⟨zs, 0, 0⟩ = f at *
  generalize hr1 : inNeed (decide (64 ≤ f.1) && decide (f.1 < 72)) 3 f.2 = r1 at *
  generalize hb1 : inBytes 8 r1 = b at *
  have hz : b.2.zs = zs := by rw [← hb1, inBytes_zs, ← hr1, inNeed_zs, ← hf1]; exact inBytes_zs _ _
  by_cases hc : (inNumber (f.1 % 4 + 1).toNat b.2).2.e = 0
  · rw [if_pos hc]
    obtain ⟨_, h2, h3⟩ := inBytes_end (show (inBytes _ b.2).2.e = 0 from hc)
    have h3' : (inNumber (f.1 % 4 + 1).toNat b.2).2.t = b.2.t + (f.1 % 4 + 1).toNat := h3
    simp only [h3']
    rw [hz] at h2
    omega
  · rw [if_neg hc] at hf
    exact absurd hf hc
theorem long_bounds {zs : List Int} (hf : (refLong zs).2.2.2 = 0) : 0 < (refLong zs).2.1 ∧ ((refLong zs).2.1 : Int) ≤ (refLong zs).2.2.1 ∧ (refLong zs).2.2.1 ≤ zs.length := by
  unfold refLong at *
  simp only at *
  generalize (inNumber 1 ⟨zs, 0, 0⟩) = f at *
  generalize (f.1 - 192) / 16 = k at *
  generalize inNeed (decide (f.1 % 16 < 4) && decide (k < 3)) 3 f.2 = r1 at *
  generalize inNumber 4 r1 = v at *
  generalize inNeed (decide (0 < v.1)) 3 v.2 = r2 at *
  generalize inNumber 1 r2 = a at *
  generalize inMost a.1.toNat 20 a.2 = to at *
  generalize inNumber 1 to.2 = c at *
  generalize inMost c.1.toNat 20 c.2 = fr at *
  generalize (if k = 0 then inMost (inVarint fr.2).1.toNat 64 (inVarint fr.2).2 else ([], fr.2)) = tk at *
  generalize inVarint tk.2 = n at *
  generalize hr3 : inNeed (decide (f.1 % 4 + 1 ≤ n.1)) 3 n.2 = r3 at *
  generalize hr4 : inNeed (decide (n.1 ≤ (zs.length : Int) - r3.t)) 2 r3 = r4 at *
  by_cases hc : (inNumber (f.1 % 4 + 1).toNat r4).2.e = 0
  · rw [if_pos hc]
    obtain ⟨h1, h2, h3⟩ := inBytes_end (show (inBytes _ r4).2.e = 0 from hc)
    have h3' : (inNumber (f.1 % 4 + 1).toNat r4).2.t = r4.t + (f.1 % 4 + 1).toNat := h3
    simp only [h3']
    rw [← hr4] at h1
    obtain ⟨h4, h5⟩ := inNeed_end (by decide) h1
    rw [hr4] at h5
    rw [hr4] at h1
    rw [h5] at h1
    rw [← hr3] at h1
    obtain ⟨h6, h7⟩ := inNeed_end (by decide) h1
    simp only [decide_eq_true_eq] at h4 h6
    rw [h5]
    omega
  · rw [if_neg hc] at hf
    exact absurd hf hc
/-- Where a packet's header and the packet end. -/
theorem ref_bounds {zs : List Int} (hf : (refP zs).2.2.2 = 0) : 0 < (refP zs).2.1 ∧ ((refP zs).2.1 : Int) ≤ (refP zs).2.2.1 ∧ (refP zs).2.2.1 ≤ zs.length := by
  unfold refP at *
  split
  · rename_i h; rw [if_pos h] at hf; exact short_bounds hf
  · rename_i h; rw [if_neg h] at hf; exact long_bounds hf

/-- The packets of bytes, up to the first that is none; an error's number. -/
def splitF : Nat → List Int → List (Hv × List Int × List Int) × Int
  | 0, _ => ([], 0)
  | n + 1, zs =>
    if zs = [] then ([], 0)
    else if (refP zs).2.2.2 = 0 then
      (((refP zs).1, zs.take (refP zs).2.1, (zs.take (refP zs).2.2.1.toNat).drop (refP zs).2.1) :: (splitF n (zs.drop (refP zs).2.2.1.toNat)).1, (splitF n (zs.drop (refP zs).2.2.1.toNat)).2)
    else ([], (refP zs).2.2.2)
theorem splitF_fuel : ∀ (n m : Nat) (zs : List Int), zs.length ≤ n → zs.length ≤ m → splitF n zs = splitF m zs := by
  intro n
  induction n with
  | zero =>
    intro m zs hn _
    have : zs = [] := List.eq_nil_of_length_eq_zero (by omega)
    subst this
    cases m with
    | zero => rfl
    | succ m => simp [splitF]
  | succ n ih =>
    intro m zs hn hm
    cases m with
    | zero =>
      have : zs = [] := List.eq_nil_of_length_eq_zero (by omega)
      subst this
      simp [splitF]
    | succ m =>
      simp only [splitF]
      by_cases hz : zs = []
      · rw [if_pos hz, if_pos hz]
      · rw [if_neg hz, if_neg hz]
        by_cases he : (refP zs).2.2.2 = 0
        · rw [if_pos he, if_pos he]
          have hb := ref_bounds he
          rw [ih m (zs.drop (refP zs).2.2.1.toNat) (by simp; omega) (by simp; omega)]
        · rw [if_neg he, if_neg he]
def splitP (zs : List Int) : List (Hv × List Int × List Int) × Int := splitF zs.length zs
theorem splitP_nil : splitP [] = ([], 0) := rfl
theorem splitP_err {zs : List Int} (hz : zs ≠ []) (he : (refP zs).2.2.2 ≠ 0) : splitP zs = ([], (refP zs).2.2.2) := by
  unfold splitP
  cases hl : zs.length with
  | zero => exact absurd (List.eq_nil_of_length_eq_zero hl) hz
  | succ n => simp only [splitF]; rw [if_neg hz, if_neg he]
theorem splitP_ok {zs : List Int} (hz : zs ≠ []) (he : (refP zs).2.2.2 = 0) : splitP zs =
    (((refP zs).1, zs.take (refP zs).2.1, (zs.take (refP zs).2.2.1.toNat).drop (refP zs).2.1) :: (splitP (zs.drop (refP zs).2.2.1.toNat)).1, (splitP (zs.drop (refP zs).2.2.1.toNat)).2) := by
  have hb := ref_bounds he
  unfold splitP
  cases hl : zs.length with
  | zero => exact absurd (List.eq_nil_of_length_eq_zero hl) hz
  | succ n =>
    simp only [splitF]
    rw [if_neg hz, if_pos he, splitF_fuel n (zs.drop (refP zs).2.2.1.toNat).length (zs.drop (refP zs).2.2.1.toNat) (by simp; omega) (Nat.le_refl _)]

/-! ### Rows of packets -/
structure Pk where
  h : Hv
  hd : List Int
  bd : List Int
  vt : Value
  vf : Value
  vk : Value
  vh : Value
  vb : Value
def Pk.plain (p : Pk) : Hv × List Int × List Int := (p.h, p.hd, p.bd)
def Pk.cells (p : Pk) : List Value := [.int .i64 p.h.k, .int .i64 p.h.v, p.vt, p.vf, p.vk, .int .i64 p.h.p, .int .i64 p.h.n, .int .i64 p.h.w, p.vh, p.vb]
def pkcells (l : List Pk) : List Value := l.flatMap Pk.cells
theorem pkcells_app (l m : List Pk) : pkcells (l ++ m) = pkcells l ++ pkcells m := by simp [pkcells]
theorem pkcells_len (l : List Pk) : (pkcells l).length = l.length * 10 := by
  induction l with
  | nil => rfl
  | cons p r ih => simp only [pkcells, List.flatMap_cons, List.length_append, List.length_cons] at *; rw [ih]; simp [Pk.cells]; omega
theorem pkcells_get (l : List Pk) (i j : Nat) (p : Pk) (h : l[i]? = some p) (hj : j < 10) : (pkcells l)[i * 10 + j]? = p.cells[j]? := by
  induction l generalizing i with
  | nil => simp at h
  | cons q r ih =>
    have e : pkcells (q :: r) = q.cells ++ pkcells r := by simp [pkcells]
    have e10 : q.cells.length = 10 := rfl
    rw [e]
    cases i with
    | zero =>
      simp only [List.getElem?_cons_zero, Option.some.injEq] at h
      subst h
      rw [List.getElem?_append_left (by omega)]
      simp
    | succ i =>
      rw [List.getElem?_append_right (by omega), e10, show (i + 1) * 10 + j - 10 = i * 10 + j by omega]
      exact ih i (by simpa using h)
/-- A packet's rows read, and lie at or behind lo. -/
structure Pr (lo : Nat) (w : World) (p : Pk) : Prop where
  hr : HrA lo w p.h p.vt p.vf p.vk
  hd : Ra lo w p.vh p.hd
  bd : Ra lo w p.vb p.bd
  ph : Plain p.vh
  pb : Plain p.vb
theorem Pr.below {lo : Nat} {w w' : World} {p : Pk} (h : Pr lo w p) (hb : Below w.heap.size w w') : Pr lo w' p := ⟨h.hr.below hb, h.hd.below hb, h.bd.below hb, h.ph, h.pb⟩
theorem Pr.mono {lo lo' : Nat} {w : World} {p : Pk} (h : Pr lo w p) (hl : lo' ≤ lo) : Pr lo' w p := ⟨h.hr.mono hl, h.hd.mono hl, h.bd.mono hl, h.ph, h.pb⟩
/-- A slice does not lie in the block g. -/
def Fa (g : Nat) (v : Value) (zs : List Int) : Prop := ∀ (a : Addr) (n cap : Nat), v = .slice (some a) n cap → zs ≠ [] → a.block ≠ g
structure Pf (g : Nat) (p : Pk) : Prop where
  t : Fa g p.vt p.h.to
  f : Fa g p.vf p.h.fr
  k : Fa g p.vk p.h.tk
  h : Fa g p.vh p.hd
  b : Fa g p.vb p.bd
theorem Ra.fa {lo g : Nat} {w : World} {v : Value} {zs : List Int} (h : Ra lo w v zs) (hg : g < lo) : Fa g v zs := fun a n cap e hz => by have := h.far a n cap e hz; omega
theorem Rd.lt_of {w : World} {v : Value} {zs : List Int} (h : Rd w v zs) {a : Addr} {n cap : Nat} (e : v = .slice (some a) n cap) (hz : zs ≠ []) : a.block < w.heap.size := by
  obtain ⟨ao, c, hv, _, _, _, _, hc⟩ := h
  rw [e] at hv
  cases hv
  have := cell_lt (hc a rfl 0 (List.length_pos_iff.2 hz))
  have e : (a.add 0).block = a.block := by unfold Addr.add; split <;> rfl
  omega
theorem Rd.fa {w : World} {v : Value} {zs : List Int} (h : Rd w v zs) {g : Nat} (hg : w.heap.size ≤ g) : Fa g v zs := fun a n cap e hz => by have := h.lt_of e hz; omega
theorem Pr.pf {lo g : Nat} {w : World} {p : Pk} (h : Pr lo w p) (hg : g < lo) : Pf g p := ⟨h.hr.to.fa hg, h.hr.fr.fa hg, h.hr.tk.fa hg, h.hd.fa hg, h.bd.fa hg⟩
theorem Pr.pf_new {lo g : Nat} {w : World} {p : Pk} (h : Pr lo w p) (hg : w.heap.size ≤ g) : Pf g p := ⟨h.hr.to.rd.fa hg, h.hr.fr.rd.fa hg, h.hr.tk.rd.fa hg, h.hd.rd.fa hg, h.bd.rd.fa hg⟩
/-- Nothing but the blocks S has changed of what was there. -/
structure Chg (S : List Nat) (w w' : World) : Prop where
  os : w'.os = w.os
  tape : w'.tape = w.tape
  output : w'.output = w.output
  size : w.heap.size ≤ w'.heap.size
  block : ∀ k, k < w.heap.size → k ∉ S → w'.heap[k]? = w.heap[k]?
theorem Chg.refl (S : List Nat) (w : World) : Chg S w w := ⟨rfl, rfl, rfl, Nat.le_refl _, fun _ _ _ => rfl⟩
theorem Chg.trans {S : List Nat} {a b c : World} (h : Chg S a b) (k : Chg S b c) : Chg S a c :=
  ⟨k.os.trans h.os, k.tape.trans h.tape, k.output.trans h.output, Nat.le_trans h.size k.size, fun i hi hn => (k.block i (Nat.lt_of_lt_of_le hi h.size) hn).trans (h.block i hi hn)⟩
theorem Chg.of_below {S : List Nat} {w w' : World} (h : Below w.heap.size w w') : Chg S w w' := ⟨h.os, h.tape, h.output, h.size, fun k hk _ => h.block k hk⟩
theorem Chg.alloc {S : List Nat} (w : World) (o : Obj) : Chg S w (w.alloc o) := .of_below (below_alloc w o)
theorem Chg.set {S : List Nat} {B : Nat} (w : World) (i : Nat) (v : Value) (h : B ∈ S) : Chg S w (w.setCell ⟨B, i, none⟩ v) :=
  ⟨rfl, rfl, rfl, by simp [World.setCell], fun k _ hn => Below.heap_setCell _ _ _ _ (fun e => hn (e ▸ h))⟩
theorem Chg.put {S : List Nat} {B : Nat} (w : World) (o : Obj) (h : B ∈ S) : Chg S w (w.putObj B o) :=
  ⟨rfl, rfl, rfl, by simp, fun k _ hn => World.putObj_heap_other (fun e => hn (e ▸ h))⟩
theorem Chg.grown {S : List Nat} {w w' : World} {row : Option Nat} (hg : w.grownBy w' row) (h : ∀ g, row = some g → g ∈ S) : Chg S w w' := by
  have hb : Below 0 w w' := (Below.refl 0 w).grown hg (Nat.zero_le _) fun k _ => Nat.zero_le _
  exact ⟨hb.os, hb.tape, hb.output, hb.size, fun k hk hn => hg.block k hk (fun e => hn (h k e.symm))⟩
theorem Chg.below {S : List Nat} {w0 w w' : World} (h : Chg S w w') (hb : Below w0.heap.size w0 w) (hS : ∀ k ∈ S, w0.heap.size ≤ k) : Below w0.heap.size w0 w' :=
  ⟨h.os.trans hb.os, h.tape.trans hb.tape, h.output.trans hb.output, Nat.le_trans hb.size h.size, fun k hk => (h.block k (Nat.lt_of_lt_of_le hk hb.size) (fun e => by have := hS k e; omega)).trans (hb.block k hk)⟩
theorem Rd.chg {S : List Nat} {w w' : World} {v : Value} {zs : List Int} (h : Rd w v zs) (hc : Chg S w w') (hf : ∀ g ∈ S, Fa g v zs) : Rd w' v zs := by
  obtain ⟨ao, cap, hv, h1, h2, h3, h4, hcell⟩ := h
  refine ⟨ao, cap, hv, h1, h2, h3, h4, fun a ha j hj => ?_⟩
  have hz : zs ≠ [] := fun e => by rw [e] at hj; simp at hj
  have hx := hcell _ ha j hj
  rw [← hx]
  have e : (a.add j).block = a.block := by unfold Addr.add; split <;> rfl
  refine World.cell?_of_block (w := w) (hc.block _ (cell_lt hx) fun hin => ?_)
  rw [e] at hin
  exact hf _ hin a zs.length cap (by rw [hv, ha]) hz rfl
theorem Ra.chg {S : List Nat} {lo : Nat} {w w' : World} {v : Value} {zs : List Int} (h : Ra lo w v zs) (hc : Chg S w w') (hf : ∀ g ∈ S, Fa g v zs) : Ra lo w' v zs := ⟨h.rd.chg hc hf, h.far⟩
theorem Pr.chg {S : List Nat} {lo : Nat} {w w' : World} {p : Pk} (h : Pr lo w p) (hc : Chg S w w') (hf : ∀ g ∈ S, Pf g p) : Pr lo w' p :=
  ⟨⟨h.hr.to.chg hc fun g hg => (hf g hg).t, h.hr.fr.chg hc fun g hg => (hf g hg).f, h.hr.tk.chg hc fun g hg => (hf g hg).k⟩, h.hd.chg hc fun g hg => (hf g hg).h, h.bd.chg hc fun g hg => (hf g hg).b, h.ph, h.pb⟩
#print axioms ref_bounds
#print axioms splitP_ok
#print axioms Pr.chg
end Go.Proofs.YtgnjmmaahpngpaaDoor
