/- Plain facts on headers: what bytes are as a header, told field by field; that the document's way of reading tells the same; what is written is read, what is cut short is too short. -/
import Derived.Test.YtgnjmmaahpngpaaDoorFBytes
import Derived.Test.YtgnjmmaahpngpaaDoorHWrite
namespace Go.Proofs.YtgnjmmaahpngpaaDoor
open Go Go.RowKit

/-- What taking a header has: its fields, where the packet ends, how many bytes are taken. -/
structure Ps where
  h : Hv
  e : Int
  t : Nat
def Hv.empty : Hv := ⟨0, 0, [], [], [], 0, 0, 0⟩
def pFirst (zs : List Int) (s : Ps) : Except Int Ps :=
  match zs.drop s.t with
  | [] => .error 2
  | b :: _ =>
    if 64 ≤ b ∧ b < 72 then .ok { s with h := { s.h with k := 3, p := b / 4 % 2, w := b % 4 + 1 }, t := s.t + 1 }
    else if 192 ≤ b ∧ b < 240 ∧ b % 16 < 4 then .ok { s with h := { s.h with k := (b - 192) / 16, w := b % 4 + 1 }, t := s.t + 1 }
    else .error 3
/-- A number of so many bytes. -/
def pFix (zs : List Int) (n t : Nat) : Except Int (Int × Nat) := if (zs.drop t).length < n then .error 2 else .ok (bigv ((zs.drop t).take n) 0, t + n)
/-- So many bytes. -/
def pBytes (zs : List Int) (n t : Nat) : Except Int (List Int × Nat) := if (zs.drop t).length < n then .error 2 else .ok ((zs.drop t).take n, t + n)
/-- So many bytes, at most so many. -/
def pMost (zs : List Int) (most n : Int) (t : Nat) : Except Int (List Int × Nat) := if most < n then .error 4 else pBytes zs n.toNat t
/-- A number of layer 1. -/
def pVar (zs : List Int) (t : Nat) : Except Int (Int × Nat) := if (rd (zs.drop t)).2.2 = 0 then .ok ((rd (zs.drop t)).1, t + (rd (zs.drop t)).2.1.toNat) else .error (rd (zs.drop t)).2.2
def pVersion (zs : List Int) (s : Ps) : Except Int Ps :=
  match pFix zs 4 s.t with
  | .ok (v, t) => if 0 < v then .ok { s with h := { s.h with v := v }, t := t } else .error 3
  | .error k => .error k
def pName (zs : List Int) (t : Nat) : Except Int (List Int × Nat) :=
  match pFix zs 1 t with
  | .ok (n, t) => pMost zs 20 n t
  | .error k => .error k
def pTo (zs : List Int) (s : Ps) : Except Int Ps :=
  match pName zs s.t with
  | .ok (l, t) => .ok { s with h := { s.h with to := l }, t := t }
  | .error k => .error k
def pFrom (zs : List Int) (s : Ps) : Except Int Ps :=
  match pName zs s.t with
  | .ok (l, t) => .ok { s with h := { s.h with fr := l }, t := t }
  | .error k => .error k
def pTok (zs : List Int) (t : Nat) : Except Int (List Int × Nat) :=
  match pVar zs t with
  | .ok (n, t) => pMost zs 64 n t
  | .error k => .error k
def pToken (zs : List Int) (s : Ps) : Except Int Ps :=
  match pTok zs s.t with
  | .ok (l, t) => .ok { s with h := { s.h with tk := l }, t := t }
  | .error k => .error k
def pLength (zs : List Int) (s : Ps) : Except Int Ps :=
  match pVar zs s.t with
  | .ok (n, t) => if n < s.h.w then .error 3 else if (zs.length : Int) - t < n then .error 2 else .ok { s with e := t + n, t := t }
  | .error k => .error k
def pNumber (zs : List Int) (s : Ps) : Except Int Ps :=
  match pFix zs s.h.w.toNat s.t with
  | .ok (n, t) => .ok { s with h := { s.h with n := n }, t := t }
  | .error k => .error k
def pShortTo (zs : List Int) (s : Ps) : Except Int Ps :=
  match pBytes zs 8 s.t with
  | .ok (l, t) => .ok { s with h := { s.h with to := l }, t := t }
  | .error k => .error k
def pWhole (zs : List Int) (s : Ps) : Except Int Ps := .ok { s with e := zs.length }
def steps (k : Int) : List (List Int → Ps → Except Int Ps) :=
  if k = 3 then [pShortTo, pNumber, pWhole]
  else if k = 0 then [pVersion, pTo, pFrom, pToken, pLength, pNumber]
  else [pVersion, pTo, pFrom, pLength, pNumber]
def runAll (zs : List Int) : List (List Int → Ps → Except Int Ps) → Ps → Except Int Ps
  | [], s => .ok s
  | f :: r, s => match f zs s with
    | .ok s' => runAll zs r s'
    | .error k => .error k
def readP (zs : List Int) : Except Int Ps :=
  match pFirst zs ⟨Hv.empty, 0, 0⟩ with
  | .ok s => runAll zs (steps s.h.k) s
  | .error k => .error k

/-- The document's reader: bytes, how many are taken, an error's number. -/
structure In where
  zs : List Int
  t : Nat
  e : Int
def inBytes (n : Nat) (s : In) : List Int × In :=
  if s.e = 0 then
    if s.zs.length - s.t < n then ([], { s with e := 2 }) else ((s.zs.drop s.t).take n, { s with t := s.t + n })
  else ([], s)
def inNumber (n : Nat) (s : In) : Int × In := (bigv (inBytes n s).1 0, (inBytes n s).2)
def inVarint (s : In) : Int × In :=
  if s.e = 0 then ((rd (s.zs.drop s.t)).1, { s with e := (rd (s.zs.drop s.t)).2.2, t := s.t + (rd (s.zs.drop s.t)).2.1.toNat }) else (0, s)
def inNeed (b : Bool) (k : Int) (s : In) : In := if s.e = 0 ∧ b = false then { s with e := k } else s
def inMost (n : Nat) (most : Int) (s : In) : List Int × In := inBytes n (inNeed (decide ((n : Int) ≤ most)) 4 s)

/-- What the document's Read tells. -/
def refShort (zs : List Int) : Hv × Nat × Int × Int :=
  let f := inNumber 1 ⟨zs, 0, 0⟩
  let r1 := inNeed (decide (64 ≤ f.1) && decide (f.1 < 72)) 3 f.2
  let b := inBytes 8 r1
  let n := inNumber (f.1 % 4 + 1).toNat b.2
  if n.2.e = 0 then (⟨3, 0, b.1, [], [], f.1 / 4 % 2, n.1, f.1 % 4 + 1⟩, n.2.t, zs.length, 0) else (Hv.empty, 0, 0, n.2.e)
def refLong (zs : List Int) : Hv × Nat × Int × Int :=
  let f := inNumber 1 ⟨zs, 0, 0⟩
  let k := (f.1 - 192) / 16
  let r1 := inNeed (decide (f.1 % 16 < 4) && decide (k < 3)) 3 f.2
  let v := inNumber 4 r1
  let r2 := inNeed (decide (0 < v.1)) 3 v.2
  let a := inNumber 1 r2
  let to := inMost a.1.toNat 20 a.2
  let c := inNumber 1 to.2
  let fr := inMost c.1.toNat 20 c.2
  let tk := if k = 0 then (let g := inVarint fr.2; inMost g.1.toNat 64 g.2) else ([], fr.2)
  let n := inVarint tk.2
  let r3 := inNeed (decide (f.1 % 4 + 1 ≤ n.1)) 3 n.2
  let r4 := inNeed (decide (n.1 ≤ (zs.length : Int) - r3.t)) 2 r3
  let num := inNumber (f.1 % 4 + 1).toNat r4
  if num.2.e = 0 then (⟨k, v.1, to.1, fr.1, tk.1, 0, num.1, f.1 % 4 + 1⟩, num.2.t, r4.t + n.1, 0) else (Hv.empty, 0, 0, num.2.e)
def refP (zs : List Int) : Hv × Nat × Int × Int := if (inNumber 1 ⟨zs, 0, 0⟩).1 < 192 then refShort zs else refLong zs
def outP : Except Int Ps → Hv × Nat × Int × Int
  | .ok s => (s.h, s.t, s.e, 0)
  | .error k => (Hv.empty, 0, 0, k)

theorem inBytes_err {n : Nat} {s : In} (h : s.e ≠ 0) : inBytes n s = ([], s) := by simp [inBytes, h]
theorem inNumber_err {n : Nat} {s : In} (h : s.e ≠ 0) : inNumber n s = (0, s) := by simp [inNumber, inBytes_err h, bigv]
theorem inVarint_err {s : In} (h : s.e ≠ 0) : inVarint s = (0, s) := by simp [inVarint, h]
theorem inNeed_err {b : Bool} {k : Int} {s : In} (h : s.e ≠ 0) : inNeed b k s = s := by simp [inNeed, h]
theorem inMost_err {n : Nat} {m : Int} {s : In} (h : s.e ≠ 0) : inMost n m s = ([], s) := by simp [inMost, inNeed_err h, inBytes_err h]
theorem inBytes_no {n t : Nat} {zs : List Int} (h : (zs.drop t).length < n) : inBytes n ⟨zs, t, 0⟩ = ([], ⟨zs, t, 2⟩) := by
  simp only [List.length_drop] at h
  simp [inBytes, h]
theorem inBytes_yes {n t : Nat} {zs : List Int} (h : ¬ (zs.drop t).length < n) : inBytes n ⟨zs, t, 0⟩ = ((zs.drop t).take n, ⟨zs, t + n, 0⟩) := by
  simp only [List.length_drop] at h
  simp [inBytes, h]
theorem inNumber_no {n t : Nat} {zs : List Int} (h : (zs.drop t).length < n) : inNumber n ⟨zs, t, 0⟩ = (0, ⟨zs, t, 2⟩) := by simp [inNumber, inBytes_no h, bigv]
theorem inNumber_yes {n t : Nat} {zs : List Int} (h : ¬ (zs.drop t).length < n) : inNumber n ⟨zs, t, 0⟩ = (bigv ((zs.drop t).take n) 0, ⟨zs, t + n, 0⟩) := by simp [inNumber, inBytes_yes h]
theorem inNeed_yes {k : Int} {s : In} : inNeed true k s = s := by simp [inNeed]
theorem inNeed_no {k : Int} {zs : List Int} {t : Nat} : inNeed false k ⟨zs, t, 0⟩ = ⟨zs, t, k⟩ := by simp [inNeed]
theorem inNumber1_nil {t : Nat} {zs : List Int} (h : zs.drop t = []) : inNumber 1 ⟨zs, t, 0⟩ = (0, ⟨zs, t, 2⟩) := inNumber_no (by rw [h]; simp)
theorem inNumber1_cons {t : Nat} {zs : List Int} {b : Int} {r : List Int} (h : zs.drop t = b :: r) : inNumber 1 ⟨zs, t, 0⟩ = (b, ⟨zs, t + 1, 0⟩) := by
  rw [inNumber_yes (by rw [h]; simp), h]; simp [bigv]
theorem drop_succ_of {t : Nat} {zs : List Int} {b : Int} {r : List Int} (h : zs.drop t = b :: r) : zs.drop (t + 1) = r := by
  have : (zs.drop t).drop 1 = r := by rw [h]; rfl
  rw [List.drop_drop] at this; exact this

theorem fix_ok {zs : List Int} {n t t' : Nat} {v : Int} (h : pFix zs n t = .ok (v, t')) : inNumber n ⟨zs, t, 0⟩ = (v, ⟨zs, t', 0⟩) := by
  unfold pFix at h
  by_cases hl : (zs.drop t).length < n
  · rw [if_pos hl] at h; cases h
  · rw [if_neg hl] at h; cases h; exact inNumber_yes hl
theorem fix_err {zs : List Int} {n t : Nat} {k : Int} (h : pFix zs n t = .error k) : k = 2 ∧ inNumber n ⟨zs, t, 0⟩ = (0, ⟨zs, t, k⟩) := by
  unfold pFix at h
  by_cases hl : (zs.drop t).length < n
  · rw [if_pos hl] at h; cases h; exact ⟨rfl, inNumber_no hl⟩
  · rw [if_neg hl] at h; cases h
theorem bytes_ok {zs : List Int} {n t t' : Nat} {v : List Int} (h : pBytes zs n t = .ok (v, t')) : inBytes n ⟨zs, t, 0⟩ = (v, ⟨zs, t', 0⟩) := by
  unfold pBytes at h
  by_cases hl : (zs.drop t).length < n
  · rw [if_pos hl] at h; cases h
  · rw [if_neg hl] at h; cases h; exact inBytes_yes hl
theorem bytes_err {zs : List Int} {n t : Nat} {k : Int} (h : pBytes zs n t = .error k) : k = 2 ∧ inBytes n ⟨zs, t, 0⟩ = ([], ⟨zs, t, k⟩) := by
  unfold pBytes at h
  by_cases hl : (zs.drop t).length < n
  · rw [if_pos hl] at h; cases h; exact ⟨rfl, inBytes_no hl⟩
  · rw [if_neg hl] at h; cases h
theorem most_ok {zs : List Int} {m n : Int} {t t' : Nat} {v : List Int} (hn : 0 ≤ n) (h : pMost zs m n t = .ok (v, t')) : inMost n.toNat m ⟨zs, t, 0⟩ = (v, ⟨zs, t', 0⟩) := by
  unfold pMost at h
  by_cases hm : m < n
  · rw [if_pos hm] at h; cases h
  · rw [if_neg hm] at h
    have e : decide (((n.toNat : Nat) : Int) ≤ m) = true := decide_eq_true (by omega)
    simp only [inMost, e, inNeed_yes]; exact bytes_ok h
theorem most_err {zs : List Int} {m n : Int} {t : Nat} {k : Int} (hn : 0 ≤ n) (h : pMost zs m n t = .error k) : k ≠ 0 ∧ inMost n.toNat m ⟨zs, t, 0⟩ = ([], ⟨zs, t, k⟩) := by
  unfold pMost at h
  by_cases hm : m < n
  · rw [if_pos hm] at h; cases h
    have e : decide (((n.toNat : Nat) : Int) ≤ m) = false := decide_eq_false (by omega)
    refine ⟨by decide, ?_⟩
    simp only [inMost, e]; rw [inNeed_no, inBytes_err (by simp)]
  · rw [if_neg hm] at h
    have e : decide (((n.toNat : Nat) : Int) ≤ m) = true := decide_eq_true (by omega)
    obtain ⟨rfl, h2⟩ := bytes_err h
    refine ⟨by decide, ?_⟩
    simp only [inMost, e, inNeed_yes]; exact h2
theorem var_ok {zs : List Int} {n : Int} {t t' : Nat} (hb : Byt zs) (h : pVar zs t = .ok (n, t')) : 0 ≤ n ∧ inVarint ⟨zs, t, 0⟩ = (n, ⟨zs, t', 0⟩) := by
  unfold pVar at h
  by_cases hl : (rd (zs.drop t)).2.2 = 0
  · rw [if_pos hl] at h; cases h
    refine ⟨?_, by simp [inVarint, hl]⟩
    rcases rd_size (hb.drop t) with ⟨_, h2, _⟩ | ⟨_, _, h3⟩
    · exact h2.1
    · omega
  · rw [if_neg hl] at h; cases h
theorem var_err {zs : List Int} {t : Nat} {k : Int} (hb : Byt zs) (h : pVar zs t = .error k) : k ≠ 0 ∧ inVarint ⟨zs, t, 0⟩ = (0, ⟨zs, t, k⟩) := by
  unfold pVar at h
  by_cases hl : (rd (zs.drop t)).2.2 = 0
  · rw [if_pos hl] at h; cases h
  · rw [if_neg hl] at h; cases h
    refine ⟨hl, ?_⟩
    rcases rd_size (hb.drop t) with ⟨h3, _⟩ | ⟨h1, h2, _⟩
    · exact absurd h3 hl
    · simp [inVarint, h1, h2]
theorem fix1_byte {zs : List Int} {t t' : Nat} {v : Int} (hb : Byt zs) (h : pFix zs 1 t = .ok (v, t')) : 0 ≤ v ∧ v ≤ 255 := by
  unfold pFix at h
  cases hd : zs.drop t with
  | nil => rw [hd] at h; simp at h
  | cons b r =>
    rw [hd] at h
    simp [bigv] at h
    have := hb b (List.mem_of_mem_drop (i := t) (by rw [hd]; exact List.mem_cons_self))
    omega
theorem name_ok {zs : List Int} {t t' : Nat} {l : List Int} (hb : Byt zs) (h : pName zs t = .ok (l, t')) :
    inMost (inNumber 1 ⟨zs, t, 0⟩).1.toNat 20 (inNumber 1 ⟨zs, t, 0⟩).2 = (l, ⟨zs, t', 0⟩) := by
  unfold pName at h
  cases hf : pFix zs 1 t with
  | error k => rw [hf] at h; cases h
  | ok x =>
    obtain ⟨n, t1⟩ := x
    rw [hf] at h
    rw [fix_ok hf]
    exact most_ok (fix1_byte hb hf).1 h
theorem name_err {zs : List Int} {t : Nat} {k : Int} (hb : Byt zs) (h : pName zs t = .error k) :
    k ≠ 0 ∧ ∃ t', inMost (inNumber 1 ⟨zs, t, 0⟩).1.toNat 20 (inNumber 1 ⟨zs, t, 0⟩).2 = ([], ⟨zs, t', k⟩) := by
  unfold pName at h
  cases hf : pFix zs 1 t with
  | error k' =>
    rw [hf] at h; cases h
    obtain ⟨h1, h2⟩ := fix_err hf
    rw [h2]
    exact ⟨by omega, t, by rw [inMost_err (by simp; omega)]⟩
  | ok x =>
    obtain ⟨n, t1⟩ := x
    rw [hf] at h
    rw [fix_ok hf]
    obtain ⟨h1, h2⟩ := most_err (fix1_byte hb hf).1 h
    exact ⟨h1, t1, h2⟩
theorem tok_ok {zs : List Int} {t t' : Nat} {l : List Int} (hb : Byt zs) (h : pTok zs t = .ok (l, t')) :
    inMost (inVarint ⟨zs, t, 0⟩).1.toNat 64 (inVarint ⟨zs, t, 0⟩).2 = (l, ⟨zs, t', 0⟩) := by
  unfold pTok at h
  cases hf : pVar zs t with
  | error k => rw [hf] at h; cases h
  | ok x =>
    obtain ⟨n, t1⟩ := x
    rw [hf] at h
    rw [(var_ok hb hf).2]
    exact most_ok (var_ok hb hf).1 h
theorem tok_err {zs : List Int} {t : Nat} {k : Int} (hb : Byt zs) (h : pTok zs t = .error k) :
    k ≠ 0 ∧ ∃ t', inMost (inVarint ⟨zs, t, 0⟩).1.toNat 64 (inVarint ⟨zs, t, 0⟩).2 = ([], ⟨zs, t', k⟩) := by
  unfold pTok at h
  cases hf : pVar zs t with
  | error k' =>
    rw [hf] at h; cases h
    obtain ⟨h1, h2⟩ := var_err hb hf
    rw [h2]
    exact ⟨h1, t, by rw [inMost_err (by simpa using h1)]⟩
  | ok x =>
    obtain ⟨n, t1⟩ := x
    rw [hf] at h
    rw [(var_ok hb hf).2]
    obtain ⟨h1, h2⟩ := most_err (var_ok hb hf).1 h
    exact ⟨h1, t1, h2⟩

theorem first_cases {zs : List Int} (hb : Byt zs) :
    (pFirst zs ⟨Hv.empty, 0, 0⟩ = .error 2 ∧ inNumber 1 ⟨zs, 0, 0⟩ = (0, ⟨zs, 0, 2⟩)) ∨
    ∃ b, 0 ≤ b ∧ b ≤ 255 ∧ inNumber 1 ⟨zs, 0, 0⟩ = (b, ⟨zs, 1, 0⟩) ∧
      pFirst zs ⟨Hv.empty, 0, 0⟩ = if 64 ≤ b ∧ b < 72 then .ok ⟨{ Hv.empty with k := 3, p := b / 4 % 2, w := b % 4 + 1 }, 0, 1⟩
        else if 192 ≤ b ∧ b < 240 ∧ b % 16 < 4 then .ok ⟨{ Hv.empty with k := (b - 192) / 16, w := b % 4 + 1 }, 0, 1⟩ else .error 3 := by
  cases zs with
  | nil => exact .inl ⟨rfl, inNumber1_nil rfl⟩
  | cons b r => exact .inr ⟨b, (hb b (by simp)).1, (hb b (by simp)).2, inNumber1_cons rfl, rfl⟩

theorem short_eq {zs : List Int} {b : Int} (h1 : 64 ≤ b ∧ b < 72) (hf : inNumber 1 ⟨zs, 0, 0⟩ = (b, ⟨zs, 1, 0⟩)) :
    refShort zs = outP (runAll zs (steps 3) ⟨{ Hv.empty with k := 3, p := b / 4 % 2, w := b % 4 + 1 }, 0, 1⟩) := by
  have e1 : (decide (64 ≤ b) && decide (b < 72)) = true := by simp [h1]
  simp only [refShort, hf, e1, inNeed_yes, steps, if_true, runAll, pShortTo]
  cases h8 : pBytes zs 8 1 with
  | error k =>
    obtain ⟨rfl, h2⟩ := bytes_err h8
    simp only [h2, outP]
    rw [inNumber_err (by simp)]
    simp
  | ok x =>
    obtain ⟨l, t⟩ := x
    simp only [bytes_ok h8, pNumber]
    cases h9 : pFix zs (b % 4 + 1).toNat t with
    | error k =>
      obtain ⟨rfl, h2⟩ := fix_err h9
      simp [h2, outP]
    | ok x =>
      obtain ⟨n, t'⟩ := x
      simp [fix_ok h9, outP, pWhole, Hv.empty]
theorem long_eq {zs : List Int} {b : Int} (hb : Byt zs) (h1 : 192 ≤ b ∧ b < 240 ∧ b % 16 < 4) (hf : inNumber 1 ⟨zs, 0, 0⟩ = (b, ⟨zs, 1, 0⟩)) :
    refLong zs = outP (runAll zs (steps ((b - 192) / 16)) ⟨{ Hv.empty with k := (b - 192) / 16, w := b % 4 + 1 }, 0, 1⟩) := by
  have e1 : (decide (b % 16 < 4) && decide ((b - 192) / 16 < 3)) = true := by simp; omega
  have hk3 : ¬ (b - 192) / 16 = 3 := by omega
  simp only [refLong, hf, e1, inNeed_yes]
  have hs : runAll zs (steps ((b - 192) / 16)) ⟨{ Hv.empty with k := (b - 192) / 16, w := b % 4 + 1 }, 0, 1⟩ = runAll zs ([pVersion, pTo, pFrom] ++ ((if (b - 192) / 16 = 0 then [pToken] else []) ++ [pLength, pNumber])) ⟨{ Hv.empty with k := (b - 192) / 16, w := b % 4 + 1 }, 0, 1⟩ := by
    simp only [steps, if_neg hk3]
    by_cases hk : (b - 192) / 16 = 0 <;> simp [hk]
  rw [hs]
  generalize hK : (b - 192) / 16 = K
  generalize hW : b % 4 + 1 = W
  simp only [List.cons_append, List.nil_append, runAll, pVersion]
  cases h4 : pFix zs 4 1 with
  | error k =>
    obtain ⟨rfl, h2⟩ := fix_err h4
    simp only [h2, outP]
    have e : ((⟨zs, 1, 2⟩ : In).e ≠ 0) := by simp
    by_cases hk : K = 0 <;> simp [inNeed_err e, inNumber_err e, inMost_err e, inVarint_err e, hk]
  | ok x =>
    obtain ⟨v, t⟩ := x
    simp only [fix_ok h4]
    by_cases hv : 0 < v
    · simp only [hv, decide_true, inNeed_yes, if_true, pTo]
      cases h5 : pName zs t with
      | error k =>
        obtain ⟨hk0, t', h2⟩ := name_err hb h5
        simp only [h2, outP]
        have e : ((⟨zs, t', k⟩ : In).e ≠ 0) := hk0
        by_cases hk : K = 0 <;> simp [inNeed_err e, inNumber_err e, inMost_err e, inVarint_err e, hk, hk0]
      | ok x =>
        obtain ⟨l, t2⟩ := x
        simp only [name_ok hb h5, pFrom]
        cases h6 : pName zs t2 with
        | error k =>
          obtain ⟨hk0, t', h2⟩ := name_err hb h6
          simp only [h2, outP]
          have e : ((⟨zs, t', k⟩ : In).e ≠ 0) := hk0
          by_cases hk : K = 0 <;> simp [inNeed_err e, inNumber_err e, inMost_err e, inVarint_err e, hk, hk0]
        | ok x =>
          obtain ⟨l2, t3⟩ := x
          simp only [name_ok hb h6]
          have tail : ∀ (tk : List Int) (t4 : Nat), (if (inNumber W.toNat (inNeed (decide ((inVarint ⟨zs, t4, 0⟩).1 ≤ (zs.length : Int) - (inNeed (decide (W ≤ (inVarint ⟨zs, t4, 0⟩).1)) 3 (inVarint ⟨zs, t4, 0⟩).2).t)) 2 (inNeed (decide (W ≤ (inVarint ⟨zs, t4, 0⟩).1)) 3 (inVarint ⟨zs, t4, 0⟩).2))).2.e = 0 then
              ((⟨K, v, l, l2, tk, 0, (inNumber W.toNat (inNeed (decide ((inVarint ⟨zs, t4, 0⟩).1 ≤ (zs.length : Int) - (inNeed (decide (W ≤ (inVarint ⟨zs, t4, 0⟩).1)) 3 (inVarint ⟨zs, t4, 0⟩).2).t)) 2 (inNeed (decide (W ≤ (inVarint ⟨zs, t4, 0⟩).1)) 3 (inVarint ⟨zs, t4, 0⟩).2))).1, W⟩ : Hv), (inNumber W.toNat (inNeed (decide ((inVarint ⟨zs, t4, 0⟩).1 ≤ (zs.length : Int) - (inNeed (decide (W ≤ (inVarint ⟨zs, t4, 0⟩).1)) 3 (inVarint ⟨zs, t4, 0⟩).2).t)) 2 (inNeed (decide (W ≤ (inVarint ⟨zs, t4, 0⟩).1)) 3 (inVarint ⟨zs, t4, 0⟩).2))).2.t, ((inNeed (decide ((inVarint ⟨zs, t4, 0⟩).1 ≤ (zs.length : Int) - (inNeed (decide (W ≤ (inVarint ⟨zs, t4, 0⟩).1)) 3 (inVarint ⟨zs, t4, 0⟩).2).t)) 2 (inNeed (decide (W ≤ (inVarint ⟨zs, t4, 0⟩).1)) 3 (inVarint ⟨zs, t4, 0⟩).2)).t : Int) + (inVarint ⟨zs, t4, 0⟩).1, (0 : Int))
              else (Hv.empty, 0, 0, (inNumber W.toNat (inNeed (decide ((inVarint ⟨zs, t4, 0⟩).1 ≤ (zs.length : Int) - (inNeed (decide (W ≤ (inVarint ⟨zs, t4, 0⟩).1)) 3 (inVarint ⟨zs, t4, 0⟩).2).t)) 2 (inNeed (decide (W ≤ (inVarint ⟨zs, t4, 0⟩).1)) 3 (inVarint ⟨zs, t4, 0⟩).2))).2.e)) =
              outP (runAll zs [pLength, pNumber] ⟨⟨K, v, l, l2, tk, 0, 0, W⟩, 0, t4⟩) := by
            intro tk t4
            simp only [runAll, pLength]
            cases h7 : pVar zs t4 with
            | error k =>
              obtain ⟨hk0, h2⟩ := var_err hb h7
              have e : ((⟨zs, t4, k⟩ : In).e ≠ 0) := hk0
              simp [h2, inNeed_err e, inNumber_err e, hk0, outP]
            | ok x =>
              obtain ⟨n, t5⟩ := x
              simp only [(var_ok hb h7).2]
              by_cases hn : n < W
              · have e2 : decide (W ≤ n) = false := decide_eq_false (by omega)
                have e : ((⟨zs, t5, 3⟩ : In).e ≠ 0) := by simp
                simp [e2, hn, inNeed_no, inNeed_err e, inNumber_err e, outP]
              · have e2 : decide (W ≤ n) = true := decide_eq_true (by omega)
                simp only [e2, if_neg hn, inNeed_yes]
                by_cases hl : (zs.length : Int) - t5 < n
                · have e3 : decide (n ≤ (zs.length : Int) - t5) = false := decide_eq_false (by omega)
                  have e : ((⟨zs, t5, 2⟩ : In).e ≠ 0) := by simp
                  simp [e3, hl, inNeed_no, inNumber_err e, outP]
                · have e3 : decide (n ≤ (zs.length : Int) - t5) = true := decide_eq_true (by omega)
                  simp only [e3, if_neg hl, inNeed_yes, pNumber]
                  cases h8 : pFix zs W.toNat t5 with
                  | error k =>
                    obtain ⟨rfl, h2⟩ := fix_err h8
                    simp [h2, outP]
                  | ok x =>
                    obtain ⟨m, t6⟩ := x
                    simp [fix_ok h8, outP]
          by_cases hk : K = 0
          · simp only [if_pos hk, List.cons_append, List.nil_append, runAll, pToken]
            cases h7 : pTok zs t3 with
            | error k =>
              obtain ⟨hk0, t', h2⟩ := tok_err hb h7
              have e : ((⟨zs, t', k⟩ : In).e ≠ 0) := hk0
              simp [h2, inNeed_err e, inNumber_err e, inVarint_err e, hk0, outP]
            | ok x =>
              obtain ⟨tk, t4⟩ := x
              simp only [tok_ok hb h7]
              exact tail tk t4
          · simp only [if_neg hk, List.nil_append]
            exact tail [] t3
    · have e : ((⟨zs, t, 3⟩ : In).e ≠ 0) := by simp
      simp only [hv, decide_false, inNeed_no, if_false, outP]
      by_cases hk : K = 0 <;> simp [inNeed_err e, inNumber_err e, inMost_err e, inVarint_err e, hk]
theorem ref_eq {zs : List Int} (hb : Byt zs) : refP zs = outP (readP zs) := by
  rcases first_cases hb with ⟨h1, h2⟩ | ⟨b, _, _, h2, h1⟩
  · have e : ((⟨zs, 0, 2⟩ : In).e ≠ 0) := by simp
    simp [refP, readP, h1, h2, refShort, inNeed_err e, inBytes_err e, inNumber_err e, outP]
  · simp only [refP, readP, h1, h2]
    by_cases hs : 64 ≤ b ∧ b < 72
    · rw [if_pos (by omega), if_pos hs]
      exact short_eq hs h2
    · rw [if_neg hs]
      by_cases hl : 192 ≤ b ∧ b < 240 ∧ b % 16 < 4
      · rw [if_pos hl, if_neg (by omega)]
        exact long_eq hb hl h2
      · rw [if_neg hl]
        by_cases h192 : b < 192
        · rw [if_pos h192]
          have e1 : (decide (64 ≤ b) && decide (b < 72)) = false := by simp; omega
          have e : ((⟨zs, 1, 3⟩ : In).e ≠ 0) := by simp
          simp [refShort, h2, e1, inNeed_no, inBytes_err e, inNumber_err e, outP]
        · rw [if_neg h192]
          have e1 : (decide (b % 16 < 4) && decide ((b - 192) / 16 < 3)) = false := by simp; omega
          have e : ((⟨zs, 1, 3⟩ : In).e ≠ 0) := by simp
          simp only [refLong, h2, e1, inNeed_no, outP]
          by_cases hk : (b - 192) / 16 = 0 <;> simp [inNeed_err e, inNumber_err e, inMost_err e, inVarint_err e, hk]

/- what is written is read -/
theorem bigv_big (n a : Int) (k : Nat) (hk : k ≤ 4) (h0 : 0 ≤ n) (h : n < 256 ^ k) : bigv (big n k) a = a * 256 ^ k + n := by
  have : k = 0 ∨ k = 1 ∨ k = 2 ∨ k = 3 ∨ k = 4 := by omega
  rcases this with rfl | rfl | rfl | rfl | rfl <;> simp [big, bigv] at h ⊢ <;> omega
theorem drop_app {zs r f : List Int} {t : Nat} (h : zs.drop t = f ++ r) : zs.drop (t + f.length) = r := by
  rw [← List.drop_drop, h, List.drop_left]
theorem bytes_at {zs r f : List Int} {t : Nat} (h : zs.drop t = f ++ r) : pBytes zs f.length t = .ok (f, t + f.length) := by
  unfold pBytes
  rw [h, if_neg (by simp), List.take_left]
theorem fix_at {zs r : List Int} {t k : Nat} {n : Int} (hk : k ≤ 4) (h0 : 0 ≤ n) (hn : n < 256 ^ k) (h : zs.drop t = big n k ++ r) : pFix zs k t = .ok (n, t + k) := by
  unfold pFix
  have hl := big_len n k
  rw [h, if_neg (by simp [hl]), List.take_append_of_le_length (by omega), List.take_of_length_le (by omega), bigv_big n 0 k hk h0 hn]
  simp
theorem fix1_at {zs r : List Int} {t : Nat} {n : Int} (h : zs.drop t = n :: r) : pFix zs 1 t = .ok (n, t + 1) := by
  unfold pFix
  rw [h, if_neg (by simp)]; simp [bigv]
theorem most_at {zs r f : List Int} {t : Nat} {m : Int} (hm : (f.length : Int) ≤ m) (h : zs.drop t = f ++ r) : pMost zs m f.length t = .ok (f, t + f.length) := by
  unfold pMost
  rw [if_neg (by omega)]
  exact bytes_at h
theorem name_at {zs r f : List Int} {t : Nat} (hf : f.length ≤ 20) (h : zs.drop t = (f.length : Int) :: (f ++ r)) : pName zs t = .ok (f, t + 1 + f.length) := by
  unfold pName
  rw [fix1_at h]
  exact most_at (by omega) (drop_app (f := [(f.length : Int)]) h)
theorem var_at {zs r : List Int} {t : Nat} {n : Int} (h0 : 0 ≤ n) (hn : n < 4611686018427387904) (h : zs.drop t = enc n ++ r) : pVar zs t = .ok (n, t + (enc n).length) := by
  unfold pVar
  rw [h, rd_enc n h0 hn]; simp
theorem tok_at {zs r f : List Int} {t : Nat} (hf : f.length ≤ 64) (h : zs.drop t = enc f.length ++ (f ++ r)) : pTok zs t = .ok (f, t + (enc f.length).length + f.length) := by
  unfold pTok
  rw [var_at (by omega) (by omega) h]
  exact most_at (by omega) (drop_app h)
theorem num_facts' {h : Hv} (hX : numB h = true) : 1 ≤ h.w ∧ h.w ≤ 4 ∧ 0 ≤ h.n ∧ h.n < 256 ^ h.w.toNat := by
  simp [numB, fitsB] at hX; omega
theorem read_short (h : Hv) (n : Int) (body : List Int) (hX : rightB h = true) (hk : h.k = 3) :
    readP (wrB h n ++ body) = .ok ⟨h, ((wrB h n ++ body).length : Int), (wrB h n).length⟩ := by
  have hS : shortB h = true := by simpa [rightB, hk] using hX
  simp only [shortB, Bool.and_eq_true, decide_eq_true_eq, Bool.or_eq_true] at hS
  obtain ⟨⟨⟨⟨⟨hv, hto⟩, hfr⟩, htk⟩, hp⟩, hnum⟩ := hS
  obtain ⟨w1, w4, n0, n1⟩ := num_facts' hnum
  have hfr' := List.eq_nil_of_length_eq_zero hfr
  have htk' := List.eq_nil_of_length_eq_zero htk
  generalize hzs : wrB h n ++ body = zs
  have hlen : (wrB h n).length = 1 + 8 + h.w.toNat := by simp [wrB, hk, hto, big_len]; omega
  have d0 : zs.drop 0 = (64 + 4 * h.p + (h.w - 1)) :: (h.to ++ (big h.n h.w.toNat ++ body)) := by
    rw [← hzs]; simp [wrB, hk]
  have d1 := drop_app (f := [64 + 4 * h.p + (h.w - 1)]) d0
  have hf : pFirst zs ⟨Hv.empty, 0, 0⟩ = .ok ⟨{ Hv.empty with k := 3, p := h.p, w := h.w }, 0, 1⟩ := by
    unfold pFirst
    simp only [d0]
    rw [if_pos (by omega)]
    have e1 : (64 + 4 * h.p + (h.w - 1)) / 4 % 2 = h.p := by omega
    have e2 : (64 + 4 * h.p + (h.w - 1)) % 4 + 1 = h.w := by omega
    simp only [e1, e2]
  simp only [List.length_singleton] at d1
  have b8 := bytes_at d1
  rw [hto] at b8
  have d2 := drop_app d1
  rw [hto] at d2
  have f9 := fix_at (by omega) n0 n1 d2
  rw [hlen]
  simp only [readP, hf, steps, if_true, runAll, pShortTo, b8, pNumber, f9, pWhole]
  obtain ⟨k, v, to, fr, tk, p, n', w⟩ := h
  simp only at hk hv hfr' htk'
  subst hk; subst hv; subst hfr'; subst htk'
  simp [Hv.empty]
theorem read_long (h : Hv) (n : Int) (body : List Int) (hX : rightB h = true) (hk : h.k ≠ 3) (hn : 0 ≤ n ∧ n ≤ 16384) (hb : n ≤ body.length) :
    readP (wrB h n ++ body) = .ok ⟨h, ((wrB h n).length : Int) + n, (wrB h n).length⟩ := by
  have hS : longB h = true ∧ (h.k = 0 ∧ h.tk.length ≤ 64 ∨ (h.k = 1 ∨ h.k = 2) ∧ h.tk.length = 0) := by
    unfold rightB at hX
    by_cases h0 : h.k = 0
    · rw [if_pos h0] at hX; simp at hX; exact ⟨hX.1, .inl ⟨h0, hX.2⟩⟩
    · rw [if_neg h0] at hX
      by_cases h12 : h.k = 1 ∨ h.k = 2
      · rw [if_pos h12] at hX; simp at hX; exact ⟨hX.1, .inr ⟨h12, by simp [hX.2]⟩⟩
      · rw [if_neg h12, if_neg hk] at hX; cases hX
  obtain ⟨hL, hT⟩ := hS
  simp only [longB, Bool.and_eq_true, decide_eq_true_eq] at hL
  obtain ⟨⟨⟨⟨⟨hv0, hv1⟩, hto⟩, hfr⟩, hp⟩, hnum⟩ := hL
  obtain ⟨w1, w4, n0, n1⟩ := num_facts' hnum
  generalize hzs : wrB h n ++ body = zs
  have hK : 0 ≤ h.k ∧ h.k ≤ 2 := by omega
  have d0 : zs.drop 0 = (192 + 16 * h.k + (h.w - 1)) :: (big h.v 4 ++ ((h.to.length : Int) :: (h.to ++ ((h.fr.length : Int) :: (h.fr ++ ((if h.k = 0 then enc h.tk.length ++ h.tk else []) ++ (enc (h.w + n) ++ (big h.n h.w.toNat ++ body)))))))) := by
    rw [← hzs]; simp [wrB, hk]
  have d1 : zs.drop 1 = big h.v 4 ++ ((h.to.length : Int) :: (h.to ++ ((h.fr.length : Int) :: (h.fr ++ ((if h.k = 0 then enc h.tk.length ++ h.tk else []) ++ (enc (h.w + n) ++ (big h.n h.w.toNat ++ body))))))) := drop_app (f := [192 + 16 * h.k + (h.w - 1)]) d0
  have hf : pFirst zs ⟨Hv.empty, 0, 0⟩ = .ok ⟨{ Hv.empty with k := h.k, w := h.w }, 0, 1⟩ := by
    unfold pFirst
    simp only [d0]
    rw [if_neg (by omega), if_pos (by omega)]
    have e1 : (192 + 16 * h.k + (h.w - 1) - 192) / 16 = h.k := by omega
    have e2 : (192 + 16 * h.k + (h.w - 1)) % 4 + 1 = h.w := by omega
    simp only [e1, e2]
  have f4 := fix_at (k := 4) (by omega) (by omega) hv1 d1
  have d2 := drop_app d1
  rw [big_len] at d2
  have nt := name_at hto d2
  have d3 := drop_app (drop_app (f := [(h.to.length : Int)]) d2)
  simp only [List.length_singleton] at d3
  have nf := name_at hfr d3
  have d4 := drop_app (drop_app (f := [(h.fr.length : Int)]) d3)
  simp only [List.length_singleton] at d4
  have tail : ∀ (t : Nat) (hd : Hv), hd.w = h.w → zs.drop t = enc (h.w + n) ++ (big h.n h.w.toNat ++ body) → runAll zs [pLength, pNumber] ⟨hd, 0, t⟩ = .ok ⟨{ hd with n := h.n }, ((t + (enc (h.w + n)).length : Nat) : Int) + (h.w + n), t + (enc (h.w + n)).length + h.w.toNat⟩ := by
    intro t hd hw d
    have v1 := var_at (by omega) (by omega) d
    have d' := drop_app d
    have f := fix_at (by omega) n0 n1 d'
    have hl := congrArg List.length d'
    simp only [List.length_drop, List.length_append, big_len] at hl
    simp only [runAll, pLength, v1, hw]
    rw [if_neg (by omega), if_neg (by omega)]
    simp only [pNumber, hw, f]
  simp only [readP, hf]
  have hs : runAll zs (steps h.k) ⟨{ Hv.empty with k := h.k, w := h.w }, 0, 1⟩ = runAll zs ([pVersion, pTo, pFrom] ++ ((if h.k = 0 then [pToken] else []) ++ [pLength, pNumber])) ⟨{ Hv.empty with k := h.k, w := h.w }, 0, 1⟩ := by
    simp only [steps, if_neg hk]
    by_cases hk : h.k = 0 <;> simp [hk]
  rw [hs]
  simp only [List.cons_append, List.nil_append, runAll, pVersion, f4, if_pos hv0, pTo, nt, pFrom, nf]
  have hlen : (wrB h n).length = 1 + 4 + 1 + h.to.length + 1 + h.fr.length + (if h.k = 0 then enc h.tk.length ++ h.tk else []).length + (enc (h.w + n)).length + h.w.toNat := by
    simp only [wrB, if_neg hk, List.length_append, big_len, List.length_singleton]
  rcases hT with ⟨h0, htk⟩ | ⟨h12, htk⟩
  · simp only [if_pos h0, List.cons_append, List.nil_append, runAll, pToken] at d4 hlen ⊢
    simp only [List.append_assoc] at d4
    have nk := tok_at htk d4
    have d5 := drop_app (drop_app d4)
    simp only [nk]
    refine (tail _ ⟨h.k, h.v, h.to, h.fr, h.tk, 0, 0, h.w⟩ rfl d5).trans ?_
    rw [hlen]
    simp only [List.length_append]
    obtain ⟨k, v, to, fr, tk, p, n', w⟩ := h
    simp only at hp
    subst hp
    simp only [Except.ok.injEq, Ps.mk.injEq, true_and]
    simp only at w1
    omega
  · have h0 : h.k ≠ 0 := by omega
    have htk' := List.eq_nil_of_length_eq_zero htk
    simp only [if_neg h0, List.nil_append] at d4 hlen ⊢
    refine (tail _ ⟨h.k, h.v, h.to, h.fr, [], 0, 0, h.w⟩ rfl d4).trans ?_
    rw [hlen]
    simp only [List.length_nil]
    obtain ⟨k, v, to, fr, tk, p, n', w⟩ := h
    simp only at hp htk'
    subst hp; subst htk'
    simp only [Except.ok.injEq, Ps.mk.injEq, true_and]
    simp only at w1
    omega

/- what is cut short -/
/-- What takes a field tells of bytes that are cut short that they are too short, or the same. -/
def Cutty (f : List Int → Ps → Except Int Ps) : Prop := ∀ zs s s' m, f zs s = .ok s' → m ≤ zs.length → s.t ≤ m → s.t ≤ s'.t ∧ (m < s'.t → f (zs.take m) s = .error 2) ∧ (s'.t ≤ m → f (zs.take m) s = .ok s' ∨ f (zs.take m) s = .error 2)
theorem fix_cut {zs : List Int} {m n t t' : Nat} {v : Int} (h : pFix zs n t = .ok (v, t')) (hm : m ≤ zs.length) (ht : t ≤ m) : t' = t + n ∧ (m < t' → pFix (zs.take m) n t = .error 2) ∧ (t' ≤ m → pFix (zs.take m) n t = .ok (v, t')) := by
  unfold pFix at h
  by_cases hl : (zs.drop t).length < n
  · rw [if_pos hl] at h; cases h
  · rw [if_neg hl] at h; cases h
    refine ⟨rfl, fun h1 => ?_, fun h1 => ?_⟩
    · unfold pFix; rw [if_pos (by simp; omega)]
    · unfold pFix
      rw [if_neg (by simp; omega), List.drop_take, List.take_take, Nat.min_eq_left (by omega)]
theorem bytes_cut {zs : List Int} {m n t t' : Nat} {v : List Int} (h : pBytes zs n t = .ok (v, t')) (hm : m ≤ zs.length) (ht : t ≤ m) : t' = t + n ∧ (m < t' → pBytes (zs.take m) n t = .error 2) ∧ (t' ≤ m → pBytes (zs.take m) n t = .ok (v, t')) := by
  unfold pBytes at h
  by_cases hl : (zs.drop t).length < n
  · rw [if_pos hl] at h; cases h
  · rw [if_neg hl] at h; cases h
    refine ⟨rfl, fun h1 => ?_, fun h1 => ?_⟩
    · unfold pBytes; rw [if_pos (by simp; omega)]
    · unfold pBytes
      rw [if_neg (by simp; omega), List.drop_take, List.take_take, Nat.min_eq_left (by omega)]
theorem most_cut {zs : List Int} {m t t' : Nat} {k n : Int} {v : List Int} (h : pMost zs k n t = .ok (v, t')) (hm : m ≤ zs.length) (ht : t ≤ m) : t ≤ t' ∧ (m < t' → pMost (zs.take m) k n t = .error 2) ∧ (t' ≤ m → pMost (zs.take m) k n t = .ok (v, t')) := by
  unfold pMost at h ⊢
  by_cases hl : k < n
  · rw [if_pos hl] at h; cases h
  · rw [if_neg hl] at h
    have := bytes_cut h hm ht
    rw [if_neg hl]
    exact ⟨by omega, this.2⟩
theorem var_cut {zs : List Int} {m t t' : Nat} {v : Int} (h : pVar zs t = .ok (v, t')) (_hm : m ≤ zs.length) (_ht : t ≤ m) : t ≤ t' ∧ (m < t' → pVar (zs.take m) t = .error 2) ∧ (t' ≤ m → pVar (zs.take m) t = .ok (v, t')) := by
  unfold pVar at h
  by_cases hl : (rd (zs.drop t)).2.2 = 0
  · rw [if_pos hl] at h; cases h
    have hc := rd_take (zs.drop t) (rd (zs.drop t)).1 (rd (zs.drop t)).2.1 (m - t) (by rw [← hl])
    refine ⟨by omega, fun h1 => ?_, fun h1 => ?_⟩
    · unfold pVar; rw [List.drop_take, hc.1 (by omega)]; rfl
    · unfold pVar; rw [List.drop_take, hc.2 (by omega), if_pos hl]
  · rw [if_neg hl] at h; cases h
theorem most_le {zs : List Int} {t t' : Nat} {k n : Int} {v : List Int} (h : pMost zs k n t = .ok (v, t')) : t ≤ t' := by
  unfold pMost pBytes at h
  split at h
  · cases h
  · split at h
    · cases h
    · cases h; omega
theorem name_cut {zs : List Int} {m t t' : Nat} {v : List Int} (h : pName zs t = .ok (v, t')) (hm : m ≤ zs.length) (ht : t ≤ m) : t ≤ t' ∧ (m < t' → pName (zs.take m) t = .error 2) ∧ (t' ≤ m → pName (zs.take m) t = .ok (v, t')) := by
  unfold pName at h ⊢
  cases hf : pFix zs 1 t with
  | error k => rw [hf] at h; cases h
  | ok x =>
    obtain ⟨n, t1⟩ := x
    rw [hf] at h
    have hle := most_le h
    obtain ⟨e, c1, c2⟩ := fix_cut hf hm ht
    by_cases h1 : m < t1
    · rw [c1 h1]
      exact ⟨by omega, fun _ => rfl, fun _ => by omega⟩
    · rw [c2 (by omega)]
      obtain ⟨g1, g2⟩ := most_cut h hm (by omega)
      exact ⟨by omega, g2⟩
theorem tok_cut {zs : List Int} {m t t' : Nat} {v : List Int} (h : pTok zs t = .ok (v, t')) (hm : m ≤ zs.length) (ht : t ≤ m) : t ≤ t' ∧ (m < t' → pTok (zs.take m) t = .error 2) ∧ (t' ≤ m → pTok (zs.take m) t = .ok (v, t')) := by
  unfold pTok at h ⊢
  cases hf : pVar zs t with
  | error k => rw [hf] at h; cases h
  | ok x =>
    obtain ⟨n, t1⟩ := x
    rw [hf] at h
    have hle := most_le h
    obtain ⟨e, c1, c2⟩ := var_cut hf hm ht
    by_cases h1 : m < t1
    · rw [c1 h1]
      exact ⟨by omega, fun _ => rfl, fun _ => by omega⟩
    · rw [c2 (by omega)]
      obtain ⟨g1, g2⟩ := most_cut h hm (by omega)
      exact ⟨by omega, g2⟩

theorem cutty_version : Cutty pVersion := by
  intro zs s s' m h hm ht
  unfold pVersion at h ⊢
  cases hf : pFix zs 4 s.t with
  | error k => rw [hf] at h; cases h
  | ok x =>
    obtain ⟨v, t⟩ := x
    rw [hf] at h
    obtain ⟨e, c1, c2⟩ := fix_cut hf hm ht
    simp only at h
    by_cases hv : 0 < v
    · rw [if_pos hv] at h; cases h
      exact ⟨by simp only; omega, fun h1 => by rw [c1 h1], fun h1 => .inl (by rw [c2 h1]; simp only [if_pos hv])⟩
    · rw [if_neg hv] at h; cases h
theorem cutty_to : Cutty pTo := by
  intro zs s s' m h hm ht
  unfold pTo at h ⊢
  cases hf : pName zs s.t with
  | error k => rw [hf] at h; cases h
  | ok x =>
    obtain ⟨v, t⟩ := x
    rw [hf] at h
    obtain ⟨e, c1, c2⟩ := name_cut hf hm ht
    cases h
    exact ⟨e, fun h1 => by rw [c1 h1], fun h1 => .inl (by rw [c2 h1])⟩
theorem cutty_from : Cutty pFrom := by
  intro zs s s' m h hm ht
  unfold pFrom at h ⊢
  cases hf : pName zs s.t with
  | error k => rw [hf] at h; cases h
  | ok x =>
    obtain ⟨v, t⟩ := x
    rw [hf] at h
    obtain ⟨e, c1, c2⟩ := name_cut hf hm ht
    cases h
    exact ⟨e, fun h1 => by rw [c1 h1], fun h1 => .inl (by rw [c2 h1])⟩
theorem cutty_token : Cutty pToken := by
  intro zs s s' m h hm ht
  unfold pToken at h ⊢
  cases hf : pTok zs s.t with
  | error k => rw [hf] at h; cases h
  | ok x =>
    obtain ⟨v, t⟩ := x
    rw [hf] at h
    obtain ⟨e, c1, c2⟩ := tok_cut hf hm ht
    cases h
    exact ⟨e, fun h1 => by rw [c1 h1], fun h1 => .inl (by rw [c2 h1])⟩
theorem cutty_length : Cutty pLength := by
  intro zs s s' m h hm ht
  unfold pLength at h ⊢
  cases hf : pVar zs s.t with
  | error k => rw [hf] at h; cases h
  | ok x =>
    obtain ⟨v, t⟩ := x
    rw [hf] at h
    obtain ⟨e, c1, c2⟩ := var_cut hf hm ht
    simp only at h
    by_cases hv : v < s.h.w
    · rw [if_pos hv] at h; cases h
    · rw [if_neg hv] at h
      by_cases hl : (zs.length : Int) - t < v
      · rw [if_pos hl] at h; cases h
      · rw [if_neg hl] at h; cases h
        refine ⟨e, fun h1 => by rw [c1 h1], fun h1 => ?_⟩
        rw [c2 h1]
        simp only [if_neg hv]
        by_cases hx : (((zs.take m).length : Nat) : Int) - t < v
        · rw [if_pos hx]; exact .inr rfl
        · rw [if_neg hx]; exact .inl rfl
theorem cutty_number : Cutty pNumber := by
  intro zs s s' m h hm ht
  unfold pNumber at h ⊢
  cases hf : pFix zs s.h.w.toNat s.t with
  | error k => rw [hf] at h; cases h
  | ok x =>
    obtain ⟨v, t⟩ := x
    rw [hf] at h
    obtain ⟨e, c1, c2⟩ := fix_cut hf hm ht
    cases h
    exact ⟨by simp only; omega, fun h1 => by rw [c1 h1], fun h1 => .inl (by rw [c2 h1])⟩
theorem cutty_short : Cutty pShortTo := by
  intro zs s s' m h hm ht
  unfold pShortTo at h ⊢
  cases hf : pBytes zs 8 s.t with
  | error k => rw [hf] at h; cases h
  | ok x =>
    obtain ⟨v, t⟩ := x
    rw [hf] at h
    obtain ⟨e, c1, c2⟩ := bytes_cut hf hm ht
    cases h
    exact ⟨by simp only; omega, fun h1 => by rw [c1 h1], fun h1 => .inl (by rw [c2 h1])⟩
theorem run_cut {l tl : List (List Int → Ps → Except Int Ps)} (hl : ∀ f ∈ l, Cutty f) : ∀ {zs : List Int} {s s' : Ps} {m : Nat}, runAll zs l s = .ok s' → m ≤ zs.length → s.t ≤ m → m < s'.t → runAll (zs.take m) (l ++ tl) s = .error 2 := by
  induction l with
  | nil => intro zs s s' m h _ h2 h3; cases h; omega
  | cons f r ih =>
    intro zs s s' m h hm h2 h3
    simp only [runAll, List.cons_append] at h ⊢
    cases hf : f zs s with
    | error k => rw [hf] at h; cases h
    | ok s1 =>
      rw [hf] at h
      obtain ⟨e, c1, c2⟩ := hl f List.mem_cons_self zs s s1 m hf hm h2
      by_cases h1 : m < s1.t
      · rw [c1 h1]
      · rcases c2 (by omega) with c | c
        · rw [c]; exact ih (fun g hg => hl g (List.mem_cons_of_mem _ hg)) h hm (by omega) h3
        · rw [c]
theorem steps_cutty (k : Int) : k ≠ 3 → ∀ f ∈ steps k, Cutty f := by
  intro hk f hf
  unfold steps at hf
  rw [if_neg hk] at hf
  split at hf
  · simp only [List.mem_cons, List.not_mem_nil, or_false] at hf
    rcases hf with rfl | rfl | rfl | rfl | rfl | rfl
    · exact cutty_version
    · exact cutty_to
    · exact cutty_from
    · exact cutty_token
    · exact cutty_length
    · exact cutty_number
  · simp only [List.mem_cons, List.not_mem_nil, or_false] at hf
    rcases hf with rfl | rfl | rfl | rfl | rfl
    · exact cutty_version
    · exact cutty_to
    · exact cutty_from
    · exact cutty_length
    · exact cutty_number
/-- What is cut short of a header is too short. -/
theorem read_cut {zs : List Int} {s : Ps} {m : Nat} (h : readP zs = .ok s) (hm : m ≤ zs.length) (hs : m < s.t) : readP (zs.take m) = .error 2 := by
  unfold readP at h ⊢
  cases m with
  | zero => rfl
  | succ j =>
    cases zs with
    | nil => simp at hm
    | cons b r =>
      have e : pFirst ((b :: r).take (j + 1)) ⟨Hv.empty, 0, 0⟩ = pFirst (b :: r) ⟨Hv.empty, 0, 0⟩ := rfl
      rw [e]
      cases hf : pFirst (b :: r) ⟨Hv.empty, 0, 0⟩ with
      | error k => rw [hf] at h; cases h
      | ok s1 =>
        rw [hf] at h
        have ht : s1.t = 1 := by
          unfold pFirst at hf
          simp only [List.drop_zero] at hf
          split at hf
          · cases hf; rfl
          · split at hf
            · cases hf; rfl
            · cases hf
        simp only at h ⊢
        by_cases hk : s1.h.k = 3
        · have e3 : steps s1.h.k = [pShortTo, pNumber] ++ [pWhole] := by simp [steps, hk]
          rw [e3] at h ⊢
          cases hr : runAll (b :: r) [pShortTo, pNumber] s1 with
          | error k =>
            exfalso
            simp only [runAll, List.cons_append, List.nil_append] at h hr
            cases e1 : pShortTo (b :: r) s1 with
            | error k => simp [e1] at h
            | ok s2 =>
              cases e2 : pNumber (b :: r) s2 with
              | error k => simp [e1, e2] at h
              | ok s3 => simp [e1, e2] at hr
          | ok s2 =>
            have h2 : s2.t = s.t := by
              simp only [runAll, List.cons_append, List.nil_append] at h hr
              cases e1 : pShortTo (b :: r) s1 with
              | error k => simp [e1] at h
              | ok s2 =>
                cases e2 : pNumber (b :: r) s2 with
                | error k => simp [e1, e2] at h
                | ok s3 =>
                  simp only [e1, e2, pWhole, Except.ok.injEq] at h hr
                  rw [← hr, ← h]
            refine run_cut (l := [pShortTo, pNumber]) (fun f hf => ?_) hr hm (by omega) (by omega)
            simp only [List.mem_cons, List.not_mem_nil, or_false] at hf
            rcases hf with rfl | rfl
            · exact cutty_short
            · exact cutty_number
        · have := run_cut (tl := []) (steps_cutty s1.h.k hk) h hm (by omega) hs
          simpa using this
#print axioms ref_eq
#print axioms read_short
#print axioms read_long
#print axioms read_cut
end Go.Proofs.YtgnjmmaahpngpaaDoor
