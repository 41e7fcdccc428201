/- Plain facts on params: what bytes are as params, field by field; what is written is read as it was. -/
import Derived.Test.YtefcjggmlhoebaaDoorPRight
import Derived.Test.YtefcjggmlhoebaaDoorHApp
import Derived.Test.YtefcjggmlhoebaaDoorVal
import Derived.Test.YtefcjggmlhoebaaDoorHv
import Derived.Test.YtefcjggmlhoebaaDoorGPure
namespace Go.Proofs.YtefcjggmlhoebaaDoor
open Go Go.RowKit

/-- Nothing but the block B has changed of what was there. -/
structure Bup (B : Nat) (w w' : World) : Prop where
  os : w'.os = w.os
  tape : w'.tape = w.tape
  output : w'.output = w.output
  size : w.heap.size ≤ w'.heap.size
  block : ∀ k, k < w.heap.size → k ≠ B → w'.heap[k]? = w.heap[k]?
theorem Bup.refl (B : Nat) (w : World) : Bup B w w := ⟨rfl, rfl, rfl, Nat.le_refl _, fun _ _ _ => rfl⟩
theorem Bup.trans {B : Nat} {a b c : World} (h : Bup B a b) (k : Bup B b c) : Bup B a c :=
  ⟨k.os.trans h.os, k.tape.trans h.tape, k.output.trans h.output, Nat.le_trans h.size k.size, fun i hi hn => (k.block i (Nat.lt_of_lt_of_le hi h.size) hn).trans (h.block i hi hn)⟩
theorem Bup.of_below {B : Nat} {w w' : World} (h : Below w.heap.size w w') : Bup B w w' := ⟨h.os, h.tape, h.output, h.size, fun k hk _ => h.block k hk⟩
theorem Bup.below {B base : Nat} {w0 w w' : World} (h : Bup B w w') (hb : Below base w0 w) (hB : base ≤ B) (hs : base ≤ w.heap.size) : Below base w0 w' :=
  ⟨h.os.trans hb.os, h.tape.trans hb.tape, h.output.trans hb.output, Nat.le_trans hb.size h.size, fun k hk => (h.block k (Nat.lt_of_lt_of_le hk hs) (by omega)).trans (hb.block k hk)⟩
theorem Bup.set (w : World) (B i : Nat) (v : Value) : Bup B w (w.setCell ⟨B, i, none⟩ v) :=
  ⟨rfl, rfl, rfl, by simp [World.setCell], fun k _ hn => Below.heap_setCell _ _ _ _ hn⟩
theorem Bup.tab {B : Nat} {w w' : World} (h : Bup B w w') (ht : Tab w) (hB : 1 < B) : Tab w' := by
  obtain ⟨h0, h1, h2, h3⟩ := ht
  have hlt : 1 < w.heap.size := cell_lt h0
  have key : ∀ j x, w.cell? ⟨1, j, none⟩ = some x → w'.cell? ⟨1, j, none⟩ = some x := fun j x hx => by
    unfold World.cell? at hx ⊢
    rw [h.block 1 hlt (by omega)]; exact hx
  exact ⟨key _ _ h0, key _ _ h1, key _ _ h2, key _ _ h3⟩
theorem own_set {w : World} {B base : Nat} {e : TypeId} {size : Nat} {v : Value} {n : Nat} {xs : List Value} (h : w.ownsRow base e size v n xs) (hB : B < base) (i : Nat) (u : Value) : (w.setCell ⟨B, i, none⟩ u).ownsRow base e size v n xs := by
  obtain ⟨h1, h2⟩ := h
  refine ⟨h1, ?_⟩
  rcases h2 with h2 | ⟨g, cap, cur, rfl, hg, hh, r⟩
  · exact .inl h2
  · exact .inr ⟨g, cap, cur, rfl, hg, by rw [Below.heap_setCell _ ⟨B, i, none⟩ _ _ (show g ≠ B by omega)]; exact hh, r⟩
theorem own_shape {w : World} {base : Nat} {e : TypeId} {size : Nat} {v : Value} {n : Nat} {xs : List Value} (h : w.ownsRow base e size v n xs) : ∃ ao cap, v = .slice ao n cap := by
  rcases h.2 with ⟨rfl, h0⟩ | ⟨g, cap, cur, rfl, _⟩
  · subst h0; exact ⟨none, 0, rfl⟩
  · exact ⟨_, _, rfl⟩
/-- One field's bytes. -/
def fieldB (n : Int) (b : List Int) : List Int := enc n ++ enc b.length ++ b
theorem field_byt {n : Int} {b : List Int} (h : Byt b) : Byt (fieldB n b) := ((enc_byt n).app (enc_byt _)).app h
theorem field_len (n : Int) (b : List Int) : (fieldB n b).length ≤ 16 + b.length := by
  have := enc_len n
  have := enc_len b.length
  unfold fieldB; simp; omega
/-- The closure's box: what is written so far, in memory of its own. -/
structure Gv (w : World) (B : Nat) (zb : List Int) : Prop where
  tab : Tab w
  lo : 1 < B
  byt : Byt zb
  box : ∃ v, w.heap[B]? = some (.cells #[v] 22 (0, 0)) ∧ w.ownsRow (B + 1) 5 1 v zb.length (by8 zb)
theorem Gv.lt {w : World} {B : Nat} {zb : List Int} (h : Gv w B zb) : B < w.heap.size := by
  obtain ⟨v, h1, _⟩ := h.box
  exact (Array.getElem?_eq_some_iff.1 h1).1
theorem Gv.below {w w' : World} {B : Nat} {zb : List Int} (h : Gv w B zb) (hb : Below w.heap.size w w') : Gv w' B zb := by
  obtain ⟨v, h1, h2⟩ := h.box
  exact ⟨h.tab.below hb, h.lo, h.byt, v, by rw [hb.block _ h.lt]; exact h1, own_below h2 hb⟩
/-- The bytes of the chosen version and the list. -/
def versP (c : Int) (l : List Int) : List Int := big c 4 ++ l.flatMap (fun v => big v 4)
theorem vers_len (c : Int) (l : List Int) : (versP c l).length = 4 + 4 * l.length := by
  unfold versP
  induction l with
  | nil => simp [big_len]
  | cons v r ih => simp [big_len] at ih ⊢; omega
theorem vers_take {c : Int} {l : List Int} {k : Nat} (h : k < l.length) : versP c (l.take (k + 1)) = versP c (l.take k) ++ big (l.getD k 0) 4 := by
  have e : l.getD k 0 = l[k] := by simp [h]
  unfold versP
  rw [List.take_succ_eq_append_getElem h, List.flatMap_append, e]
  simp
theorem vers_byt (c : Int) (l : List Int) : Byt (versP c l) := by
  unfold versP
  refine (big_byt c 4).app fun z hz => ?_
  obtain ⟨v, _, hv⟩ := List.mem_flatMap.1 hz
  exact big_byt v 4 z hv
theorem right_facts {p : Pv} (h : rightP p = true) : numBP p.i = true ∧ numBP p.d = true ∧ nameB p.hg p.g.length = true ∧ nameB p.ho p.o.length = true ∧ nameB p.hr p.r.length = true ∧ verB p.c = true ∧ versB p.l = true := by
  unfold rightP at h
  simpa [Bool.and_eq_true] using h
theorem ver_bd {n : Int} (h : verB n = true) : 0 < n ∧ n < 4294967296 := by
  unfold verB at h; simpa using h
theorem vers_facts {l : List Int} (h : versB l = true) : l.length ≤ 16 ∧ ∀ j, j < l.length → 0 < l.getD j 0 ∧ l.getD j 0 < 4294967296 := by
  unfold versB at h
  have := of_decide_eq_true h
  exact ⟨this.1, fun j hj => ver_bd (this.2.1 _ (getD_mem hj))⟩
theorem own_nil0 (w : World) (base : Nat) : w.ownsRow base 5 1 (.slice none 0 0) ([] : List Int).length (by8 []) := ⟨by simp [by8], .inl ⟨rfl, rfl⟩⟩
theorem pcells {w : World} {B : Nat} {p : Pv} {v5 v6 v7 v9 : Value} {T : TypeId} (h : w.heap[B]? = some (.cells (pCells p v5 v6 v7 v9) T (0, 0))) :
    w.cell? ⟨B, 0, none⟩ = some (.int .i64 p.i) ∧ w.cell? ⟨B, 1, none⟩ = some (.int .i64 p.d) ∧ w.cell? ⟨B, 2, none⟩ = some (.bool p.hg) ∧ w.cell? ⟨B, 3, none⟩ = some (.bool p.ho) ∧ w.cell? ⟨B, 4, none⟩ = some (.bool p.hr) ∧
    w.cell? ⟨B, 5, none⟩ = some v5 ∧ w.cell? ⟨B, 6, none⟩ = some v6 ∧ w.cell? ⟨B, 7, none⟩ = some v7 ∧ w.cell? ⟨B, 8, none⟩ = some (.int .i64 p.c) ∧ w.cell? ⟨B, 9, none⟩ = some v9 :=
  have c := fun j => cell_of_row w B j _ _ (0, 0) h
  ⟨(c 0).trans rfl, (c 1).trans rfl, (c 2).trans rfl, (c 3).trans rfl, (c 4).trans rfl, (c 5).trans rfl, (c 6).trans rfl, (c 7).trans rfl, (c 8).trans rfl, (c 9).trans rfl⟩
theorem cells_of {w : World} {B : Nat} {cs : Array Value} {T : TypeId} (h : w.heap[B]? = some (.cells cs T (0, 0))) (j : Nat) : w.cell? ⟨B, j, none⟩ = cs[j]? := cell_of_row _ B j _ _ (0, 0) h
end Go.Proofs.YtefcjggmlhoebaaDoor
namespace Go.Proofs.YtefcjggmlhoebaaDoor
open Go Go.RowKit

/-- Where Write stands: its params in box A, what is written so far by the closure's box B. -/
structure Ws (w0 : World) (p : Pv) (v5 v6 v7 v9 : Value) (A B : Nat) (zb : List Int) (w : World) : Prop where
  gv : Gv w B zb
  bel : Below w0.heap.size w0 w
  box : w.heap[A]? = some (.cells (pCells p v5 v6 v7 v9) 79 (0, 0))
  ne : A < B
  low : w0.heap.size ≤ A
theorem Ws.below {w0 w w' : World} {p : Pv} {v5 v6 v7 v9 : Value} {A B : Nat} {zb : List Int} (h : Ws w0 p v5 v6 v7 v9 A B zb w) (hb : Below w.heap.size w w') : Ws w0 p v5 v6 v7 v9 A B zb w' :=
  ⟨h.gv.below hb, h.bel.trans (hb.mono h.bel.size), by rw [hb.block A (by have := h.gv.lt; have := h.ne; omega)]; exact h.box, h.ne, h.low⟩
theorem Ws.give {w0 w w' : World} {p : Pv} {v5 v6 v7 v9 : Value} {A B : Nat} {zb zc : List Int} (h : Ws w0 p v5 v6 v7 v9 A B zb w) (hg : Gv w' B zc) (hb : Bup B w w') : Ws w0 p v5 v6 v7 v9 A B zc w' :=
  ⟨hg, hb.below h.bel (by have := h.ne; have := h.low; omega) h.bel.size, by rw [hb.block A (by have := h.gv.lt; have := h.ne; omega) (by have := h.ne; omega)]; exact h.box, h.ne, h.low⟩
theorem Ws.cells {w0 w : World} {p : Pv} {v5 v6 v7 v9 : Value} {A B : Nat} {zb : List Int} (h : Ws w0 p v5 v6 v7 v9 A B zb w) :
    w.cell? ⟨A, 0, none⟩ = some (.int .i64 p.i) ∧ w.cell? ⟨A, 1, none⟩ = some (.int .i64 p.d) ∧ w.cell? ⟨A, 2, none⟩ = some (.bool p.hg) ∧ w.cell? ⟨A, 3, none⟩ = some (.bool p.ho) ∧ w.cell? ⟨A, 4, none⟩ = some (.bool p.hr) ∧
    w.cell? ⟨A, 5, none⟩ = some v5 ∧ w.cell? ⟨A, 6, none⟩ = some v6 ∧ w.cell? ⟨A, 7, none⟩ = some v7 ∧ w.cell? ⟨A, 8, none⟩ = some (.int .i64 p.c) ∧ w.cell? ⟨A, 9, none⟩ = some v9 := pcells h.box
theorem Ws.start {w0 w1 : World} {p : Pv} {v5 v6 v7 v9 : Value} (hb : Below w0.heap.size (w0.alloc (.cells (pCells p v5 v6 v7 v9) 79)) w1) (hz : w0.heap.size + 1 ≤ w1.heap.size) (hx : w1.heap[w0.heap.size]? = some (.cells (pCells p v5 v6 v7 v9) 79 (0, 0))) (ht : Tab w1) (h1 : 1 < w0.heap.size) :
    Ws w0 p v5 v6 v7 v9 w0.heap.size w1.heap.size [] (w1.alloc (.cells #[.slice none 0 0] 22)) :=
  ⟨⟨tab_alloc ht _, by omega, Byt.nil, _, heap_alloc_new _ _, own_nil0 _ _⟩, ((below_alloc w0 _).trans hb).trans ((below_alloc w1 _).mono (by omega)), by rw [(below_alloc w1 _).block _ (by omega)]; exact hx, by omega, Nat.le_refl _⟩
/-- The bytes of params that are right. -/
def bytesP (p : Pv) : List Int := (if p.hg then fieldB 0 p.g else []) ++ fieldB 1 (enc p.i) ++ fieldB 4 (enc p.d) ++ (if p.ho then fieldB 15 p.o else []) ++ (if p.hr then fieldB 16 p.r else []) ++ fieldB 17 (versP p.c p.l)
def wrP (p : Pv) : List Int := if rightP p then bytesP p else []
theorem name_len {has : Bool} {n : Nat} (h : nameB has n = true) : n ≤ 20 := by
  unfold nameB at h
  cases has
  · simp at h; omega
  · simp at h; omega
/-- A slice that a call made, or none. -/
def Plainv (v : Value) : Prop := v = .slice none 0 0 ∨ ∃ b off n cap, v = .slice (some ⟨b, off, none⟩) n cap
theorem own_plain {w : World} {base : Nat} {e : TypeId} {size : Nat} {v : Value} {n : Nat} {xs : List Value} (h : w.ownsRow base e size v n xs) : Plainv v := by
  rcases h.2 with ⟨rfl, _⟩ | ⟨g, cap, cur, rfl, _⟩
  · exact Or.inl rfl
  · exact Or.inr ⟨_, _, _, _, rfl⟩
end Go.Proofs.YtefcjggmlhoebaaDoor
namespace Go.Proofs.YtefcjggmlhoebaaDoor
open Go Go.RowKit

/-- A field at the front: its number, what it has, what comes behind. -/
def cutP (zs : List Int) : Option (Int × List Int × List Int) :=
  if (rd zs).2.2 = 0 then
    if (rd (zs.drop (rd zs).2.1.toNat)).2.2 = 0 then
      if ((zs.drop (rd zs).2.1.toNat).drop (rd (zs.drop (rd zs).2.1.toNat)).2.1.toNat).length < (rd (zs.drop (rd zs).2.1.toNat)).1.toNat then none
      else some ((rd zs).1, ((zs.drop (rd zs).2.1.toNat).drop (rd (zs.drop (rd zs).2.1.toNat)).2.1.toNat).take (rd (zs.drop (rd zs).2.1.toNat)).1.toNat, ((zs.drop (rd zs).2.1.toNat).drop (rd (zs.drop (rd zs).2.1.toNat)).2.1.toNat).drop (rd (zs.drop (rd zs).2.1.toNat)).1.toNat)
    else none
  else none
theorem cutP_field {n : Int} {v : List Int} (hn : 0 ≤ n) (hn' : n < 4611686018427387904) (hv : v.length < 4611686018427387904) (r : List Int) : cutP (fieldB n v ++ r) = some (n, v, r) := by
  have e1 : fieldB n v ++ r = enc n ++ (enc v.length ++ (v ++ r)) := by simp [fieldB]
  have h1 := rd_enc n hn hn' (enc v.length ++ (v ++ r))
  have h2 := rd_enc (v.length : Int) (by omega) (by omega) (v ++ r)
  unfold cutP
  rw [e1, h1]
  simp only [if_true, Int.toNat_natCast, List.drop_left]
  rw [h2]
  simp
/-- All of it is one number. -/
def wholeN (v : List Int) : Option Int := if (rd v).2.2 = 0 ∧ (rd v).2.1.toNat = v.length then some (rd v).1 else none
theorem wholeN_enc {n : Int} (hn : 0 ≤ n) (hn' : n < 4611686018427387904) : wholeN (enc n) = some n := by
  have h1 := rd_enc n hn hn' []
  rw [List.append_nil] at h1
  unfold wholeN
  rw [h1]; simp
/-- By fours. -/
def by4 : List Int → Option (List Int)
  | [] => some []
  | a :: b :: c :: d :: r => (by4 r).map (bigv [a, b, c, d] 0 :: ·)
  | _ => none
theorem by4_app {c : Int} (h0 : 0 ≤ c) (h1 : c < 4294967296) (r : List Int) : by4 (big c 4 ++ r) = (by4 r).map (c :: ·) := by
  have e : big c 4 = [c / 256 ^ 3 % 256, c / 256 ^ 2 % 256, c / 256 ^ 1 % 256, c / 256 ^ 0 % 256] := rfl
  have hb : bigv [c / 256 ^ 3 % 256, c / 256 ^ 2 % 256, c / 256 ^ 1 % 256, c / 256 ^ 0 % 256] 0 = c := by
    simp only [bigv]; omega
  rw [e]
  simp only [List.cons_append, List.nil_append, by4, hb]
theorem by4_all {l : List Int} (h : ∀ v ∈ l, 0 ≤ v ∧ v < 4294967296) : by4 (l.flatMap fun v => big v 4) = some l := by
  induction l with
  | nil => rfl
  | cons v r ih =>
    rw [List.flatMap_cons, by4_app (h v (by simp)).1 (h v (by simp)).2, ih fun x hx => h x (by simp [hx])]
    rfl
theorem by4_vers {c : Int} {l : List Int} (h0 : 0 ≤ c) (h1 : c < 4294967296) (h : ∀ v ∈ l, 0 ≤ v ∧ v < 4294967296) : by4 (versP c l) = some (c :: l) := by
  unfold versP
  rw [by4_app h0 h1, by4_all h]; rfl
def p0 : Pv := ⟨0, 0, false, false, false, [], [], [], 0, []⟩
/-- A field's part in the params. -/
def putP (p : Pv) (n : Int) (v : List Int) : Option Pv :=
  if n = 0 then some { p with hg := true, g := v }
  else if n = 1 then (wholeN v).map fun x => { p with i := x }
  else if n = 4 then (wholeN v).map fun x => { p with d := x }
  else if n = 15 then some { p with ho := true, o := v }
  else if n = 16 then some { p with hr := true, r := v }
  else if n = 17 then match by4 v with
    | some (c :: l) => some { p with c := c, l := l }
    | _ => none
  else none
def manyP (n : Int) : Nat := if n = 1 ∨ n = 4 ∨ n = 17 then 1 else 0
/-- All fields, one by one. -/
def readF : Nat → Int → Nat → Pv → List Int → Option (Pv × Nat)
  | _, _, m, p, [] => some (p, m)
  | 0, _, _, _, _ :: _ => none
  | k + 1, last, m, p, z :: r =>
    match cutP (z :: r) with
    | none => none
    | some (n, v, s) => if n ≤ last then none else match putP p n v with
      | none => none
      | some p' => readF k n (m + manyP n) p' s
/-- What bytes are as params. -/
def readP (zs : List Int) : Option Pv :=
  match readF zs.length (-1) 0 p0 zs with
  | some (p, m) => if m = 3 ∧ rightP p = true then some p else none
  | none => none
theorem enc_pos {n : Int} (hn : 0 ≤ n) (hn' : n < 4611686018427387904) : 1 ≤ (enc n).length := by
  have h1 := rd_enc n hn hn' []
  cases h : enc n with
  | nil => rw [h] at h1; simp [rd] at h1
  | cons a r => simp
theorem readF_step {k : Nat} {last : Int} {m : Nat} {p p' : Pv} {n : Int} {v s : List Int} (hn : 0 ≤ n) (hn' : n < 4611686018427387904) (hv : v.length < 4611686018427387904) (hl : last < n) (hp : putP p n v = some p') :
    readF (k + 1) last m p (fieldB n v ++ s) = readF k n (m + manyP n) p' s := by
  have hc := cutP_field hn hn' hv s
  have hpos : 1 ≤ (fieldB n v ++ s).length := by
    have := enc_pos hn hn'
    unfold fieldB; simp; omega
  cases e : fieldB n v ++ s with
  | nil => rw [e] at hpos; simp at hpos
  | cons z r =>
    rw [e] at hc
    simp only [readF, hc, hp]
    rw [if_neg (by omega)]
theorem readF_nil (k : Nat) (last : Int) (m : Nat) (p : Pv) : readF k last m p [] = some (p, m) := by cases k <;> rfl
theorem name_nil {n : Nat} (h : nameB false n = true) : n = 0 := by simpa [nameB] using h
theorem ver_of {v : Int} (h : verB v = true) : 0 ≤ v ∧ v < 4294967296 := by
  unfold verB at h
  simp at h
  omega
theorem num_of {n : Int} (h : numBP n = true) : 0 ≤ n ∧ n < 4611686018427387904 := by
  unfold numBP at h
  have h' : 0 < sz n := by simpa using h
  rcases sz_cases n with ⟨e, _⟩ | ⟨h0, h1, _⟩
  · omega
  · exact ⟨h0, h1⟩
set_option maxHeartbeats 2000000 in
/-- What is written is read as it was. -/
theorem read_write {p : Pv} (h : rightP p = true) : readP (wrP p) = some p := by
  have hR := h
  unfold rightP at h
  simp only [Bool.and_eq_true] at h
  obtain ⟨hi, hd, hg, ho, hr, hc, hl⟩ := h
  have hi := num_of hi
  have hd := num_of hd
  have hc := ver_of hc
  have hlv : ∀ v ∈ p.l, 0 ≤ v ∧ v < 4294967296 := by
    unfold versB at hl
    simp only [decide_eq_true_eq] at hl
    exact fun v hv => ver_of (hl.2.1 v hv)
  have hll : p.l.length ≤ 16 := by
    unfold versB at hl
    simp only [decide_eq_true_eq] at hl
    exact hl.1
  have e17 : ∀ q : Pv, putP q 17 (versP p.c p.l) = some { q with c := p.c, l := p.l } := fun q => by
    simp [putP, by4_vers hc.1 hc.2 hlv]
  have e1 : ∀ q : Pv, putP q 1 (enc p.i) = some { q with i := p.i } := fun q => by simp [putP, wholeN_enc hi.1 hi.2]
  have e4 : ∀ q : Pv, putP q 4 (enc p.d) = some { q with d := p.d } := fun q => by simp [putP, wholeN_enc hd.1 hd.2]
  have e0 : ∀ q : Pv, putP q 0 p.g = some { q with hg := true, g := p.g } := fun q => by simp [putP]
  have e15 : ∀ q : Pv, putP q 15 p.o = some { q with ho := true, o := p.o } := fun q => by simp [putP]
  have e16 : ∀ q : Pv, putP q 16 p.r = some { q with hr := true, r := p.r } := fun q => by simp [putP]
  have lv : (versP p.c p.l).length < 4611686018427387904 := by rw [vers_len]; omega
  have li : (enc p.i).length < 4611686018427387904 := by have := enc_len p.i; omega
  have ld : (enc p.d).length < 4611686018427387904 := by have := enc_len p.d; omega
  have lg : p.g.length < 4611686018427387904 := by have := name_len hg; omega
  have lo : p.o.length < 4611686018427387904 := by have := name_len ho; omega
  have lr : p.r.length < 4611686018427387904 := by have := name_len hr; omega
  have hw : wrP p = bytesP p := by unfold wrP; rw [hR]; rfl
  have hlen : ∃ k, (bytesP p).length = k + 6 := by
    refine ⟨(bytesP p).length - 6, ?_⟩
    have h4 : 4 ≤ (versP p.c p.l).length := by rw [vers_len]; omega
    have h5 := enc_pos (n := 1) (by omega) (by omega)
    have h6 := enc_pos (n := 4) (by omega) (by omega)
    unfold bytesP fieldB; simp; omega
  obtain ⟨k, hk⟩ := hlen
  have main : ∃ m, readF (k + 6) (-1) 0 p0 (bytesP p) = some (p, m) ∧ m = 3 := by
    unfold bytesP
    have tail : ∀ (q : Pv) (k' : Nat), (q.i = p.i ∧ q.d = p.d ∧ q.hg = p.hg ∧ q.ho = p.ho ∧ q.hr = p.hr ∧ q.g = p.g ∧ q.o = p.o ∧ q.r = p.r) → ∀ last, last < 17 → readF (k' + 1) last 2 q (fieldB 17 (versP p.c p.l)) = some (p, 3) := by
      intro q k' hq last hlast
      have := readF_step (k := k') (m := 2) (s := []) (by omega) (by omega) lv hlast (e17 q)
      rw [List.append_nil] at this
      rw [this, readF_nil]
      obtain ⟨a1, a2, a3, a4, a5, a6, a7, a8⟩ := hq
      cases p; cases q; simp_all [manyP]
    have opt : ∀ (has : Bool) (q q' : Pv) (k' : Nat) (last n : Int) (m : Nat) (v s : List Int), 0 ≤ n → n < 4611686018427387904 → v.length < 4611686018427387904 → last < n → manyP n = 0 → (has = true → putP q n v = some q') → (has = false → q' = q) →
        ∃ k'' last', (last' = n ∨ last' = last) ∧ k' ≤ k'' ∧ readF (k' + 1) last m q ((if has then fieldB n v else []) ++ s) = readF k'' last' m q' s := by
      intro has q q' k' last n m v s h1 h2 h3 h4 h5 h6 h7
      cases has with
      | true =>
        refine ⟨k', n, .inl rfl, Nat.le_refl _, ?_⟩
        have := readF_step (k := k') (m := m) (s := s) h1 h2 h3 h4 (h6 rfl)
        rw [h5] at this
        exact this
      | false =>
        refine ⟨k' + 1, last, .inr rfl, by omega, ?_⟩
        rw [h7 rfl]; rfl
    have m1 : (0 + manyP 1 + manyP 4) = 2 := by decide
    simp only [List.append_assoc]
    obtain ⟨k1, l1, hl1, hk1, r1⟩ := opt p.hg p0 { p0 with hg := p.hg, g := p.g } (k + 5) (-1) 0 0 p.g (fieldB 1 (enc p.i) ++ (fieldB 4 (enc p.d) ++ ((if p.ho then fieldB 15 p.o else []) ++ ((if p.hr then fieldB 16 p.r else []) ++ fieldB 17 (versP p.c p.l))))) (by omega) (by omega) lg (by omega) rfl (fun e => by rw [e0, e]) (fun e => by rw [e] at hg ⊢; rw [List.eq_nil_of_length_eq_zero (name_nil hg)]; rfl)
    rw [r1]
    obtain ⟨j1, rfl⟩ : ∃ j, k1 = j + 1 := ⟨k1 - 1, by omega⟩
    rw [readF_step (by omega) (by omega) li (by omega) (e1 _)]
    obtain ⟨j2, rfl⟩ : ∃ j, j1 = j + 1 := ⟨j1 - 1, by omega⟩
    rw [readF_step (by omega) (by omega) ld (by omega) (e4 _), m1]
    obtain ⟨j3, rfl⟩ : ∃ j, j2 = j + 1 := ⟨j2 - 1, by omega⟩
    obtain ⟨k3, l3, hl3, hk3, r3⟩ := opt p.ho { p0 with hg := p.hg, g := p.g, i := p.i, d := p.d } { p0 with hg := p.hg, g := p.g, i := p.i, d := p.d, ho := p.ho, o := p.o } j3 4 15 2 p.o ((if p.hr then fieldB 16 p.r else []) ++ fieldB 17 (versP p.c p.l)) (by omega) (by omega) lo (by omega) rfl (fun e => by rw [e15, e]) (fun e => by rw [e] at ho ⊢; rw [List.eq_nil_of_length_eq_zero (name_nil ho)]; rfl)
    rw [r3]
    obtain ⟨j4, rfl⟩ : ∃ j, k3 = j + 1 := ⟨k3 - 1, by omega⟩
    obtain ⟨k5, l5, hl5, hk5, r5⟩ := opt p.hr { p0 with hg := p.hg, g := p.g, i := p.i, d := p.d, ho := p.ho, o := p.o } { p0 with hg := p.hg, g := p.g, i := p.i, d := p.d, ho := p.ho, o := p.o, hr := p.hr, r := p.r } j4 l3 16 2 p.r (fieldB 17 (versP p.c p.l)) (by omega) (by omega) lr (by omega) rfl (fun e => by rw [e16, e]) (fun e => by rw [e] at hr ⊢; rw [List.eq_nil_of_length_eq_zero (name_nil hr)]; rfl)
    rw [r5]
    obtain ⟨j6, rfl⟩ : ∃ j, k5 = j + 1 := ⟨k5 - 1, by omega⟩
    exact ⟨3, tail { p0 with hg := p.hg, g := p.g, i := p.i, d := p.d, ho := p.ho, o := p.o, hr := p.hr, r := p.r } _ ⟨rfl, rfl, rfl, rfl, rfl, rfl, rfl, rfl⟩ l5 (by omega), rfl⟩
  obtain ⟨m, hm, rfl⟩ := main
  unfold readP
  rw [hw, hk, hm]
  simp [hR]
end Go.Proofs.YtefcjggmlhoebaaDoor
