/- A mind as it lies in memory, beside a table; what stays of it when other memory changes, what a step makes of its rows and maps. -/
import Derived.Test.YtmplcibaoanlnaaMgA
import Derived.Test.YtmplcibaoanlnaaPkA
namespace Go.Proofs.Ytmplcibaoanlnaa
open Go Go.RowKit

theorem keepS {w w' : World} {a : Addr} {v : Value} (hb : Below w.heap.size w w') (h : w.cell? a = some v) : w'.cell? a = some v := by rw [hb.cell (cell_lt h)]; exact h
/-- w' is w but for the blocks F and what is new; F' is F but for what is new. -/
structure Stp (F : Nat → Prop) (w : World) (F' : Nat → Prop) (w' : World) : Prop where
  os : w'.os = w.os
  tape : w'.tape = w.tape
  output : w'.output = w.output
  size : w.heap.size ≤ w'.heap.size
  block : ∀ k, k < w.heap.size → ¬ F k → w'.heap[k]? = w.heap[k]?
  grow : ∀ k, F' k → F k ∨ w.heap.size ≤ k
theorem Stp.refl (F : Nat → Prop) (w : World) : Stp F w F w := ⟨rfl, rfl, rfl, Nat.le_refl _, fun _ _ _ => rfl, fun _ h => .inl h⟩
theorem Stp.trans {F F1 F2 : Nat → Prop} {w w1 w2 : World} (h : Stp F w F1 w1) (h' : Stp F1 w1 F2 w2) : Stp F w F2 w2 :=
  ⟨h'.os.trans h.os, h'.tape.trans h.tape, h'.output.trans h.output, Nat.le_trans h.size h'.size, fun k hk hn => by
    have h1 : ¬ F1 k := fun e => by
      rcases h.grow k e with e | e
      · exact hn e
      · omega
    rw [h'.block k (Nat.lt_of_lt_of_le hk h.size) h1, h.block k hk hn],
   fun k hk => by
    rcases h'.grow k hk with e | e
    · exact h.grow k e
    · exact .inr (Nat.le_trans h.size e)⟩
theorem Stp.below {F : Nat → Prop} {w w' : World} (h : Below w.heap.size w w') : Stp F w F w' := ⟨h.os, h.tape, h.output, h.size, fun k hk _ => h.block k hk, fun _ h => .inl h⟩
theorem Stp.of_grown {F F' : Nat → Prop} {w w' : World} {row : Option Nat} (h : w.grownBy w' row) (hr : ∀ g, row = some g → F g) (hg : ∀ k, F' k → F k ∨ w.heap.size ≤ k) : Stp F w F' w' := by
  have hb : Below 0 w w' := (Below.refl 0 w).grown h (Nat.zero_le _) fun k _ => Nat.zero_le _
  exact ⟨hb.os, hb.tape, hb.output, hb.size, fun k hk hn => h.block k hk (fun e => hn (hr k e.symm)), hg⟩
theorem Stp.out {F F' : Nat → Prop} {w w' : World} (h : Stp F w F' w') {k : Nat} (hk : k < w.heap.size) (hn : ¬ F k) : ¬ F' k := fun e => by
  rcases h.grow k e with e | e
  · exact hn e
  · omega
theorem Stp.toBelow {F F' : Nat → Prop} {B : Nat} {w w' : World} (h : Stp F w F' w') (hB : B ≤ w.heap.size) (hF : ∀ k, F k → B ≤ k) : Below B w w' :=
  ⟨h.os, h.tape, h.output, h.size, fun k hk => h.block k (Nat.lt_of_lt_of_le hk hB) (fun e => by have := hF k e; omega)⟩

/-- The blocks of a table. -/
def TB (tb mb : Nat) (nv : Value) (L : List (Nd × Value)) (k : Nat) : Prop := k = tb ∨ k = mb ∨ nv.ownBlock = some k ∨ ∃ p ∈ L, p.2.ownBlock = some k
/-- The table, none of its blocks among F. -/
structure TabF (w : World) (B tb mb : Nat) (nv : Value) (N : List Nd) (F : Nat → Prop) : Prop where
  ex : ∃ L, Tbl w B tb mb nv L (idx L) ∧ nds L = N ∧ ∀ k, TB tb mb nv L k → ¬ F k
theorem Tbl.tb_lt {w : World} {B tb mb : Nat} {nv : Value} {L : List (Nd × Value)} {f : Int → ByteArray → List Int → Option Int} (h : Tbl w B tb mb nv L f) {k : Nat} (hk : TB tb mb nv L k) : k < w.heap.size := by
  rcases hk with rfl | rfl | hk | ⟨p, hp, hk⟩
  · exact blk_lt h.tab
  · exact h.map.lt
  · exact (h.nodes.lt k hk).2
  · exact ((h.parts p hp).lt k hk).2
theorem TabF.step {w w' : World} {B tb mb : Nat} {nv : Value} {N : List Nd} {F F' : Nat → Prop} (h : TabF w B tb mb nv N F) (hs : Stp F w F' w') : TabF w' B tb mb nv N F' := by
  obtain ⟨L, h1, h2, h3⟩ := h.ex
  exact ⟨L, h1.same fun k hk => hs.block k (h1.tb_lt hk) (h3 k hk), h2, fun k hk => hs.out (h1.tb_lt hk) (h3 k hk)⟩
/-- A mind's table: nil, or one. -/
def Tp (w : World) (F : Nat → Prop) (tp : Value) (N : List Nd) : Prop := (tp = .pointer none ∧ N = []) ∨ ∃ B tb mb nv, tp = .pointer (some ⟨tb, 0, none⟩) ∧ TabF w B tb mb nv N F
theorem Tp.step {w w' : World} {F F' : Nat → Prop} {tp : Value} {N : List Nd} (h : Tp w F tp N) (hs : Stp F w F' w') : Tp w' F' tp N := by
  rcases h with h | ⟨B, tb, mb, nv, h1, h2⟩
  · exact .inl h
  · exact .inr ⟨B, tb, mb, nv, h1, h2.step hs⟩
theorem nds_at {N : List Nd} {x : Int} (h1 : 1 ≤ x) (h2 : x ≤ (N.length : Int)) : ∃ (q : Nat) (n : Nd), x = (q : Int) + 1 ∧ N[q]? = some n ∧ kindN N x = n.1 ∧ partsN N x = n.2.2 := by
  obtain ⟨q, hq, rfl⟩ := place x N.length h1 h2
  refine ⟨q, N[q], rfl, by simp [hq], ?_, ?_⟩
  · unfold kindN
    rw [if_neg (by omega), show ((q : Int) + 1 - 1).toNat = q by omega]
    simp [hq]
  · unfold partsN
    rw [show ((q : Int) + 1 - 1).toNat = q by omega]
    simp [hq]
/-- Look, of a number of the table. -/
theorem Tp.look {w : World} {F : Nat → Prop} {tp : Value} {N : List Nd} (h : Tp w F tp N) {x : Int} (h1 : 1 ≤ x) (h2 : x ≤ (N.length : Int)) :
    Calls Try.prog 31 #[tp, .int .i64 x] w fun e w' => ∃ (s : ByteArray) (pv : Value), e = .returned (.tuple #[.agg #[.int .i64 (kindN N x), .string s, pv], .bool true]) ∧ w'.ownsRow w.heap.size 26 1 pv (partsN N x).length (cs .i64 (partsN N x)) ∧ Below w.heap.size w w' := by
  rcases h with ⟨rfl, rfl⟩ | ⟨B, tb, mb, nv, rfl, ht⟩
  · simp at h2; omega
  · obtain ⟨L, t1, t2, _⟩ := ht.ex
    obtain ⟨q, n, rfl, hq, hk, hp⟩ := nds_at h1 h2
    rw [hk, hp]
    rw [← t2] at hq
    unfold nds at hq
    rw [List.getElem?_map] at hq
    obtain ⟨p, hp', hn⟩ := Option.map_eq_some_iff.1 hq
    obtain ⟨hlt, rfl⟩ := List.getElem?_eq_some_iff.1 hp'
    subst hn
    exact (look_any t1 q hlt).mono fun e w' ⟨pv, e1, e2, e3⟩ => ⟨_, pv, e1, e2, e3⟩
/-- Look, of another number. -/
theorem Tp.look_no {w : World} {F : Nat → Prop} {tp : Value} {N : List Nd} (h : Tp w F tp N) {x : Int} (h1 : x < 1 ∨ (N.length : Int) < x) :
    Calls Try.prog 31 #[tp, .int .i64 x] w fun e w' => e = .returned (.tuple #[.agg #[.int .i64 0, .string ByteArray.empty, .slice none 0 0], .bool false]) ∧ Below w.heap.size w w' := by
  rcases h with ⟨rfl, rfl⟩ | ⟨B, tb, mb, nv, rfl, ht⟩
  · exact look_nil
  · obtain ⟨L, t1, t2, _⟩ := ht.ex
    subst t2
    rw [nds_len] at h1
    exact Go.Proofs.Ytmplcibaoanlnaa.look_no t1 x h1

/-- A row of F. -/
def RowF (w : World) (F : Nat → Prop) (v : Value) (l : List Int) : Prop := w.ownsRow 0 26 1 v l.length (cs .i64 l) ∧ ∀ g, v.ownBlock = some g → F g
theorem RowF.nil (w : World) (F : Nat → Prop) : RowF w F (.slice none 0 0) [] := ⟨World.ownsRow_nil _ _ _ _, fun g h => by cases h⟩
theorem RowF.keep {w w' : World} {F F' : Nat → Prop} {v : Value} {l : List Int} (h : RowF w F v l) (hk : ∀ g, v.ownBlock = some g → w'.heap[g]? = w.heap[g]?) (hF : ∀ g, v.ownBlock = some g → F' g) : RowF w' F' v l := ⟨own_keep h.1 hk, hF⟩
/-- A row's value by its family and its key. -/
def val (r : Nat → Int → Option Value) (b : Nat) (k : Int) : Value := (r b k).getD (.slice none 0 0)
/-- The lists of a mind: 0 what is shut, 1 what waits, 2 what has risen. -/
def lst (S : MS) (b : Nat) (k : Int) : List Int := if b = 0 then S.shut k else if b = 1 then S.waits k else if b = 2 ∧ k = 0 then S.news else []
/-- Where a mind lies: itself, its four maps, its table; the box of its pointer, the box of what has risen. -/
structure Fx where
  M : Nat
  m1 : Nat
  m2 : Nat
  m3 : Nat
  m4 : Nat
  tp : Value
  X : Nat
  NB : Nat
/-- The mind S in memory: its maps and rows lie in F. -/
structure Mnd (c : Fx) (w : World) (F : Nat → Prop) (r : Nat → Int → Option Value) (S : MS) : Prop where
  lt : ∀ k, F k → k < w.heap.size
  cell : w.heap[c.M]? = some (.cells #[c.tp, .map (some c.m1), .map (some c.m2), .map (some c.m3), .map (some c.m4)] 80 (0, 0))
  out : ¬ F c.M
  f1 : F c.m1
  f2 : F c.m2
  f3 : F c.m3
  f4 : F c.m4
  ne : c.m1 ≠ c.m2 ∧ c.m1 ≠ c.m3 ∧ c.m1 ≠ c.m4 ∧ c.m2 ≠ c.m3 ∧ c.m2 ≠ c.m4 ∧ c.m3 ≠ c.m4
  states : MapG w c.m1 (fun k => if S.st k = 0 then none else some (.int .i64 (S.st k)))
  shown : MapG w c.m2 (fun k => if S.sh k = true then some (.agg #[]) else none)
  shut : MapG w c.m3 (r 0)
  waits : MapG w c.m4 (r 1)
  rows : ∀ b k, RowF w F (val r b k) (lst S b k)
  apart : ∀ b k b' k' g, (val r b k).ownBlock = some g → (val r b' k').ownBlock = some g → b = b' ∧ k = k'

theorem Mnd.keep {c : Fx} {w w' : World} {F F' : Nat → Prop} {r : Nat → Int → Option Value} {S : MS} (h : Mnd c w F r S) (hM : w'.heap[c.M]? = w.heap[c.M]?) (hF : ∀ k, F k → w'.heap[k]? = w.heap[k]?)
    (h1 : ∀ k, F k → F' k) (h2 : ∀ k, F' k → k < w'.heap.size) (h3 : ¬ F' c.M) : Mnd c w' F' r S :=
  { lt := h2, cell := by rw [hM]; exact h.cell, out := h3, f1 := h1 _ h.f1, f2 := h1 _ h.f2, f3 := h1 _ h.f3, f4 := h1 _ h.f4, ne := h.ne
    states := h.states.keep (hF _ h.f1), shown := h.shown.keep (hF _ h.f2), shut := h.shut.keep (hF _ h.f3), waits := h.waits.keep (hF _ h.f4)
    rows := fun b k => (h.rows b k).keep (fun g hg => hF g ((h.rows b k).2 g hg)) (fun g hg => h1 g ((h.rows b k).2 g hg))
    apart := h.apart }
theorem Mnd.below {c : Fx} {w w' : World} {F : Nat → Prop} {r : Nat → Int → Option Value} {S : MS} (h : Mnd c w F r S) (hb : Below w.heap.size w w') : Mnd c w' F r S :=
  h.keep (hb.block _ (blk_lt h.cell)) (fun k hk => hb.block k (h.lt k hk)) (fun _ h => h) (fun k hk => Nat.lt_of_lt_of_le (h.lt k hk) hb.size) h.out
/-- A row's block is none of the maps', and not the mind's own. -/
theorem Mnd.row_ne {c : Fx} {w : World} {F : Nat → Prop} {r : Nat → Int → Option Value} {S : MS} (h : Mnd c w F r S) {b : Nat} {k : Int} {g : Nat} (hg : (val r b k).ownBlock = some g) : g ≠ c.m1 ∧ g ≠ c.m2 ∧ g ≠ c.m3 ∧ g ≠ c.m4 ∧ g ≠ c.M := by
  obtain ⟨cur, hc⟩ := own_blk (h.rows b k).1 hg
  have hm : ∀ {mb : Nat} {f : Int → Option Value}, MapG w mb f → g ≠ mb := fun hm e => by
    obtain ⟨es, cl, e2⟩ := hm.blk
    rw [← e, hc] at e2; cases e2
  exact ⟨hm h.states, hm h.shown, hm h.shut, hm h.waits, fun e => h.out (e ▸ (h.rows b k).2 g hg)⟩
/-- One row, and the maps of rows, have turned. -/
theorem Mnd.turn {c : Fx} {w w' : World} {F F' : Nat → Prop} {r r' : Nat → Int → Option Value} {S S' : MS} (h : Mnd c w F r S) (b0 : Nat) (k0 : Int) (ch : Nat → Prop) (hsz : w.heap.size ≤ w'.heap.size)
    (hkeep : ∀ k, k < w.heap.size → (val r b0 k0).ownBlock ≠ some k → ¬ ch k → w'.heap[k]? = w.heap[k]?)
    (hch : ∀ k, ch k → k ≠ c.M ∧ k ≠ c.m1 ∧ k ≠ c.m2 ∧ ∀ b j, (val r b j).ownBlock ≠ some k)
    (hst : S'.st = S.st) (hsh : S'.sh = S.sh) (h3 : MapG w' c.m3 (r' 0)) (h4 : MapG w' c.m4 (r' 1))
    (hr : ∀ b k, (b ≠ b0 ∨ k ≠ k0) → val r' b k = val r b k ∧ lst S' b k = lst S b k) (hv : w'.ownsRow 0 26 1 (val r' b0 k0) (lst S' b0 k0).length (cs .i64 (lst S' b0 k0)))
    (hnew : ∀ g, (val r' b0 k0).ownBlock = some g → (val r b0 k0).ownBlock = some g ∨ w.heap.size ≤ g)
    (hF : ∀ k, F' k ↔ F k ∨ (val r' b0 k0).ownBlock = some k) : Mnd c w' F' r' S' := by
  have hF1 : ∀ k, F k → F' k := fun k hk => (hF k).2 (.inl hk)
  have hkM : w'.heap[c.M]? = w.heap[c.M]? := hkeep _ (blk_lt h.cell) (fun e => (h.row_ne e).2.2.2.2 rfl) (fun e => (hch _ e).1 rfl)
  have hk1 : w'.heap[c.m1]? = w.heap[c.m1]? := hkeep _ h.states.lt (fun e => (h.row_ne e).1 rfl) (fun e => (hch _ e).2.1 rfl)
  have hk2 : w'.heap[c.m2]? = w.heap[c.m2]? := hkeep _ h.shown.lt (fun e => (h.row_ne e).2.1 rfl) (fun e => (hch _ e).2.2.1 rfl)
  exact
  { lt := fun k hk => by
      rcases (hF k).1 hk with e | e
      · exact Nat.lt_of_lt_of_le (h.lt k e) hsz
      · exact (hv.lt k e).2
    cell := by rw [hkM]; exact h.cell
    out := fun e => by
      rcases (hF _).1 e with e | e
      · exact h.out e
      · rcases hnew _ e with e | e
        · exact (h.row_ne e).2.2.2.2 rfl
        · have := blk_lt h.cell; omega
    f1 := hF1 _ h.f1, f2 := hF1 _ h.f2, f3 := hF1 _ h.f3, f4 := hF1 _ h.f4, ne := h.ne
    states := by rw [hst]; exact h.states.keep hk1
    shown := by rw [hsh]; exact h.shown.keep hk2
    shut := h3, waits := h4
    rows := fun b k => by
      by_cases e : b ≠ b0 ∨ k ≠ k0
      · obtain ⟨e1, e2⟩ := hr b k e
        rw [e1, e2]
        refine (h.rows b k).keep (fun g hg => hkeep g ((h.rows b k).1.lt g hg).2 (fun e3 => ?_) (fun e3 => (hch g e3).2.2.2 b k hg)) (fun g hg => hF1 g ((h.rows b k).2 g hg))
        obtain ⟨rfl, rfl⟩ := h.apart _ _ _ _ _ hg e3
        rcases e with e | e <;> exact e rfl
      · have e1 : b = b0 := Classical.byContradiction fun e1 => e (.inl e1)
        have e2 : k = k0 := Classical.byContradiction fun e1 => e (.inr e1)
        subst e1; subst e2
        exact ⟨hv, fun g hg => (hF g).2 (.inr hg)⟩
    apart := fun b k b' k' g hg hg' => by
      have key : ∀ b k, (b ≠ b0 ∨ k ≠ k0) → (val r' b k).ownBlock = some g → (val r' b0 k0).ownBlock = some g → False := fun b k e h1 h2 => by
        rw [(hr b k e).1] at h1
        rcases hnew g h2 with h3 | h3
        · obtain ⟨rfl, rfl⟩ := h.apart _ _ _ _ _ h1 h3
          rcases e with e | e <;> exact e rfl
        · have := ((h.rows b k).1.lt g h1).2
          omega
      by_cases e : b ≠ b0 ∨ k ≠ k0
      · by_cases e' : b' ≠ b0 ∨ k' ≠ k0
        · rw [(hr b k e).1] at hg
          rw [(hr b' k' e').1] at hg'
          exact h.apart _ _ _ _ _ hg hg'
        · have e1 : b' = b0 := Classical.byContradiction fun e1 => e' (.inl e1)
          have e2 : k' = k0 := Classical.byContradiction fun e1 => e' (.inr e1)
          subst e1; subst e2
          exact (key b k e hg hg').elim
      · have e1 : b = b0 := Classical.byContradiction fun e1 => e (.inl e1)
        have e2 : k = k0 := Classical.byContradiction fun e1 => e (.inr e1)
        subst e1; subst e2
        by_cases e' : b' ≠ b ∨ k' ≠ k
        · exact (key b' k' e' hg' hg).elim
        · exact ⟨(Classical.byContradiction fun e1 => e' (.inl fun e => e1 e.symm)), (Classical.byContradiction fun e1 => e' (.inr fun e => e1 e.symm))⟩ }
/-- The map of states has turned. -/
theorem Mnd.states' {c : Fx} {w w' : World} {F : Nat → Prop} {r : Nat → Int → Option Value} {S : MS} (h : Mnd c w F r S) (hg : w.grownBy w' (some c.m1)) (st : Int → Int) (hm : MapG w' c.m1 (fun k => if st k = 0 then none else some (.int .i64 (st k)))) : Mnd c w' F r { S with st := st } := by
  have hb : Below 0 w w' := (Below.refl 0 w).grown hg (Nat.zero_le _) fun k _ => Nat.zero_le _
  have hk : ∀ k, k < w.heap.size → k ≠ c.m1 → w'.heap[k]? = w.heap[k]? := fun k hk hn => hg.block k hk (fun e => hn (Option.some.inj e))
  exact { lt := fun k hk => Nat.lt_of_lt_of_le (h.lt k hk) hb.size, cell := by rw [hk _ (blk_lt h.cell) (fun e => h.out (e ▸ h.f1))]; exact h.cell, out := h.out, f1 := h.f1, f2 := h.f2, f3 := h.f3, f4 := h.f4, ne := h.ne
          states := hm, shown := h.shown.keep (hk _ h.shown.lt h.ne.1.symm), shut := h.shut.keep (hk _ h.shut.lt h.ne.2.1.symm), waits := h.waits.keep (hk _ h.waits.lt h.ne.2.2.1.symm)
          rows := fun b k => (h.rows b k).keep (fun g hg => hk g ((h.rows b k).1.lt g hg).2 (h.row_ne hg).1) (h.rows b k).2
          apart := h.apart }
/-- The map of what is shown has turned. -/
theorem Mnd.shown' {c : Fx} {w w' : World} {F : Nat → Prop} {r : Nat → Int → Option Value} {S : MS} (h : Mnd c w F r S) (hg : w.grownBy w' (some c.m2)) (sh : Int → Bool) (hm : MapG w' c.m2 (fun k => if sh k = true then some (.agg #[]) else none)) : Mnd c w' F r { S with sh := sh } := by
  have hb : Below 0 w w' := (Below.refl 0 w).grown hg (Nat.zero_le _) fun k _ => Nat.zero_le _
  have hk : ∀ k, k < w.heap.size → k ≠ c.m2 → w'.heap[k]? = w.heap[k]? := fun k hk hn => hg.block k hk (fun e => hn (Option.some.inj e))
  exact { lt := fun k hk => Nat.lt_of_lt_of_le (h.lt k hk) hb.size, cell := by rw [hk _ (blk_lt h.cell) (fun e => h.out (e ▸ h.f2))]; exact h.cell, out := h.out, f1 := h.f1, f2 := h.f2, f3 := h.f3, f4 := h.f4, ne := h.ne
          states := h.states.keep (hk _ h.states.lt h.ne.1), shown := hm, shut := h.shut.keep (hk _ h.shut.lt h.ne.2.2.2.1.symm), waits := h.waits.keep (hk _ h.waits.lt h.ne.2.2.2.2.1.symm)
          rows := fun b k => (h.rows b k).keep (fun g hg => hk g ((h.rows b k).1.lt g hg).2 (h.row_ne hg).2.1) (h.rows b k).2
          apart := h.apart }
#print axioms Mnd.turn
#print axioms Tp.look
end Go.Proofs.Ytmplcibaoanlnaa
