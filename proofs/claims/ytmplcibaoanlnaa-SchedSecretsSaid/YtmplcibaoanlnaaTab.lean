/- The table of terms as it lies in memory: its nodes, their parts, its map; what stays of it when other memory changes. -/
import Derived.Test.YtmplcibaoanlnaaMap
namespace Go.Proofs.Ytmplcibaoanlnaa
open Go Go.RowKit

/-- A node: its kind, its text, its parts. -/
abbrev Nd := Int × ByteArray × List Int
def NdOk (n : Nd) : Prop := (Lit.int .i64 n.1).wf = true ∧ n.2.1.size ≤ maxLen ∧ n.2.2.length ≤ 16 ∧ (∀ p ∈ n.2.2, 1 ≤ p ∧ p ≤ 65536) ∧ (n.1 = 7 → n.2.2.length = 1)
/-- Parts with zeros behind them: sixteen. -/
def pad (ps : List Int) : List Int := ps ++ List.replicate (16 - ps.length) 0
theorem wf_small (n : Int) (h0 : -9223372036854775808 ≤ n) (h1 : n ≤ 9223372036854775807) : (Lit.int .i64 n).wf = true := by
  simp [Lit.wf, IntKind.min, IntKind.max, IntKind.bits, IntKind.signed]; omega
theorem NdOk.key {n : Nd} (h : NdOk n) : KeyOk n.1 n.2.1 (pad n.2.2) := by
  refine ⟨h.1, h.2.1, ?_, fun p hp => ?_⟩
  · have := h.2.2.1; simp [pad]; omega
  · rcases List.mem_append.1 hp with hp | hp
    · have := h.2.2.2.1 p hp; exact wf_small p (by omega) (by omega)
    · rw [List.eq_of_mem_replicate hp]; decide
theorem pad_inj {xs ys : List Int} (hx : ∀ p ∈ xs, 1 ≤ p) (hy : ∀ p ∈ ys, 1 ≤ p) (h : pad xs = pad ys) : xs = ys := by
  have key : ∀ (xs ys : List Int) (a b : Nat), (∀ p ∈ xs, 1 ≤ p) → (∀ p ∈ ys, 1 ≤ p) → xs ++ List.replicate a (0 : Int) = ys ++ List.replicate b 0 → xs = ys := by
    intro xs
    induction xs with
    | nil =>
      intro ys a b _ hy h
      cases ys with
      | nil => rfl
      | cons y ys =>
        cases a with
        | zero => simp at h
        | succ a => simp [List.replicate_succ] at h; have := hy y (by simp); omega
    | cons x xs ih =>
      intro ys a b hx hy h
      cases ys with
      | nil =>
        cases b with
        | zero => simp at h
        | succ b => simp [List.replicate_succ] at h; have := hx x (by simp); omega
      | cons y ys =>
        simp only [List.cons_append, List.cons.injEq] at h
        rw [h.1, ih ys a b (fun p hp => hx p (by simp [hp])) (fun p hp => hy p (by simp [hp])) h.2]
  exact key xs ys _ _ hx hy h

/-- The cells of nodes, each with the value of its parts. -/
def ncells : List (Nd × Value) → List Value
  | [] => []
  | p :: r => .int .i64 p.1.1 :: .string p.1.2.1 :: p.2 :: ncells r
theorem ncells_len (L : List (Nd × Value)) : (ncells L).length = L.length * 3 := by
  induction L with | nil => rfl | cons p r ih => simp [ncells, ih]; omega
theorem ncells_app (L M : List (Nd × Value)) : ncells (L ++ M) = ncells L ++ ncells M := by
  induction L with | nil => rfl | cons p r ih => simp [ncells, ih]
theorem ncells_get (L : List (Nd × Value)) (i : Nat) (p : Nd × Value) (h : L[i]? = some p) : (ncells L)[i * 3]? = some (.int .i64 p.1.1) ∧ (ncells L)[i * 3 + 1]? = some (.string p.1.2.1) ∧ (ncells L)[i * 3 + 2]? = some p.2 := by
  induction L generalizing i with
  | nil => simp at h
  | cons q r ih =>
    cases i with
    | zero =>
      simp only [List.getElem?_cons_zero, Option.some.injEq] at h
      subst h
      simp [ncells]
    | succ i =>
      obtain ⟨h1, h2, h3⟩ := ih i (by simpa using h)
      have e : (i + 1) * 3 = i * 3 + 1 + 1 + 1 := by omega
      rw [e]
      simp only [ncells, List.getElem?_cons_succ]
      exact ⟨h1, h2, h3⟩

/-- The number under which the table has a key: secrets stand under none. -/
def idxF (i : Int) (L : List (Nd × Value)) (k : Int) (s : ByteArray) (ps : List Int) : Option Int :=
  match L with
  | [] => none
  | p :: r => if p.1.1 = k ∧ p.1.2.1 = s ∧ pad p.1.2.2 = ps ∧ k ≠ 2 then some i else idxF (i + 1) r k s ps
def idx (L : List (Nd × Value)) (k : Int) (s : ByteArray) (ps : List Int) : Option Int := idxF 1 L k s ps
theorem idxF_app (L : List (Nd × Value)) (p : Nd × Value) (k : Int) (s : ByteArray) (ps : List Int) (i : Int) :
    idxF i (L ++ [p]) k s ps = match idxF i L k s ps with
      | some c => some c
      | none => if p.1.1 = k ∧ p.1.2.1 = s ∧ pad p.1.2.2 = ps ∧ k ≠ 2 then some (i + L.length) else none := by
  induction L generalizing i with
  | nil => simp [idxF]
  | cons q r ih =>
    simp only [List.cons_append, idxF]
    split
    · rfl
    · rw [ih]
      have e : i + 1 + (r.length : Int) = i + ((q :: r).length : Int) := by simp; omega
      rw [e]
theorem idx_secret (L : List (Nd × Value)) (p : Nd × Value) (hp : p.1.1 = 2) (k : Int) (s : ByteArray) (ps : List Int) : idx (L ++ [p]) k s ps = idx L k s ps := by
  unfold idx
  rw [idxF_app]
  have : ¬ (p.1.1 = k ∧ p.1.2.1 = s ∧ pad p.1.2.2 = ps ∧ k ≠ 2) := fun h => h.2.2.2 (by rw [← h.1, hp])
  rw [if_neg this]
  cases idxF 1 L k s ps <;> rfl
theorem idx_new (L : List (Nd × Value)) (p : Nd × Value) (hp : p.1.1 ≠ 2) (h : idx L p.1.1 p.1.2.1 (pad p.1.2.2) = none) (k : Int) (s : ByteArray) (ps : List Int) :
    (if k = p.1.1 ∧ s = p.1.2.1 ∧ ps = pad p.1.2.2 then some ((L.length : Int) + 1) else idx L k s ps) = idx (L ++ [p]) k s ps := by
  unfold idx at h ⊢
  rw [idxF_app]
  by_cases e : k = p.1.1 ∧ s = p.1.2.1 ∧ ps = pad p.1.2.2
  · obtain ⟨rfl, rfl, rfl⟩ := e
    rw [h, if_pos ⟨rfl, rfl, rfl⟩]
    dsimp only
    rw [if_pos ⟨rfl, rfl, rfl, hp⟩]
    congr 1
    omega
  · rw [if_neg e]
    have : ¬ (p.1.1 = k ∧ p.1.2.1 = s ∧ pad p.1.2.2 = ps ∧ k ≠ 2) := fun h => e ⟨h.1.symm, h.2.1.symm, h.2.2.1.symm⟩
    rw [if_neg this]
    cases idxF 1 L k s ps <;> rfl
/-- What is found stands there. -/
theorem idx_some (L : List (Nd × Value)) (k : Int) (s : ByteArray) (ps : List Int) (c : Int) (h : idx L k s ps = some c) : ∃ i p, c = (i : Nat) + 1 ∧ L[i]? = some p ∧ p.1.1 = k ∧ p.1.2.1 = s ∧ pad p.1.2.2 = ps ∧ k ≠ 2 := by
  have key : ∀ (L : List (Nd × Value)) (j : Int), idxF j L k s ps = some c → ∃ (i : Nat) (p : Nd × Value), c = j + i ∧ L[i]? = some p ∧ p.1.1 = k ∧ p.1.2.1 = s ∧ pad p.1.2.2 = ps ∧ k ≠ 2 := by
    intro L
    induction L with
    | nil => intro j h; cases h
    | cons q r ih =>
      intro j h
      unfold idxF at h
      split at h
      · rename_i hq
        cases h
        exact ⟨0, q, by simp, rfl, hq.1, hq.2.1, hq.2.2.1, hq.2.2.2⟩
      · obtain ⟨i, p, e, r⟩ := ih _ h
        exact ⟨i + 1, p, by rw [e]; omega, r⟩
  obtain ⟨i, p, e, r⟩ := key L 1 h
  exact ⟨i, p, by rw [e]; omega, r⟩

/-- The table at block tb, with its map at mb, its nodes in nv: the list L; the map holds f. -/
structure Tbl (w : World) (B tb mb : Nat) (nv : Value) (L : List (Nd × Value)) (f : Int → ByteArray → List Int → Option Int) : Prop where
  btb : B ≤ tb
  bmb : B ≤ mb
  tab : w.heap[tb]? = some (.cells #[nv, .map (some mb)] 43 (0, 0))
  nodes : w.ownsRow B 47 3 nv L.length (ncells L)
  parts : ∀ p ∈ L, w.ownsRow B 26 1 p.2 p.1.2.2.length (cs .i64 p.1.2.2)
  map : MapV w mb L.length f
  small : L.length ≤ 65536
  ok : ∀ p ∈ L, NdOk p.1

/-- What a call on the table leaves: every other block that was there. -/
structure Frm (tb mb : Nat) (nv : Value) (w w' : World) : Prop where
  os : w'.os = w.os
  tape : w'.tape = w.tape
  output : w'.output = w.output
  size : w.heap.size ≤ w'.heap.size
  block : ∀ k, k < w.heap.size → k ≠ tb → k ≠ mb → some k ≠ nv.ownBlock → w'.heap[k]? = w.heap[k]?

theorem Frm.of_below {tb mb : Nat} {nv : Value} {w w' : World} (h : Below w.heap.size w w') : Frm tb mb nv w w' :=
  ⟨h.os, h.tape, h.output, h.size, fun k hk _ _ _ => h.block k hk⟩
theorem Frm.refl (tb mb : Nat) (nv : Value) (w : World) : Frm tb mb nv w w := .of_below (Below.refl _ _)
/-- The nodes' new row is the old one, or a new block. -/
def Moved (w : World) (nv nv' : Value) : Prop := nv'.ownBlock = nv.ownBlock ∨ ∀ g, nv'.ownBlock = some g → w.heap.size ≤ g
theorem Moved.refl (w : World) (nv : Value) : Moved w nv nv := .inl rfl
theorem Frm.trans {tb mb : Nat} {nv nv' : Value} {w w1 w2 : World} (h : Frm tb mb nv w w1) (hm : Moved w nv nv') (h' : Frm tb mb nv' w1 w2) : Frm tb mb nv w w2 :=
  ⟨h'.os.trans h.os, h'.tape.trans h.tape, h'.output.trans h.output, Nat.le_trans h.size h'.size, fun k hk h1 h2 h3 => by
    rw [h'.block k (Nat.lt_of_lt_of_le hk h.size) h1 h2 ?_]
    · exact h.block k hk h1 h2 h3
    · rcases hm with e | e
      · rw [e]; exact h3
      · intro e2; have := e k e2.symm; omega⟩
theorem Moved.trans {w w1 : World} {nv nv1 nv2 : Value} (h : Moved w nv nv1) (hs : w.heap.size ≤ w1.heap.size) (h' : Moved w1 nv1 nv2) : Moved w nv nv2 := by
  rcases h' with e | e
  · rcases h with e' | e'
    · exact .inl (e.trans e')
    · exact .inr fun g hg => e' g (by rw [← e]; exact hg)
  · exact .inr fun g hg => Nat.le_trans hs (e g hg)
theorem Tbl.below {w : World} {B tb mb : Nat} {nv : Value} {L : List (Nd × Value)} {f : Int → ByteArray → List Int → Option Int} (h : Tbl w B tb mb nv L f) {w' : World} (hf : Frm tb mb nv w w') : Below B w w' := by
  refine ⟨hf.os, hf.tape, hf.output, hf.size, fun k hk => ?_⟩
  have h1 := h.btb
  have h2 := h.bmb
  by_cases hkw : k < w.heap.size
  · refine hf.block k hkw (by omega) (by omega) fun e => ?_
    have := (h.nodes.lt k e.symm).1
    omega
  · have := blk_lt h.tab
    omega

/-- The table stays where nothing that was there has changed. -/
theorem Tbl.keep {w w' : World} {B tb mb : Nat} {nv : Value} {L : List (Nd × Value)} {f : Int → ByteArray → List Int → Option Int} (h : Tbl w B tb mb nv L f) (hb : Below w.heap.size w w') : Tbl w' B tb mb nv L f :=
  { h with
    tab := by rw [hb.block tb (blk_lt h.tab)]; exact h.tab
    nodes := own_below h.nodes hb
    parts := fun p hp => own_below (h.parts p hp) hb
    map := h.map.keep (hb.block mb h.map.lt) }
/-- What else the call owns stays when the table changes. -/
theorem Tbl.other {w w' : World} {B tb mb : Nat} {nv : Value} {L : List (Nd × Value)} {f : Int → ByteArray → List Int → Option Int} (h : Tbl w B tb mb nv L f) (hf : Frm tb mb nv w w') {k : Nat} (hk : k < w.heap.size)
    (h59 : ∀ c fr, w.heap[k]? ≠ some (.cells c 43 fr)) (h38 : ∀ c fr, w.heap[k]? ≠ some (.cells c 47 fr)) (hmap : ∀ es c, w.heap[k]? ≠ some (.map es c)) : w'.heap[k]? = w.heap[k]? := by
  refine hf.block k hk (fun e => ?_) (fun e => ?_) (fun e => ?_)
  · subst e; exact h59 _ _ h.tab
  · subst e
    obtain ⟨D, ⟨es, clock, hb, _⟩, _⟩ := h.map
    exact hmap _ _ hb
  · obtain ⟨cur, hc⟩ := own_blk h.nodes e.symm
    exact h38 _ _ hc
theorem Tbl.own32 {w w' : World} {B tb mb : Nat} {nv : Value} {L : List (Nd × Value)} {f : Int → ByteArray → List Int → Option Int} (h : Tbl w B tb mb nv L f) (hf : Frm tb mb nv w w') {base size : Nat} {v : Value} {n : Nat} {xs : List Value} (ho : w.ownsRow base 26 size v n xs) : w'.ownsRow base 26 size v n xs := by
  refine own_keep ho fun g hg => ?_
  obtain ⟨cur, hc⟩ := own_blk ho hg
  exact h.other hf (ho.lt g hg).2 (fun c fr e => by rw [hc] at e; cases e) (fun c fr e => by rw [hc] at e; cases e) (fun c fr e => by rw [hc] at e; cases e)
theorem own_shape {w : World} {base : Nat} {e : TypeId} {size : Nat} {v : Value} {n : Nat} {xs : List Value} (h : w.ownsRow base e size v n xs) : ∃ ao cap, v = .slice ao n cap ∧ n ≤ cap ∧ cap ≤ maxLen := by
  rcases h.2 with ⟨rfl, rfl⟩ | ⟨g, cap, cur, rfl, _, _, h1, h2, _⟩
  · exact ⟨none, 0, rfl, Nat.le_refl _, by simp [maxLen]⟩
  · exact ⟨_, cap, rfl, h1, h2⟩
#print axioms idx_new
#print axioms Tbl.own32
end Go.Proofs.Ytmplcibaoanlnaa
