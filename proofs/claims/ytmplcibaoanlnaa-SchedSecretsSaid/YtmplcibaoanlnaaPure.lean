/- The table's answers as plain functions of its nodes alone; what Make does, in these words. -/
import Derived.Test.YtmplcibaoanlnaaMake
namespace Go.Proofs.Ytmplcibaoanlnaa
open Go Go.RowKit

/-- The nodes of a table. -/
def nds (L : List (Nd × Value)) : List Nd := L.map (·.1)
theorem nds_app (L : List (Nd × Value)) (p : Nd × Value) : nds (L ++ [p]) = nds L ++ [p.1] := by simp [nds]
theorem nds_len (L : List (Nd × Value)) : (nds L).length = L.length := by simp [nds]
def idxN (i : Int) (N : List Nd) (n : Nd) : Option Int :=
  match N with
  | [] => none
  | m :: r => if m.1 = n.1 ∧ m.2.1 = n.2.1 ∧ pad m.2.2 = pad n.2.2 ∧ n.1 ≠ 2 then some i else idxN (i + 1) r n
theorem idx_nds (L : List (Nd × Value)) (n : Nd) : idx L n.1 n.2.1 (pad n.2.2) = idxN 1 (nds L) n := by
  have : ∀ (L : List (Nd × Value)) (i : Int), idxF i L n.1 n.2.1 (pad n.2.2) = idxN i (nds L) n := by
    intro L
    induction L with
    | nil => intro i; rfl
    | cons p r ih =>
      intro i
      simp only [idxF, nds, List.map_cons, idxN]
      rw [ih]
      rfl
  exact this L 1
def kindN (N : List Nd) (h : Int) : Int := if h < 1 then 0 else match N[(h - 1).toNat]? with
  | some p => p.1
  | none => 0
theorem kind_nds (L : List (Nd × Value)) (h : Int) : kindOf L h = kindN (nds L) h := by
  unfold kindOf kindN nds
  rw [List.getElem?_map]
  cases L[(h - 1).toNat]? <;> rfl
def partsN (N : List Nd) (h : Int) : List Int := match N[(h - 1).toNat]? with
  | some p => p.2.2
  | none => []
theorem parts_nds (L : List (Nd × Value)) (h : Int) : partsOf L h = partsN (nds L) h := by
  unfold partsOf partsN nds
  rw [List.getElem?_map]
  cases L[(h - 1).toNat]? <;> rfl
def mkN (N : List Nd) (k : Int) (ps : List Int) : List Int :=
  if k = 8 then [min (ps.getD 0 0) ((partsN N (ps.getD 1 0)).getD 0 0), max (ps.getD 0 0) ((partsN N (ps.getD 1 0)).getD 0 0)] else ps
theorem mk_nds (L : List (Nd × Value)) (k : Int) (ps : List Int) : mk L k ps = mkN (nds L) k ps := by
  unfold mk mkN
  rw [parts_nds]
def okN (N : List Nd) (a p : Int) : Bool := (decide (1 ≤ p) && decide (p ≤ (N.length : Int))) && (decide (a = 0) || decide (a = kindN N p))
def fitsN (N : List Nd) (k : Int) (ps : List Int) : Bool := match askL k ps.length with
  | none => false
  | some l => decide (l.length = ps.length) && (List.range ps.length).all fun j => okN N (l.getD j 0) (ps.getD j 0)
theorem fits_nds (L : List (Nd × Value)) (k : Int) (ps : List Int) : Fits L k ps ↔ fitsN (nds L) k ps = true := by
  unfold Fits fitsN
  cases askL k ps.length with
  | none => exact ⟨(fun ⟨l, h, _⟩ => by cases h), (fun h => by cases h)⟩
  | some l =>
    have hok : ∀ a p, OkAt L a p ↔ okN (nds L) a p = true := fun a p => by
      unfold OkAt okN
      rw [kind_nds, nds_len]
      simp
    constructor
    · rintro ⟨l', h1, h2, h3⟩
      cases h1
      simp only [Bool.and_eq_true, decide_eq_true_eq, List.all_eq_true, List.mem_range]
      exact ⟨h2, fun j hj => (hok _ _).1 (h3 j hj)⟩
    · intro h
      simp only [Bool.and_eq_true, decide_eq_true_eq, List.all_eq_true, List.mem_range] at h
      exact ⟨l, rfl, h.1, fun j hj => (hok _ _).2 (h.2 j hj)⟩

/-- The table, told by its nodes alone: its pointer is p; the blocks from B on hold it. -/
structure TabAt (w : World) (B : Nat) (tb mb : Nat) (nv : Value) (N : List Nd) : Prop where
  ex : ∃ L, Tbl w B tb mb nv L (idx L) ∧ nds L = N

theorem TabAt.keep {w w' : World} {B tb mb : Nat} {nv : Value} {N : List Nd} (h : TabAt w B tb mb nv N) (hb : Below w.heap.size w w') : TabAt w' B tb mb nv N := by
  obtain ⟨L, h1, h2⟩ := h.ex
  exact ⟨L, h1.keep hb, h2⟩
/-- What a call that numbers a node leaves. -/
def Put (w : World) (B tb mb : Nat) (nv : Value) (N : List Nd) (n : Nd) (e : Ending) (w' : World) : Prop :=
  match idxN 1 N n with
  | some c => e = .returned (.int .i64 c) ∧ Below w.heap.size w w'
  | none => e = .returned (.int .i64 ((N.length : Int) + 1)) ∧ ∃ nv', TabAt w' B tb mb nv' (N ++ [n]) ∧ Frm tb mb nv w w' ∧ Moved w nv nv'

theorem Numbered.put {w : World} {B tb mb : Nat} {nv : Value} {L : List (Nd × Value)} {n : Nd} {pv : Value} {e : Ending} {w' : World} (h : Numbered w B tb mb nv L (n, pv) (idx L n.1 n.2.1 (pad n.2.2)) e w') : Put w B tb mb nv (nds L) n e w' := by
  rw [idx_nds] at h
  unfold Put
  cases hc : idxN 1 (nds L) n with
  | some c => rw [hc] at h; exact h
  | none =>
    rw [hc] at h
    obtain ⟨h1, nv', h2, h3, h4⟩ := h
    rw [nds_len]
    exact ⟨h1, nv', ⟨_, h2, nds_app L _⟩, h3, h4⟩

set_option maxRecDepth 20000 in
theorem Tab.make {w : World} {B tb mb : Nat} {nv : Value} {N : List Nd} (h : TabAt w B tb mb nv N) (k : Int) {pv : Value} {ps : List Int} (hp : Rd .i64 w pv ps) (hl : ps.length ≤ 1000000) (hf : fitsN N k ps = true) (hroom : N.length < 65536) (hB : B ≤ w.heap.size) :
    Calls Try.prog 8 #[.pointer (some ⟨tb, 0, none⟩), .int .i64 k, pv] w fun e w' => Put w B tb mb nv N (k, ByteArray.empty, mkN N k ps) e w' := by
  obtain ⟨L, h1, rfl⟩ := h.ex
  refine (make_any h1 k hp hl ((fits_nds L k ps).2 hf) (by rw [← nds_len]; exact hroom) hB).mono fun e w' hm => ?_
  obtain ⟨pv', hm⟩ := hm
  rw [← mk_nds]
  exact Numbered.put (n := (k, ByteArray.empty, mk L k ps)) hm
set_option maxRecDepth 20000 in
theorem Tab.make_no {w : World} {B tb mb : Nat} {nv : Value} {N : List Nd} (h : TabAt w B tb mb nv N) (k : Int) {pv : Value} {ps : List Int} (hp : Rd .i64 w pv ps) (hl : ps.length ≤ 1000000) (hf : fitsN N k ps = false) :
    Calls Try.prog 8 #[.pointer (some ⟨tb, 0, none⟩), .int .i64 k, pv] w fun e w' => e = .returned (.int .i64 0) ∧ Below w.heap.size w w' := by
  obtain ⟨L, h1, rfl⟩ := h.ex
  exact Go.Proofs.Ytmplcibaoanlnaa.make_no h1 k hp hl (fun h => by rw [(fits_nds L k ps).1 h] at hf; cases hf)
set_option maxRecDepth 20000 in
theorem Tab.secret {w : World} {B tb mb : Nat} {nv : Value} {N : List Nd} (h : TabAt w B tb mb nv N) (hroom : N.length < 65536) :
    Calls Try.prog 7 #[.pointer (some ⟨tb, 0, none⟩)] w fun e w' => e = .returned (.int .i64 ((N.length : Int) + 1)) ∧ ∃ nv', TabAt w' B tb mb nv' (N ++ [secretNd]) ∧ Frm tb mb nv w w' ∧ Moved w nv nv' := by
  obtain ⟨L, h1, rfl⟩ := h.ex
  refine (secret_any h1 (by rw [← nds_len]; exact hroom)).mono fun e w' ⟨e1, nv', h2, h3, h4⟩ => ?_
  rw [nds_len]
  exact ⟨e1, nv', ⟨_, h2, nds_app L _⟩, h3, h4⟩
set_option maxRecDepth 20000 in
theorem Tab.size {w : World} {B tb mb : Nat} {nv : Value} {N : List Nd} (h : TabAt w B tb mb nv N) : Calls Try.prog 41 #[.pointer (some ⟨tb, 0, none⟩)] w fun e w' => e = .returned (.int .i64 (N.length : Int)) ∧ w = w' := by
  obtain ⟨L, h1, rfl⟩ := h.ex
  rw [nds_len]; exact size_any h1
set_option maxRecDepth 20000 in
theorem Tab.new (w : World) : Calls Try.prog 4 #[] w fun e w' => e = .returned (.pointer (some ⟨w.heap.size + 1, 0, none⟩)) ∧ TabAt w' w.heap.size (w.heap.size + 1) w.heap.size (.slice none 0 0) [] ∧ Below w.heap.size w w' :=
  (new_any w).mono fun _ _ ⟨h1, h2, h3⟩ => ⟨h1, ⟨[], h2, rfl⟩, h3⟩
theorem TabAt.below {w w' : World} {B tb mb : Nat} {nv : Value} {N : List Nd} (h : TabAt w B tb mb nv N) (hf : Frm tb mb nv w w') : Below B w w' := by
  obtain ⟨L, h1, _⟩ := h.ex
  exact h1.below hf
theorem TabAt.own32 {w w' : World} {B tb mb : Nat} {nv : Value} {N : List Nd} (h : TabAt w B tb mb nv N) (hf : Frm tb mb nv w w') {base size : Nat} {v : Value} {n : Nat} {xs : List Value} (ho : w.ownsRow base 26 size v n xs) : w'.ownsRow base 26 size v n xs := by
  obtain ⟨L, h1, _⟩ := h.ex
  exact h1.own32 hf ho
theorem Put.new {w : World} {B tb mb : Nat} {nv : Value} {N : List Nd} {n : Nd} {e : Ending} {w' : World} (h : Put w B tb mb nv N n e w') (hc : idxN 1 N n = none) : e = .returned (.int .i64 ((N.length : Int) + 1)) ∧ ∃ nv', TabAt w' B tb mb nv' (N ++ [n]) ∧ Frm tb mb nv w w' ∧ Moved w nv nv' := by
  unfold Put at h; rw [hc] at h; exact h
theorem Put.old {w : World} {B tb mb : Nat} {nv : Value} {N : List Nd} {n : Nd} {e : Ending} {w' : World} (h : Put w B tb mb nv N n e w') {c : Int} (hc : idxN 1 N n = some c) : e = .returned (.int .i64 c) ∧ Below w.heap.size w w' := by
  unfold Put at h; rw [hc] at h; exact h
#print axioms Tab.make
end Go.Proofs.Ytmplcibaoanlnaa
