/- Look of a number that is none. -/
import Derived.Test.YtofklfahbhhoiaaDoorTMake
namespace Go.Proofs.YtofklfahbhhoiaaDoor.T
open Go Go.RowKit

/-- The nodes of a table. -/
def nds (L : List (Nd × Value)) : List Nd := L.map (·.1)
theorem nds_app (L : List (Nd × Value)) (p : Nd × Value) : nds (L ++ [p]) = nds L ++ [p.1] := by simp [nds]
theorem nds_len (L : List (Nd × Value)) : (nds L).length = L.length := by simp [nds]
def idxN (i : Int) (N : List Nd) (n : Nd) : Option Int :=
  match N with
  | [] => none
  | m :: r => if m.1 = n.1 ∧ m.2.1 = n.2.1 ∧ pad m.2.2 = pad n.2.2 ∧ n.1 ≠ 2 then some i else idxN (i + 1) r n
theorem idx_nds (L : List (Nd × Value)) (n : Nd) : idx L n.1 n.2.1 (pad n.2.2) = idxN 1 (nds L) n := by
  have : ∀ (L : List (Nd × Value)) (i : Int), idxF i L n.1 n.2.1 (pad n.2.2) = idxN i (nds L) n := by
    intro L
    induction L with
    | nil => intro i; rfl
    | cons p r ih =>
      intro i
      simp only [idxF, nds, List.map_cons, idxN]
      rw [ih]
      rfl
  exact this L 1
def kindN (N : List Nd) (h : Int) : Int := if h < 1 then 0 else match N[(h - 1).toNat]? with
  | some p => p.1
  | none => 0
theorem kind_nds (L : List (Nd × Value)) (h : Int) : kindOf L h = kindN (nds L) h := by
  unfold kindOf kindN nds
  rw [List.getElem?_map]
  cases L[(h - 1).toNat]? <;> rfl
def partsN (N : List Nd) (h : Int) : List Int := match N[(h - 1).toNat]? with
  | some p => p.2.2
  | none => []
theorem parts_nds (L : List (Nd × Value)) (h : Int) : partsOf L h = partsN (nds L) h := by
  unfold partsOf partsN nds
  rw [List.getElem?_map]
  cases L[(h - 1).toNat]? <;> rfl
def mkN (N : List Nd) (k : Int) (ps : List Int) : List Int :=
  if k = 8 then [min (ps.getD 0 0) ((partsN N (ps.getD 1 0)).getD 0 0), max (ps.getD 0 0) ((partsN N (ps.getD 1 0)).getD 0 0)] else ps
theorem mk_nds (L : List (Nd × Value)) (k : Int) (ps : List Int) : mk L k ps = mkN (nds L) k ps := by
  unfold mk mkN
  rw [parts_nds]
def okN (N : List Nd) (a p : Int) : Bool := (decide (1 ≤ p) && decide (p ≤ (N.length : Int))) && (decide (a = 0) || decide (a = kindN N p))
def fitsN (N : List Nd) (k : Int) (ps : List Int) : Bool := match askL k ps.length with
  | none => false
  | some l => decide (l.length = ps.length) && (List.range ps.length).all fun j => okN N (l.getD j 0) (ps.getD j 0)
theorem fits_nds (L : List (Nd × Value)) (k : Int) (ps : List Int) : Fits L k ps ↔ fitsN (nds L) k ps = true := by
  unfold Fits fitsN
  cases askL k ps.length with
  | none => exact ⟨(fun ⟨l, h, _⟩ => by cases h), (fun h => by cases h)⟩
  | some l =>
    have hok : ∀ a p, OkAt L a p ↔ okN (nds L) a p = true := fun a p => by
      unfold OkAt okN
      rw [kind_nds, nds_len]
      simp
    constructor
    · rintro ⟨l', h1, h2, h3⟩
      cases h1
      simp only [Bool.and_eq_true, decide_eq_true_eq, List.all_eq_true, List.mem_range]
      exact ⟨h2, fun j hj => (hok _ _).1 (h3 j hj)⟩
    · intro h
      simp only [Bool.and_eq_true, decide_eq_true_eq, List.all_eq_true, List.mem_range] at h
      exact ⟨l, rfl, h.1, fun j hj => (hok _ _).2 (h.2 j hj)⟩

/-- The table, told by its nodes alone: its pointer is p; the blocks from B on hold it. -/
structure TabAt (w : World) (B : Nat) (tb mb : Nat) (nv : Value) (N : List Nd) : Prop where
  ex : ∃ L, Tbl w B tb mb nv L (idx L) ∧ nds L = N

theorem TabAt.keep {w w' : World} {B tb mb : Nat} {nv : Value} {N : List Nd} (h : TabAt w B tb mb nv N) (hb : Below w.heap.size w w') : TabAt w' B tb mb nv N := by
  obtain ⟨L, h1, h2⟩ := h.ex
  exact ⟨L, h1.keep hb, h2⟩
/-- What a call that numbers a node leaves. -/
def Put (w : World) (B tb mb : Nat) (nv : Value) (N : List Nd) (n : Nd) (e : Ending) (w' : World) : Prop :=
  match idxN 1 N n with
  | some c => e = .returned (.int .i64 c) ∧ Below w.heap.size w w'
  | none => e = .returned (.int .i64 ((N.length : Int) + 1)) ∧ ∃ nv', TabAt w' B tb mb nv' (N ++ [n]) ∧ Frm tb mb nv w w' ∧ Moved w nv nv'

theorem Numbered.put {w : World} {B tb mb : Nat} {nv : Value} {L : List (Nd × Value)} {n : Nd} {pv : Value} {e : Ending} {w' : World} (h : Numbered w B tb mb nv L (n, pv) (idx L n.1 n.2.1 (pad n.2.2)) e w') : Put w B tb mb nv (nds L) n e w' := by
  rw [idx_nds] at h
  unfold Put
  cases hc : idxN 1 (nds L) n with
  | some c => rw [hc] at h; exact h
  | none =>
    rw [hc] at h
    obtain ⟨h1, nv', h2, h3, h4⟩ := h
    rw [nds_len]
    exact ⟨h1, nv', ⟨_, h2, nds_app L _⟩, h3, h4⟩

set_option maxRecDepth 20000 in
theorem Tab.make {w : World} {B tb mb : Nat} {nv : Value} {N : List Nd} (h : TabAt w B tb mb nv N) (k : Int) {pv : Value} {ps : List Int} (hp : Rd .i64 w pv ps) (hl : ps.length ≤ 1000000) (hf : fitsN N k ps = true) (hroom : N.length < 65536) (hB : B ≤ w.heap.size) :
    Calls Tryd.prog 30 #[.pointer (some ⟨tb, 0, none⟩), .int .i64 k, pv] w fun e w' => Put w B tb mb nv N (k, ByteArray.empty, mkN N k ps) e w' := by
  obtain ⟨L, h1, rfl⟩ := h.ex
  refine (make_any h1 k hp hl ((fits_nds L k ps).2 hf) (by rw [← nds_len]; exact hroom) hB).mono fun e w' hm => ?_
  obtain ⟨pv', hm⟩ := hm
  rw [← mk_nds]
  exact Numbered.put (n := (k, ByteArray.empty, mk L k ps)) hm
set_option maxRecDepth 20000 in
theorem Tab.make_no {w : World} {B tb mb : Nat} {nv : Value} {N : List Nd} (h : TabAt w B tb mb nv N) (k : Int) {pv : Value} {ps : List Int} (hp : Rd .i64 w pv ps) (hl : ps.length ≤ 1000000) (hf : fitsN N k ps = false) :
    Calls Tryd.prog 30 #[.pointer (some ⟨tb, 0, none⟩), .int .i64 k, pv] w fun e w' => e = .returned (.int .i64 0) ∧ Below w.heap.size w w' := by
  obtain ⟨L, h1, rfl⟩ := h.ex
  exact Go.Proofs.YtofklfahbhhoiaaDoor.T.make_no h1 k hp hl (fun h => by rw [(fits_nds L k ps).1 h] at hf; cases hf)
set_option maxRecDepth 20000 in
theorem Tab.secret {w : World} {B tb mb : Nat} {nv : Value} {N : List Nd} (h : TabAt w B tb mb nv N) (hroom : N.length < 65536) :
    Calls Tryd.prog 12 #[.pointer (some ⟨tb, 0, none⟩)] w fun e w' => e = .returned (.int .i64 ((N.length : Int) + 1)) ∧ ∃ nv', TabAt w' B tb mb nv' (N ++ [secretNd]) ∧ Frm tb mb nv w w' ∧ Moved w nv nv' := by
  obtain ⟨L, h1, rfl⟩ := h.ex
  refine (secret_any h1 (by rw [← nds_len]; exact hroom)).mono fun e w' ⟨e1, nv', h2, h3, h4⟩ => ?_
  rw [nds_len]
  exact ⟨e1, nv', ⟨_, h2, nds_app L _⟩, h3, h4⟩
set_option maxRecDepth 20000 in
theorem Tab.size {w : World} {B tb mb : Nat} {nv : Value} {N : List Nd} (h : TabAt w B tb mb nv N) : Calls Tryd.prog 50 #[.pointer (some ⟨tb, 0, none⟩)] w fun e w' => e = .returned (.int .i64 (N.length : Int)) ∧ w = w' := by
  obtain ⟨L, h1, rfl⟩ := h.ex
  rw [nds_len]; exact size_any h1
set_option maxRecDepth 20000 in
theorem Tab.new (w : World) : Calls Tryd.prog 11 #[] w fun e w' => e = .returned (.pointer (some ⟨w.heap.size + 1, 0, none⟩)) ∧ TabAt w' w.heap.size (w.heap.size + 1) w.heap.size (.slice none 0 0) [] ∧ Below w.heap.size w w' :=
  (new_any w).mono fun _ _ ⟨h1, h2, h3⟩ => ⟨h1, ⟨[], h2, rfl⟩, h3⟩
theorem TabAt.below {w w' : World} {B tb mb : Nat} {nv : Value} {N : List Nd} (h : TabAt w B tb mb nv N) (hf : Frm tb mb nv w w') : Below B w w' := by
  obtain ⟨L, h1, _⟩ := h.ex
  exact h1.below hf
theorem TabAt.own32 {w w' : World} {B tb mb : Nat} {nv : Value} {N : List Nd} (h : TabAt w B tb mb nv N) (hf : Frm tb mb nv w w') {base size : Nat} {v : Value} {n : Nat} {xs : List Value} (ho : w.ownsRow base 29 size v n xs) : w'.ownsRow base 29 size v n xs := by
  obtain ⟨L, h1, _⟩ := h.ex
  exact h1.own32 hf ho
theorem Put.new {w : World} {B tb mb : Nat} {nv : Value} {N : List Nd} {n : Nd} {e : Ending} {w' : World} (h : Put w B tb mb nv N n e w') (hc : idxN 1 N n = none) : e = .returned (.int .i64 ((N.length : Int) + 1)) ∧ ∃ nv', TabAt w' B tb mb nv' (N ++ [n]) ∧ Frm tb mb nv w w' ∧ Moved w nv nv' := by
  unfold Put at h; rw [hc] at h; exact h
theorem Put.old {w : World} {B tb mb : Nat} {nv : Value} {N : List Nd} {n : Nd} {e : Ending} {w' : World} (h : Put w B tb mb nv N n e w') {c : Int} (hc : idxN 1 N n = some c) : e = .returned (.int .i64 c) ∧ Below w.heap.size w w' := by
  unfold Put at h; rw [hc] at h; exact h
#print axioms Tab.make
end Go.Proofs.YtofklfahbhhoiaaDoor.T
namespace Go.Proofs.YtofklfahbhhoiaaDoor.T
open Go Go.RowKit

theorem info38s : (Tryd.prog.info? 40).map (·.size) = some 3 := by kernel_rfl
theorem results11 {tmps : Array Value} {w : World} {g : Nat} {c0 c1 c2 b : Value} (hp : tmps.getD 4 undef = .pointer (some ⟨g, 0, none⟩)) (hg : w.heap[g]? = some (.cells #[c0, c1, c2] 40 (0, 0))) (hb : tmps.getD 5 undef = b) :
    (results Tryd.f18 tmps).run Tryd.prog w = .ok (.tuple #[.agg #[c0, c1, c2], b]) w := by
  rw [results_cell_tmp (fn := Tryd.f18) (p := 4) (u := 5) (ty := 40) Tryd.results18, hp, hb]
  simp [asAddr, run_loadVar_row w g 40 40 #[c0, c1, c2] (0, 0) _ hg Tryd.underlying40 rfl info38s, Result.andThen]
set_option maxHeartbeats 1000000 in
set_option maxRecDepth 20000 in
theorem look_nil {w : World} {t : Int} : Calls Tryd.prog 18 #[.pointer none, .int .i64 t] w fun e w' => e = .returned (.tuple #[.agg #[.int .i64 0, .string ByteArray.empty, .slice none 0 0], .bool false]) ∧ Below w.heap.size w w' := by
  go_enter Tryd.func18, Tryd.ntmps18
  go_wp2_with (go_at_call 38; refine (has_nil _ t).mono ?_; rintro e w' ⟨rfl, rfl⟩)
  refine bodyPost_ret (v := .tuple #[.agg #[.int .i64 0, .string ByteArray.empty, .slice none 0 0], .bool false]) (results11 rfl (heap_alloc_new w _) rfl) rfl ⟨rfl, below_alloc w _⟩
set_option maxHeartbeats 1000000 in
set_option maxRecDepth 20000 in
theorem look_any {w : World} {B tb mb : Nat} {nv : Value} {L : List (Nd × Value)} {f : Int → ByteArray → List Int → Option Int} (h : Tbl w B tb mb nv L f) (q : Nat) (hq : q < L.length) :
    Calls Tryd.prog 18 #[.pointer (some ⟨tb, 0, none⟩), .int .i64 ((q : Int) + 1)] w fun e w' => ∃ pv, e = .returned (.tuple #[.agg #[.int .i64 L[q].1.1, .string L[q].1.2.1, pv], .bool true]) ∧ w'.ownsRow w.heap.size 29 1 pv L[q].1.2.2.length (cs .i64 L[q].1.2.2) ∧ Below w.heap.size w w' := by
  obtain ⟨g, c, hnv', hc9, hLc, hcell0, hcell1, hcell2⟩ := node_cell h q hq
  have hc0 : w.cell? ⟨tb, 0, none⟩ = some nv := by simp [World.cell?, h.tab]
  have hpart := h.parts L[q] (List.getElem_mem hq)
  have hok := h.ok L[q] (List.getElem_mem hq)
  have hlen := hok.2.2.1
  obtain ⟨ao, cp, hpv, _⟩ := own_shape hpart
  have hrd := (Rd.of_own hpart).1
  have hy := has_yes (w := w.alloc (.cells #[.int .i64 0, .string ByteArray.empty, .slice none 0 0] 40)) (h.keep (below_alloc w _)) ((q : Int) + 1) (by omega) (by omega)
  have hqI : (q : Int) < (L.length : Int) := by omega
  have HQ := Lib.hid hq
  have htl := blk_lt h.tab
  have hgl := cell_lt hcell0
  simp only at hgl
  have hne1 : tb ≠ w.heap.size := by omega
  have hne2 : g ≠ w.heap.size := by omega
  generalize L[q] = p at *
  obtain ⟨⟨k, s, ps⟩, pv⟩ := p
  simp only at hcell0 hcell1 hcell2 hpart hlen hpv hrd
  subst hnv'
  clear h hok hq
  go_enter Tryd.func18, Tryd.ntmps18
  go_wp2_with (go_at_call 38; refine hy.mono ?_; rintro e w' ⟨rfl, rfl⟩)
  have hrd2 := (hrd.alloc (.cells #[.int .i64 0, .string ByteArray.empty, .slice none 0 0] 40)).alloc (.cells #[.int .i64 k, .string s, .slice ao ps.length cp] 40)
  rw [hpv] at hrd2
  refine (clone_any hrd2 (by omega)).mono ?_
  rintro e w3 ⟨v3, rfl, hown3, hb3⟩
  have b3 : Below w.heap.size w w3 := (below_alloc w _).trans (((below_alloc _ _).mono (by simp)).trans (hb3.mono (by simp; omega)))
  have hA : w3.heap[w.heap.size]? = some (.cells #[.int .i64 0, .string ByteArray.empty, .slice none 0 0] 40 (0, 0)) := by
    rw [hb3.block _ (by simp; omega)]; exact heap_alloc2_old w _ _
  have hA2 : w3.heap[w.heap.size + 1]? = some (.cells #[.int .i64 k, .string s, .slice ao ps.length cp] 40 (0, 0)) := by
    rw [hb3.block _ (by simp)]; exact heap_alloc2_new w _ _
  have hs3 : w.heap.size + 2 ≤ w3.heap.size := by have := hb3.size; simp at this; omega
  obtain ⟨ao3, cp3, rfl, _⟩ := own_shape hown3
  have x0 : w3.cell? ⟨w.heap.size, 0, none⟩ = some (.int .i64 0) := by simp [World.cell?, hA]
  have x1 : w3.cell? ⟨w.heap.size, 1, none⟩ = some (.string ByteArray.empty) := by simp [World.cell?, hA]
  have x2 : w3.cell? ⟨w.heap.size, 2, none⟩ = some (.slice none 0 0) := by simp [World.cell?, hA]
  have y0 : w3.cell? ⟨w.heap.size + 1, 0, none⟩ = some (.int .i64 k) := by simp [World.cell?, hA2]
  have y1 : w3.cell? ⟨w.heap.size + 1, 1, none⟩ = some (.string s) := by simp [World.cell?, hA2]
  have y2 : w3.cell? ⟨w.heap.size + 1, 2, none⟩ = some (.slice ao ps.length cp) := by simp [World.cell?, hA2]
  have z0 : ∀ j, w3.frozen? ⟨w.heap.size, j, none⟩ = false := fun j => by simp [World.frozen?, hA]
  have z1 : ∀ j, w3.frozen? ⟨w.heap.size + 1, j, none⟩ = false := fun j => by simp [World.frozen?, hA2]
  have z00 := z0 0
  have z01 := z0 1
  have z02 := z0 2
  have z12 := z1 2
  have HA := Lib.hid hA
  clear z0 z1 hA hA2 hrd2
  go_wp2_with fail
  have h0 : (w3.setCell ⟨w.heap.size + 1, 2, none⟩ (.slice ao3 ps.length cp3)).heap[w.heap.size]? = _ := (heap_setCell_other w3 _ _ _ (by simp)).trans HA.out
  have h1 := heap_setCell_same _ w.heap.size 0 _ 40 (.int .i64 k) h0
  have h2 := heap_setCell_same _ w.heap.size 1 _ 40 (.string s) h1
  have h3 := heap_setCell_same _ w.heap.size 2 _ 40 (.slice ao3 ps.length cp3) h2
  refine bodyPost_ret (v := .tuple #[.agg #[.int .i64 k, .string s, .slice ao3 ps.length cp3], .bool true]) (results11 rfl h3 rfl) rfl ⟨_, rfl, ?_, ?_⟩
  · have hg3 : ∀ g, (Value.slice ao3 ps.length cp3).ownBlock = some g → w.heap.size + 2 ≤ g := fun g hg => by
      have := (hown3.lt g hg).1
      simp at this
      omega
    refine own_keep (own_mono hown3 (by simp; omega)) fun g hg => ?_
    have := hg3 g hg
    rw [heap_setCell_other _ _ _ _ (by simp; omega), heap_setCell_other _ _ _ _ (by simp; omega), heap_setCell_other _ _ _ _ (by simp; omega), heap_setCell_other _ _ _ _ (by simp; omega)]
  · exact (((b3.setCell (by simp) _).setCell (by simp) _).setCell (by simp) _).setCell (by simp) _
#print axioms look_any
end Go.Proofs.YtofklfahbhhoiaaDoor.T
namespace Go.Proofs.YtofklfahbhhoiaaDoor.T
open Go Go.RowKit

set_option maxHeartbeats 1000000 in
set_option maxRecDepth 20000 in
theorem look_no {w : World} {B tb mb : Nat} {nv : Value} {L : List (Nd × Value)} {f : Int → ByteArray → List Int → Option Int} (h : Tbl w B tb mb nv L f) (t : Int) (h0 : t < 1 ∨ (L.length : Int) < t) :
    Calls Tryd.prog 18 #[.pointer (some ⟨tb, 0, none⟩), .int .i64 t] w fun e w' => e = .returned (.tuple #[.agg #[.int .i64 0, .string ByteArray.empty, .slice none 0 0], .bool false]) ∧ Below w.heap.size w w' := by
  have hn := has_no (w := w.alloc (.cells #[.int .i64 0, .string ByteArray.empty, .slice none 0 0] 40)) (h.keep (below_alloc w _)) t h0
  clear h h0
  go_enter Tryd.func18, Tryd.ntmps18
  go_wp2_with (go_at_call 38; refine hn.mono ?_; rintro e w' ⟨rfl, rfl⟩)
  refine bodyPost_ret (v := .tuple #[.agg #[.int .i64 0, .string ByteArray.empty, .slice none 0 0], .bool false]) (results11 rfl (heap_alloc_new w _) rfl) rfl ⟨rfl, below_alloc w _⟩
set_option maxRecDepth 20000 in
theorem Tab.look_no {w : World} {B tb mb : Nat} {nv : Value} {N : List Nd} (h : TabAt w B tb mb nv N) (t : Int) (h0 : t < 1 ∨ (N.length : Int) < t) :
    Calls Tryd.prog 18 #[.pointer (some ⟨tb, 0, none⟩), .int .i64 t] w fun e w' => e = .returned (.tuple #[.agg #[.int .i64 0, .string ByteArray.empty, .slice none 0 0], .bool false]) ∧ Below w.heap.size w w' := by
  obtain ⟨L, h1, rfl⟩ := h.ex
  rw [nds_len] at h0
  exact Go.Proofs.YtofklfahbhhoiaaDoor.T.look_no h1 t h0
/-- A number's place. -/
theorem place (t : Int) (n : Nat) (h1 : 1 ≤ t) (h2 : t ≤ (n : Int)) : ∃ q : Nat, q < n ∧ t = (q : Int) + 1 := ⟨(t - 1).toNat, by omega, by omega⟩
#print axioms Tab.look_no
end Go.Proofs.YtofklfahbhhoiaaDoor.T
