/- frame.Read: the row of frames that it makes: its own row, and its elements' rows apart from it; append. -/
import Derived.Test.YtgcgmgcgbnepeaaDoorGRd7
import Derived.Test.YtgcgmgcgbnepeaaDoorGW5
namespace Go.Proofs.YtgcgmgcgbnepeaaDoor
open Go Go.RowKit

/-- A row does not lie in the block g. -/
def FarS (g : Nat) (v : Value) (S : List Sp) : Prop := ∀ (a : Addr) (n c : Nat), v = .slice (some a) n c → S ≠ [] → a.block ≠ g
def FarB (g : Nat) (v : Value) (zs : List Int) : Prop := ∀ (a : Addr) (n c : Nat), v = .slice (some a) n c → zs ≠ [] → a.block ≠ g
theorem RsA.keepG {lo g : Nat} {w w' : World} {v : Value} {S : List Sp} (h : RsA lo w v S) (hf : FarS g v S) (hb : ∀ k, k < w.heap.size → k ≠ g → w'.heap[k]? = w.heap[k]?) : RsA lo w' v S := by
  refine ⟨?_, h.far⟩
  obtain ⟨ao, cap, hv, h1, h2, h3, hc⟩ := h.rd
  refine ⟨ao, cap, hv, h1, h2, h3, fun a ha j hj => ?_⟩
  have hz : S ≠ [] := fun e => by rw [e] at hj; simp at hj
  have hne := hf a S.length cap (by rw [hv, ha]) hz
  have hx := hc a ha j hj
  have hlt := cell_lt hx.1
  rw [add_block] at hlt
  have key : ∀ k, w'.cell? (a.add k) = w.cell? (a.add k) := fun k => by
    unfold World.cell?
    rw [add_block, hb _ hlt hne]
  exact ⟨by rw [key]; exact hx.1, by rw [key]; exact hx.2⟩
theorem Ra.keepG {lo g : Nat} {w w' : World} {v : Value} {zs : List Int} (h : Ra lo w v zs) (hf : FarB g v zs) (hb : ∀ k, k < w.heap.size → k ≠ g → w'.heap[k]? = w.heap[k]?) : Ra lo w' v zs := by
  refine ⟨?_, h.far⟩
  obtain ⟨ao, cap, hv, h1, h2, h3, h4, hc⟩ := h.rd
  refine ⟨ao, cap, hv, h1, h2, h3, h4, fun a ha j hj => ?_⟩
  have hz : zs ≠ [] := fun e => by rw [e] at hj; simp at hj
  have hne := hf a zs.length cap (by rw [hv, ha]) hz
  have hx := hc a ha j hj
  have hlt := cell_lt hx
  rw [add_block] at hlt
  have key : w'.cell? (a.add j) = w.cell? (a.add j) := by
    unfold World.cell?
    rw [add_block, hb _ hlt hne]
  rw [key]; exact hx
theorem RsA.new {lo : Nat} {w : World} {v : Value} {S : List Sp} (h : RsA lo w v S) : FarS w.heap.size v S := fun a n c e hz => by
  obtain ⟨ao, cap, hv, _, _, _, hc⟩ := h.rd
  rw [e] at hv
  cases hv
  have := cell_lt (hc a rfl 0 (List.length_pos_iff.2 hz)).1
  rw [add_block] at this
  omega
theorem Ra.new {lo : Nat} {w : World} {v : Value} {zs : List Int} (h : Ra lo w v zs) : FarB w.heap.size v zs := fun a n c e hz => by
  obtain ⟨ao, cap, hv, _, _, _, _, hc⟩ := h.rd
  rw [e] at hv
  cases hv
  have := cell_lt (hc a rfl 0 (List.length_pos_iff.2 hz))
  rw [add_block] at this
  omega
/-- The cells of frames. -/
def fcs : List Fe → List Value
  | [] => []
  | e :: r => feC e ++ fcs r
theorem fcs_len (L : List Fe) : (fcs L).length = L.length * 6 := by
  induction L with
  | nil => rfl
  | cons e r ih => simp [fcs, feC, ih]; omega
theorem fcs_app (L M : List Fe) : fcs (L ++ M) = fcs L ++ fcs M := by
  induction L with
  | nil => rfl
  | cons e r ih => simp [fcs, ih]
theorem fcs_get {L : List Fe} {j : Nat} {e : Fe} (h : L[j]? = some e) {i : Nat} {u : Value} (hu : (feC e)[i]? = some u) : (fcs L)[j * 6 + i]? = some u := by
  induction L generalizing j with
  | nil => simp at h
  | cons x r ih =>
    have hl : (feC x).length = 6 := rfl
    cases j with
    | zero =>
      simp at h
      subst h
      simp only [fcs, Nat.zero_mul, Nat.zero_add]
      rw [List.getElem?_append_left (List.getElem?_eq_some_iff.1 hu).1]
      exact hu
    | succ j =>
      simp only [fcs]
      rw [List.getElem?_append_right (by omega), show (j + 1) * 6 + i - (feC x).length = j * 6 + i by omega]
      exact ih (by simpa using h)
/-- A row of frames of the call's own, from lo on, its elements' rows too, apart from it. -/
structure Fo (lo : Nat) (w : World) (v : Value) (L : List Fe) : Prop where
  own : w.ownsRow lo 29 6 v L.length (fcs L)
  el : ∀ e ∈ L, RsA lo w e.sv e.f.sp ∧ Ra lo w e.dv e.f.d ∧ Plain e.dv
  ap : ∀ g, v.ownBlock = some g → ∀ e ∈ L, FarS g e.sv e.f.sp ∧ FarB g e.dv e.f.d
theorem Fo.nil (lo : Nat) (w : World) : Fo lo w (.slice none 0 0) [] := ⟨World.ownsRow_nil _ _ _ _, (fun e h => by cases h), (fun g h => by cases h)⟩
theorem Fo.keep {lo : Nat} {w w' : World} {v : Value} {L : List Fe} (h : Fo lo w v L) (hb : ∀ k, k < w.heap.size → lo ≤ k → w'.heap[k]? = w.heap[k]?) : Fo lo w' v L :=
  ⟨own_keepG h.own hb, fun e he => ⟨(h.el e he).1.keep hb, (h.el e he).2.1.keep hb, (h.el e he).2.2⟩, h.ap⟩
theorem Fo.shape {lo : Nat} {w : World} {v : Value} {L : List Fe} (h : Fo lo w v L) : ∃ a c, v = .slice a L.length c := own_shape h.own
theorem Fo.fl {lo : Nat} {w : World} {v : Value} {L : List Fe} (h : Fo lo w v L) : Fl w v L := by
  refine ⟨?_, fun e he => ⟨(h.el e he).1.rd, (h.el e he).2.1.rd⟩⟩
  have hcell := fun g (hg : v.ownBlock = some g) => World.ownsRow.cells h.own hg
  rcases h.own.2 with ⟨rfl, h0⟩ | ⟨g, cap, cur, rfl, _, hh, h1, h2, h3, h4⟩
  · refine ⟨none, 0, by rw [h0], by omega, by simp [maxLen], fun _ => rfl, fun a h => by cases h⟩
  · refine ⟨some ⟨g, 0, none⟩, cap, rfl, h1, h2, (fun h => by cases h), fun a ha j e hj i u hu => ?_⟩
    cases ha
    exact hcell g rfl _ _ (fcs_get hj hu)
theorem info_frame : (Tryd.prog.info? 29).map (fun i => (i.zero.map (·.cells.size), i.size, i.bytes)) = some (some 6, 6, 80) := by kernel_rfl
/-- append of one frame. -/
theorem Fo.app {lo lo2 : Nat} {w : World} {v : Value} {L : List Fe} (h : Fo lo w v L) (hl : L.length ≤ 2000) (hlo : lo ≤ w.heap.size) (e : Fe) (hs : RsA lo2 w e.sv e.f.sp) (hd : Ra lo2 w e.dv e.f.d) (hp : Plain e.dv) (h2 : lo ≤ lo2) (hg : ∀ g, v.ownBlock = some g → g < lo2)
    (b : Nat) (hc : ∀ i u, (feC e)[i]? = some u → w.cell? ⟨b, i, none⟩ = some u) (ty : TypeId) :
    ∃ v' w', (Builtin.append_ #[38, 38] ty #[v, .slice (some ⟨b, 0, none⟩) 1 1]).run Tryd.prog w = .ok v' w' ∧ Fo lo w' v' (L ++ [e]) ∧ w.grownBy w' v.ownBlock := by
  obtain ⟨i, hi, hz⟩ : ∃ i, Tryd.prog.info? 29 = some i ∧ (i.zero.map (·.cells.size), i.size, i.bytes) = (some 6, 6, 80) := by
    have hinfo := info_frame
    cases he : Tryd.prog.info? 29 with
    | none => rw [he] at hinfo; cases hinfo
    | some i => rw [he] at hinfo; exact ⟨i, rfl, by simpa using hinfo⟩
  simp only [Prod.mk.injEq, Option.map_eq_some_iff] at hz
  obtain ⟨⟨z, hz0, hz3⟩, hz1, hz2⟩ := hz
  have hone : ∀ u ∈ feC e, u.oneCell' = true := by
    obtain ⟨a1, c1, e1⟩ := rs_shape hs.rd
    obtain ⟨a2, c2, e2⟩ := hd.rd.shape
    intro u hu
    simp only [feC, List.mem_cons, List.not_mem_nil, or_false] at hu
    rcases hu with rfl | rfl | rfl | rfl | rfl | rfl
    · rfl
    · rfl
    · rw [e1]; rfl
    · rfl
    · rw [e2]; rfl
    · rfl
  obtain ⟨v', w', k1, k2, k3, _, k5⟩ := run_append_own_at (P := Tryd.prog) w lo 38 ty 29 i z 6 80 Tryd.underlying38 hi hz0 hz1 hz2 hz3 (by decide) v L.length (fcs L) h.own ⟨b, 0, none⟩ 1 1 (feC e) rfl (fun j u hu => by rw [Addr.add_lit, Nat.zero_add]; exact hc j u hu) hone (by unfold maxLen; omega) (by omega) hlo
  have hge : ∀ g, v.ownBlock = some g → FarS g e.sv e.f.sp ∧ FarB g e.dv e.f.d := fun g hgv => ⟨fun a n c ea hz => by
    have := hs.far a n c ea hz
    have := hg g hgv
    omega, fun a n c ea hz => by
    have := hd.far a n c ea hz
    have := hg g hgv
    omega⟩
  have hall : ∀ x ∈ L ++ [e], RsA lo w x.sv x.f.sp ∧ Ra lo w x.dv x.f.d ∧ Plain x.dv := fun x hx => by
    rcases List.mem_append.1 hx with hx | hx
    · exact h.el x hx
    · obtain rfl := List.mem_singleton.1 hx
      exact ⟨hs.mono h2, hd.mono h2, hp⟩
  have hap : ∀ g, v.ownBlock = some g → ∀ x ∈ L ++ [e], FarS g x.sv x.f.sp ∧ FarB g x.dv x.f.d := fun g hgv x hx => by
    rcases List.mem_append.1 hx with hx | hx
    · exact h.ap g hgv x hx
    · obtain rfl := List.mem_singleton.1 hx
      exact hge g hgv
  refine ⟨v', w', k1, ⟨?_, fun x hx => ?_, fun g hgv x hx => ?_⟩, k3⟩
  · rw [fcs_app]
    simpa [fcs] using k2
  · obtain ⟨q1, q2, q3⟩ := hall x hx
    cases ho : v.ownBlock with
    | none =>
      have hb : ∀ k, k < w.heap.size → lo ≤ k → w'.heap[k]? = w.heap[k]? := fun k hk _ => k3.block k hk (by rw [ho]; simp)
      exact ⟨q1.keep hb, q2.keep hb, q3⟩
    | some g =>
      have hb : ∀ k, k < w.heap.size → k ≠ g → w'.heap[k]? = w.heap[k]? := fun k hk hne => k3.block k hk (fun h => hne (by rw [ho] at h; cases h; rfl))
      exact ⟨q1.keepG (hap g ho x hx).1 hb, q2.keepG (hap g ho x hx).2 hb, q3⟩
  · rcases k5 with k5 | k5
    · exact hap g (k5 ▸ hgv) x hx
    · rw [k5] at hgv
      cases hgv
      exact ⟨(hall x hx).1.new, (hall x hx).2.1.new⟩
#print axioms Fo.app
end Go.Proofs.YtgcgmgcgbnepeaaDoor
