/- law 8's retry: its rows lie in new memory; guests beside the table; strings of bytes. -/
import Derived.Test.YtkmjdpnbakcgcaaQSm
namespace Go.Proofs.Ytkmjdpnbakcgcaa
open Go Go.RowKit

set_option maxRecDepth 20000 in
set_option maxHeartbeats 8000000 in
theorem retry_ra {w : World} {v2 v3 : Value} {to fr : List Int} {ver tok tag : Int} (h2 : Rd w v2 to) (h3 : Rd w v3 fr) (l2 : to.length ≤ 1000) (l3 : fr.length ≤ 1000) :
    Calls Try.prog 7 #[.agg #[.int .i64 ver, v2, v3, .int .i64 tok, .int .i64 tag]] w fun e w' => ∃ u2 u3, e = .returned (.agg #[.int .i64 ver, u2, u3, .int .i64 tok, .int .i64 tag]) ∧ (Ra w.heap.size w' u2 to ∧ Ra w.heap.size w' u3 fr) ∧ Below w.heap.size w w' := by
  obtain ⟨W2, hW2⟩ : ∃ W2, (w.alloc (.cells #[.int .i64 ver, v2, v3, .int .i64 tok, .int .i64 tag] 24)).alloc (.cells #[.int .i64 0, .slice none 0 0, .slice none 0 0, .int .i64 0, .int .i64 0] 32) = W2 := ⟨_, rfl⟩
  obtain ⟨G, hG⟩ : ∃ G, w.heap.size + 1 = G := ⟨_, rfl⟩
  have hbx : W2.heap[w.heap.size]? = some (.cells #[.int .i64 ver, v2, v3, .int .i64 tok, .int .i64 tag] 24 (0, 0)) := by
    rw [← hW2]
    exact ((below_alloc (w.alloc (.cells #[.int .i64 ver, v2, v3, .int .i64 tok, .int .i64 tag] 24)) _).block _ (by simp)).trans (heap_alloc_new w _)
  have hYd : Yn 32 5 G W2.drew := by
    rw [← hW2, ← hG]
    refine ⟨by simp, #[.int .i64 0, .slice none 0 0, .slice none 0 0, .int .i64 0, .int .i64 0], rfl, ?_⟩
    have := heap_alloc_new (w.alloc (.cells #[.int .i64 ver, v2, v3, .int .i64 tok, .int .i64 tag] 24)) (.cells #[.int .i64 0, .slice none 0 0, .slice none 0 0, .int .i64 0, .int .i64 0] 32)
    rw [World.size_alloc] at this
    exact this
  have hBd : Below w.heap.size w W2.drew := by rw [← hW2]; exact (((Below.refl _ _).alloc (Nat.le_refl _) _).alloc (by simp) _).drew
  have x0 : W2.drew.cell? ⟨w.heap.size, 0, none⟩ = some (.int .i64 ver) := (cell_of_row _ w.heap.size 0 _ _ (0, 0) hbx).trans rfl
  have x1 : W2.drew.cell? ⟨w.heap.size, 1, none⟩ = some v2 := (cell_of_row _ w.heap.size 1 _ _ (0, 0) hbx).trans rfl
  have x2 : W2.drew.cell? ⟨w.heap.size, 2, none⟩ = some v3 := (cell_of_row _ w.heap.size 2 _ _ (0, 0) hbx).trans rfl
  have x3 : W2.drew.cell? ⟨w.heap.size, 3, none⟩ = some (.int .i64 tok) := (cell_of_row _ w.heap.size 3 _ _ (0, 0) hbx).trans rfl
  have x4 : W2.drew.cell? ⟨w.heap.size, 4, none⟩ = some (.int .i64 tag) := (cell_of_row _ w.heap.size 4 _ _ (0, 0) hbx).trans rfl
  have HR := Lib.hid (And.intro h2 h3)
  have HG := Lib.hid hG
  have HW := Lib.hid hW2
  clear hbx h2 h3
  go_enter Try.func7, Try.ntmps7
  go_wp2_with fail
  clear hG hW2
  go_region_held3 (fun w' => w'.cell? ⟨w.heap.size, 0, none⟩ = some (.int .i64 ver) ∧ w'.cell? ⟨w.heap.size, 1, none⟩ = some v2 ∧ w'.cell? ⟨w.heap.size, 2, none⟩ = some v3 ∧ w'.cell? ⟨w.heap.size, 3, none⟩ = some (.int .i64 tok) ∧ w'.cell? ⟨w.heap.size, 4, none⟩ = some (.int .i64 tag) ∧ Yn 32 5 G w' ∧ Below w.heap.size w w')
    (first | (have _t := tok3; first | with_reducible exact keepR5 HG (by assumption) | with_reducible exact keepR hb3 (by assumption)) | with_reducible exact ⟨x0, x1, x2, x3, x4, hYd, hBd⟩ | with_reducible exact keepR (below_alloc _ _) (by assumption) | with_reducible exact keepR hb2 (by assumption))
    (first
      | (refine step_append_fresh (by rfl) _ _ (by rfl) _ (by rfl) v2 to (by rfl) (HR.out.1.below ?_) ?_ (lo := G + 1) ?_ ?_; exact keepRB (by assumption); omega; exact keepRY (by assumption); intro ut w2 hrt hb2; obtain ⟨at2, ct2, rfl⟩ := Rd.shape hrt.rd)
      | (refine step_append_fresh (by rfl) _ _ (by rfl) _ (by rfl) v3 fr (by rfl) (HR.out.2.below ?_) ?_ (lo := G + 1) ?_ ?_; exact keepRB (by assumption); omega; exact keepRY (by assumption); intro uf w3 hrf hb3; obtain ⟨at3, ct3, rfl⟩ := Rd.shape hrf.rd; have hrt3 : Ra (G + 1) w3 (.slice at2 to.length ct2) to := (by first | exact hrt.below hb3 | exact (hrt.alloc _).below hb3); have hS4 := keepR hb3 (by assumption); have hY4 := hS4.2.2.2.2.2.1; obtain ⟨hz, hzf⟩ := hY4.cells; obtain ⟨z0, e0⟩ := hz 0 (by decide); obtain ⟨z1, e1⟩ := hz 1 (by decide); obtain ⟨z2, e2⟩ := hz 2 (by decide); obtain ⟨z3, e3⟩ := hz 3 (by decide); obtain ⟨z4, e4⟩ := hz 4 (by decide); have HY4 := Lib.hid hY4; have HRT4 := Lib.hid hrt3; have HRF4 := Lib.hid hrf; have tok3 : True := trivial; clear hz hS4 hrf hrt hrt3 hb2 hY4 x0 x1 x2 x3 x4 hYd hBd l2 l3))
  all_goals
    go_wp2_with fail
    refine bodyPost_ret (v := .agg #[.int .i64 ver, .slice at2 to.length ct2, .slice at3 fr.length ct3, .int .i64 tok, .int .i64 tag]) (resultsR rfl (chain5 HY4.out _ _ _ _ _) rfl) rfl ⟨_, _, rfl, ⟨(set5 HRT4.out).mono (by have := HG.out; omega), (set5 HRF4.out).mono (by have := HG.out; omega)⟩, keepRB (by assumption)⟩

/-- Rows that lie in guests' blocks. -/
def GR (rs : List (Nat × Obj)) (u : Value) (zs : List Int) : Prop := ∀ a n cap, u = .slice (some a) n cap → zs ≠ [] → ∃ o, (a.block, o) ∈ rs
theorem GR.sub {rs us : List (Nat × Obj)} {u : Value} {zs : List Int} (h : GR rs u zs) (hs : ∀ r ∈ rs, r ∈ us) : GR us u zs := fun a n cap e hz => by
  obtain ⟨o, ho⟩ := h a n cap e hz
  exact ⟨o, hs _ ho⟩
theorem Rd.guest {w w' : World} {rs : List (Nat × Obj)} {u : Value} {zs : List Int} (h : Rd w u zs) (hg : GR rs u zs) (h1 : ∀ r ∈ rs, w.heap[r.1]? = some r.2) (h2 : ∀ r ∈ rs, w'.heap[r.1]? = some r.2) : Rd w' u zs := by
  obtain ⟨ao, cap, rfl⟩ := h.shape
  cases ao with
  | none =>
    obtain ⟨_, _, e, q1, q2, q3, q4, q5⟩ := h
    simp only [Value.slice.injEq] at e
    obtain ⟨rfl, _, rfl⟩ := e
    exact ⟨none, cap, rfl, q1, q2, q3, q4, fun a ha => by cases ha⟩
  | some ad =>
    by_cases hz : zs = []
    · subst hz
      obtain ⟨_, _, e, q1, q2, q3, q4, q5⟩ := h
      simp only [Value.slice.injEq] at e
      obtain ⟨rfl, _, rfl⟩ := e
      exact ⟨_, cap, rfl, q1, q2, q3, q4, fun a _ j hj => by simp at hj⟩
    · obtain ⟨o, ho⟩ := hg ad _ _ rfl hz
      exact h.same ((h2 _ ho).trans (h1 _ ho).symm)
variable {w0 w : World} {tb mb n : Nat} {N : List T.Nd} {rs : List (Nat × Obj)}
theorem gd_fresh (h : T.Gd w0 w tb mb N n rs) {w' : World} {us : List (Nat × Obj)} (hb : Below w.heap.size w w') (h' : T.Gd w0 w' tb mb N n us) (hu : ∀ u ∈ us, u ∈ rs ∨ w.heap.size ≤ u.1) {g : Nat} {o : Obj} (hg : w.heap.size ≤ g) (ho : w'.heap[g]? = some o) : T.Gd w0 w' tb mb N n ((g, o) :: us) := by
  have hk := h.keep hb
  obtain ⟨nv, ht, hr⟩ := h.st.tab
  obtain ⟨L, hL, _, _⟩ := ht.ex
  have l1 := blk_lt' hL.tab
  have l2 := hL.map.lt
  have l3 := fun k (e : some k = nv.ownBlock) => (hL.nodes.lt k e.symm).2
  refine ⟨⟨⟨nv, ht.keep hb, fun r hm => ?_⟩, fun r hm => ?_, h'.st.bel⟩, h.good, h.len⟩
  · rcases List.mem_cons.1 hm with rfl | hm
    · exact ⟨by simp only; omega, by simp only; omega, fun e => by have := l3 _ e; simp only at this; omega⟩
    · rcases hu r hm with h1 | h1
      · exact hr r h1
      · exact ⟨by omega, by omega, fun e => by have := l3 _ e; omega⟩
  · rcases List.mem_cons.1 hm with rfl | hm
    · exact ho
    · exact h'.st.own r hm
/-- A fresh row's block is a guest. -/
theorem gd_row (h : T.Gd w0 w tb mb N n rs) {w' : World} {us : List (Nat × Obj)} (hb : Below w.heap.size w w') (h' : T.Gd w0 w' tb mb N n us) (hu : ∀ u ∈ us, u ∈ rs ∨ w.heap.size ≤ u.1) {v : Value} {zs : List Int} (hv : Ra w.heap.size w' v zs) :
    ∃ vs, T.Gd w0 w' tb mb N n vs ∧ (∀ u ∈ us, u ∈ vs) ∧ GR vs v zs ∧ (∀ u ∈ vs, u ∈ us ∨ w.heap.size ≤ u.1) := by
  by_cases hc : ∃ ad n cap, v = .slice (some ad) n cap ∧ zs ≠ []
  · obtain ⟨ad, m, cap, rfl, hz⟩ := hc
    have hlo := hv.far ad m cap rfl hz
    obtain ⟨_, _, e, q1, q2, q3, q4, q5⟩ := hv.rd
    simp only [Value.slice.injEq] at e
    obtain ⟨rfl, rfl, rfl⟩ := e
    have hlt := cell_lt (q5 ad rfl 0 (List.length_pos_iff.2 hz))
    have e0 : (ad.add 0).block = ad.block := by unfold Addr.add; split <;> rfl
    rw [e0] at hlt
    have ho : w'.heap[ad.block]? = some (w'.heap[ad.block]'hlt) := Array.getElem?_eq_getElem hlt
    refine ⟨_, gd_fresh h hb h' hu hlo ho, (fun u hm => List.mem_cons_of_mem _ hm), fun a n c e _ => ?_, fun u hm => ?_⟩
    · simp only [Value.slice.injEq, Option.some.injEq] at e
      obtain ⟨rfl, _, _⟩ := e
      exact ⟨_, List.mem_cons_self⟩
    · rcases List.mem_cons.1 hm with rfl | hm
      · exact .inr hlo
      · exact .inl hm
  · exact ⟨us, h', (fun u hm => hm), (fun a n c e hz => absurd ⟨a, n, c, e, hz⟩ hc), fun u hm => .inl hm⟩
theorem bstr_inj {zs ys : List Int} (h1 : Byt zs) (h2 : Byt ys) (h : T.bstr zs = T.bstr ys) : zs = ys := by
  have key : ∀ (l : List Int) (r : ByteArray), (l.foldl (fun r n => r.push (UInt8.ofNat n.toNat)) r).data.toList = r.data.toList ++ l.map fun n => UInt8.ofNat n.toNat := by
    intro l
    induction l with
    | nil => intro r; simp
    | cons b l ih =>
      intro r
      simp only [List.foldl_cons, List.map_cons]
      rw [ih]
      simp [ByteArray.push]
  have e : zs.map (fun n => UInt8.ofNat n.toNat) = ys.map (fun n => UInt8.ofNat n.toNat) := by
    have a := key zs ByteArray.empty
    have b := key ys ByteArray.empty
    have h' : (zs.foldl (fun r n => r.push (UInt8.ofNat n.toNat)) ByteArray.empty) = (ys.foldl (fun r n => r.push (UInt8.ofNat n.toNat)) ByteArray.empty) := h
    rw [h'] at a
    rw [a] at b
    exact List.append_cancel_left b
  clear h key
  induction zs generalizing ys with
  | nil => cases ys with
    | nil => rfl
    | cons y ys => simp at e
  | cons z zs ih =>
    cases ys with
    | nil => simp at e
    | cons y ys =>
      simp only [List.map_cons, List.cons.injEq] at e
      have hz := h1 z (by simp)
      have hy := h2 y (by simp)
      have e1 := congrArg UInt8.toNat e.1
      simp only [UInt8.toNat_ofNat'] at e1
      rw [ih (fun x hx => h1 x (by simp [hx])) (fun x hx => h2 x (by simp [hx])) e.2, show z = y by omega]
#print axioms gd_row
#print axioms bstr_inj
#print axioms retry_ra
end Go.Proofs.Ytkmjdpnbakcgcaa
