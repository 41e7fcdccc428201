/- What a sealed term tells: the key's parts are asked, and what is sealed follows, or is shut. -/
import Derived.Test.YtmplcibaoanlnaaKyC
import Derived.Test.YtmplcibaoanlnaaRf
namespace Go.Proofs.Ytmplcibaoanlnaa
open Go Go.RowKit Go.Shelf
attribute [local go_sem] Oper.semAt_some

theorem wpIn_world {F : Fence} {n : Nat} {P : Program} {c : Code} {Q : Exit → Act → World → Prop} {a : Act} {W : World} (C : World → Prop) (hC : C W) (h : ∀ W', C W' → Code.wpIn F n P c Q a W') : Code.wpIn F n P c Q a W := h W hC
theorem row_keep {w w' : World} {B : Nat} {o : Obj} (hb : Below w.heap.size w w') (h : w.heap[B]? = some o) : w'.heap[B]? = some o := by
  rw [hb.block B (Array.getElem?_eq_some_iff.1 h).1]; exact h
theorem Tp.put {w : World} {F : Nat → Prop} {tp : Value} {N : List Nd} (h : Tp w F tp N) {l : Nat} (hl1 : ∀ cs t fr, w.heap[l]? ≠ some (.cells cs t fr)) (hl2 : ∀ es cl, w.heap[l]? ≠ some (.map es cl)) (o : Obj) : Tp (w.putObj l o) F tp N := by
  rcases h with h | ⟨B, tb, mb, nv, h1, h2⟩
  · exact .inl h
  · refine .inr ⟨B, tb, mb, nv, h1, ?_⟩
    obtain ⟨L, t1, t2, t3⟩ := h2.ex
    refine ⟨L, t1.same fun k hk => World.putObj_heap_other fun e => ?_, t2, t3⟩
    subst e
    rcases hk with rfl | rfl | hk | ⟨p, hp, hk⟩
    · exact hl1 _ _ _ t1.tab
    · obtain ⟨D, ⟨es, clock, hb, _⟩, _⟩ := t1.map
      exact hl2 _ _ hb
    · obtain ⟨cur, hb⟩ := own_blk t1.nodes hk
      exact hl1 _ _ _ hb
    · obtain ⟨cur, hb⟩ := own_blk (t1.parts p hp) hk
      exact hl1 _ _ _ hb
theorem LW.putX {c : Fx} {N : List Nd} {w : World} {F : Nat → Prop} {r : Nat → Int → Option Value} {S : MS} (h : LW c N w F r S) {l : Nat} (hl1 : ∀ cs t fr, w.heap[l]? ≠ some (.cells cs t fr)) (hl2 : ∀ es cl, w.heap[l]? ≠ some (.map es cl)) (hF : ¬ F l) (o : Obj) : LW c N (w.putObj l o) F r S := by
  have ne : ∀ {k : Nat} {cs : Array Value} {t : TypeId} {fr : Nat × Nat}, w.heap[k]? = some (.cells cs t fr) → k ≠ l := fun hk e => by rw [e] at hk; exact hl1 _ _ _ hk
  have keep : ∀ k, k ≠ l → (w.putObj l o).heap[k]? = w.heap[k]? := fun k hk => World.putObj_heap_other hk
  exact ⟨h.mnd.keep (keep _ (ne h.mnd.cell)) (fun k hk => keep k (fun e => hF (e ▸ hk))) (fun _ h => h) (fun k hk => by have := h.mnd.lt k hk; simpa using this) h.mnd.out,
    by rw [keep _ (ne h.box)]; exact h.box, h.boxF, by rw [keep _ (ne h.nb)]; exact h.nb, h.nbF, h.tab.put hl1 hl2 o, h.inr, h.wf⟩
theorem LW.put {c : Fx} {N : List Nd} {w : World} {F : Nat → Prop} {r : Nat → Int → Option Value} {S : MS} (h : LW c N w F r S) {l : Nat} {X : Loop} (hl : w.heap[l]? = some (.loop X)) (hF : ¬ F l) (o : Obj) : LW c N (w.putObj l o) F r S :=
  h.putX (fun _ _ _ e => by rw [hl] at e; cases e) (fun _ _ e => by rw [hl] at e; cases e) hF o
theorem stp_round {F1 F2 : Nat → Prop} {W1 W6 : World} {l : Nat} {X Y o : Obj} (hl : W1.heap[l]? = some X) (hF : ¬ F1 l) (h : Stp F1 ((W1.alloc o).putObj l Y) F2 W6) : Stp F1 W1 F2 (W6.putObj l X) := by
  have hlt := blk_lt hl
  have hs := h.size
  simp only [World.putObj_size, World.size_alloc] at hs
  refine ⟨h.os, h.tape, h.output, by simp; omega, fun k hk hn => ?_, fun k hk => ?_⟩
  · by_cases e : k = l
    · subst e
      rw [World.putObj_heap_same (by omega), hl]
    · rw [World.putObj_heap_other e, h.block k (by simp; omega) hn, World.putObj_heap_other e, (below_alloc W1 o).block k hk]
  · rcases h.grow k hk with e | e
    · exact .inl e
    · simp at e; exact .inr (by omega)
theorem Room.opens {N : List Nd} (hN : Wf N) {S : MS} {m : Nat} (h : Room S m) (l : List Int) : Room (l.foldl (openStep N) S) (m + 2 * l.length) := by
  induction l generalizing S m with
  | nil => exact h
  | cons x r ih =>
    have h1 : Room (openStep N S x) (m + 2) := Room.ask (S := { S with st := up S.st x 1 }) ⟨h.shut, h.waits, h.news⟩ x _ _ fun e => (hN.two x e).1
    have := ih h1
    simp only [List.foldl_cons, List.length_cons]
    exact this.mono (by omega)
theorem Inr.low {n : Nat} {S : MS} (h : Inr n S) {x : Int} (hx : 1 ≤ x ∧ x ≤ (n : Int)) : Inr n { S with st := up S.st x 1 } := ⟨fun y hy => by
    by_cases e : y = x
    · rw [e]; exact hx
    · exact h.st0 y (by simpa [up_other _ _ e] using hy), fun y => by
    by_cases e : y = x
    · simp [e, up_same]
    · simp [up_other _ _ e]; exact h.stb y, h.sh0, h.shut, h.waits, h.news⟩
theorem LW.low {c : Fx} {N : List Nd} {w w' : World} {F : Nat → Prop} {r : Nat → Int → Option Value} {S : MS} (h : LW c N w F r S) {x : Int} (hx : 1 ≤ x ∧ x ≤ (N.length : Int)) (hg : w.grownBy w' (some c.m1)) (hm : MapG w' c.m1 (fun j => if j = x then some (.int .i64 1) else if S.st j = 0 then none else some (.int .i64 (S.st j)))) :
    LW c N w' F r { S with st := up S.st x 1 } ∧ Stp F w F w' := by
  have hsx : (fun j => if j = x then some (Value.int .i64 1) else if S.st j = 0 then none else some (.int .i64 (S.st j))) = fun k => if up S.st x 1 k = 0 then none else some (.int .i64 (up S.st x 1 k)) := by
    funext j
    by_cases e : j = x
    · subst e; rw [if_pos rfl, up_same, if_neg (by omega)]
    · rw [if_neg e, up_other _ _ e]
  rw [hsx] at hm
  have s1 : Stp F w F w' := .of_grown hg (fun g e => by cases e; exact h.mnd.f1) (fun k hk => .inl hk)
  have hN := h.nb_ne
  refine ⟨⟨h.mnd.states' hg _ hm, ?_, h.boxF, ?_, h.nbF, h.tab.step s1, h.inr.low hx, h.wf⟩, s1⟩
  · rw [s1.block _ (blk_lt h.box) h.boxF]; exact h.box
  · rw [hg.block _ (blk_lt h.nb) (fun e => hN.2.1 (Option.some.inj e))]; exact h.nb
theorem After.undefer {c : Fx} {N : List Nd} {w W W' : World} {F F' : Nat → Prop} {S' : MS} {D : Nat} (h : After c N W F' S' W') (hs : Stp F w F' W) (hd : W.heap[D]? = some (.deferred (some []))) (hD : ¬ F' D) (hw : w.heap.size ≤ D) : W'.heap[D]? = some (.deferred (some [])) ∧ After c N w F S' (W'.putObj D (.deferred none)) := by
  obtain ⟨F2, r2, h1, h2⟩ := h
  have hd2 := (h2.block D (blk_lt hd) hD).trans hd
  refine ⟨hd2, F2, r2, h1.putX (fun _ _ _ e => by rw [hd2] at e; cases e) (fun _ _ e => by rw [hd2] at e; cases e) (h2.out (blk_lt hd) hD) _, ?_⟩
  have h3 := hs.trans h2
  exact ⟨h3.os, h3.tape, h3.output, by have := h3.size; simpa using this, fun k hk hn => by rw [World.putObj_heap_other (by omega)]; exact h3.block k hk hn, h3.grow⟩
theorem open_out {R : Ending → World → Prop} {tmps : Array Value} {W : World} {D : Nat} (hd : W.heap[D]? = some (.deferred (some []))) (hR : R (.returned (.tuple #[])) (W.putObj D (.deferred none))) :
    LeavesInM Fence.wide 8 Try.prog Try.f53 tmps R [{ target := .collected D, args := #[] }] .returning W :=
  ⟨by simp, .inl ⟨_, _, rfl, run_takeDeferred hd, _, results_none rfl _ _ _, hR⟩⟩
def Co (c : Fx) (b : Nat) (f : Int → Option Value) (w' : World) : Prop := w'.cell? ⟨b, 0, none⟩ = some (.pointer (some ⟨c.M, 0, none⟩)) ∧ Cq c.M 3 c.m3 f w'
theorem Co.below {c : Fx} {b : Nat} {f : Int → Option Value} {w w' : World} (h : Co c b f w) (hb : Below w.heap.size w w') : Co c b f w' := ⟨keepS hb h.1, h.2.below hb⟩
theorem Co.grown {c : Fx} {b : Nat} {f : Int → Option Value} {w w' : World} {row : Option Nat} (h : Co c b f w) (hb : w.grownBy w' row) (h1 : row ≠ some c.M) (h2 : row ≠ some c.m3) (h3 : row ≠ some b) : Co c b f w' :=
  ⟨by rw [World.cell?_of_block (w := w) (w' := w') (hb.block b (cell_lt h.1) (fun e => h3 e.symm))]; exact h.1, h.2.grown hb h1 h2⟩
theorem Inr.more0 {n : Nat} {S : MS} (h : Inr n S) {x : Int} (hx : 1 ≤ x ∧ x ≤ (n : Int)) (k : Int) : Inr n { S with shut := up S.shut k (S.shut k ++ [x]) } := ⟨h.st0, h.stb, h.sh0, fun j y hy => by
  by_cases e : j = k
  · simp only [e, up_same, List.mem_append, List.mem_singleton] at hy
    rcases hy with hy | rfl
    · exact h.shut k y hy
    · exact hx
  · simp only [up_other _ _ e] at hy; exact h.shut j y hy, h.waits, h.news⟩
/-- What holds between two rounds of the loop over the key's parts. -/
def Jo (c : Fx) (N : List Nd) (F : Nat → Prop) (S : MS) (W : World) (Ws : World) (qs : List Int) (W' : World) : Prop :=
  Below W.heap.size W Ws ∧ ∃ F' r', LW c N W' F' r' (qs.foldl (openStep N) S) ∧ Stp F Ws F' W'
set_option maxHeartbeats 8000000 in
set_option maxRecDepth 20000 in
theorem open_any {c : Fx} {N : List Nd} {w : World} {F : Nat → Prop} {r : Nat → Int → Option Value} {S : MS} (h : LW c N w F r S) {key content : Int} (hk : 1 ≤ key ∧ key ≤ (N.length : Int)) (hc : 1 ≤ content ∧ content ≤ (N.length : Int)) (hroom : Room S 137438953472) :
    Calls Try.prog 53 #[.pointer (some ⟨c.M, 0, none⟩), .int .i64 key, .int .i64 content, rv c] w fun e w' => e = .returned (.tuple #[]) ∧ ∃ l, Bel N S.st key l ∧ After c N w F (openP N S l key content) w' := by
  have hw := h.wf1 hk.1 hk.2
  refine callsIn_wide.1 (callsIn_of_wp_marks (n := 8) (F := Fence.wide) Try.func53 rfl trivial ?_ rfl)
  have hF61 : Fence.wide.fn 54 := trivial
  have hF37 : Fence.wide.fn 38 := trivial
  have hF33 : Fence.wide.fn 42 := trivial
  have hF38 : Fence.wide.fn 39 := trivial
  simp only [Try.ntmps53, List.size_toArray, List.length_cons, List.length_nil, Nat.reduceAdd, Nat.reduceSub, Array.replicate_succ, Array.replicate_zero, List.push_toArray, List.append_toArray, List.nil_append, List.cons_append]
  gi_wp2
  refine (callsIn_wide.2 below_any).mono ?_
  rintro e w' ⟨rfl, rfl⟩
  gi_wp2
  refine wpIn_wide.2 (range_open rfl (enters_of Try.func44 (by kernel_rfl) rfl) fun fn => ?_)
  have hsz : ((((w.alloc (.cells #[.pointer (some ⟨c.M, 0, none⟩)] 54)).alloc (.cells #[rv c] 91)).alloc (.cells #[.pointer (some ⟨c.M, 0, none⟩)] 54)).alloc (.cells #[.int .i64 key] 26)).heap.size = w.heap.size + 4 := by simp
  have e0 : ((((w.alloc (.cells #[.pointer (some ⟨c.M, 0, none⟩)] 54)).alloc (.cells #[rv c] 91)).alloc (.cells #[.pointer (some ⟨c.M, 0, none⟩)] 54)).alloc (.cells #[.int .i64 key] 26)).heap[w.heap.size]? = some (.cells #[.pointer (some ⟨c.M, 0, none⟩)] 54 (0, 0)) := by
    rw [(below_alloc _ _).block _ (by simp; omega), (below_alloc _ _).block _ (by simp; omega), (below_alloc _ _).block _ (by simp)]; exact heap_alloc_new w _
  have e1 : ((((w.alloc (.cells #[.pointer (some ⟨c.M, 0, none⟩)] 54)).alloc (.cells #[rv c] 91)).alloc (.cells #[.pointer (some ⟨c.M, 0, none⟩)] 54)).alloc (.cells #[.int .i64 key] 26)).heap[w.heap.size + 1]? = some (.cells #[rv c] 91 (0, 0)) := by
    rw [(below_alloc _ _).block _ (by simp), (below_alloc _ _).block _ (by simp)]; exact heap_alloc2_new w _ _
  have e2 : ((((w.alloc (.cells #[.pointer (some ⟨c.M, 0, none⟩)] 54)).alloc (.cells #[rv c] 91)).alloc (.cells #[.pointer (some ⟨c.M, 0, none⟩)] 54)).alloc (.cells #[.int .i64 key] 26)).heap[w.heap.size + 2]? = some (.cells #[.pointer (some ⟨c.M, 0, none⟩)] 54 (0, 0)) := by
    rw [(below_alloc _ _).block _ (by simp)]
    have := heap_alloc2_new (w.alloc (.cells #[.pointer (some ⟨c.M, 0, none⟩)] 54)) (.cells #[rv c] 91) (.cells #[.pointer (some ⟨c.M, 0, none⟩)] 54)
    simpa using this
  have e3 : ((((w.alloc (.cells #[.pointer (some ⟨c.M, 0, none⟩)] 54)).alloc (.cells #[rv c] 91)).alloc (.cells #[.pointer (some ⟨c.M, 0, none⟩)] 54)).alloc (.cells #[.int .i64 key] 26)).heap[w.heap.size + 3]? = some (.cells #[.int .i64 key] 26 (0, 0)) := by
    have := heap_alloc2_new ((w.alloc (.cells #[.pointer (some ⟨c.M, 0, none⟩)] 54)).alloc (.cells #[rv c] 91)) (.cells #[.pointer (some ⟨c.M, 0, none⟩)] 54) (.cells #[.int .i64 key] 26)
    simpa using this
  have eb : Below w.heap.size w ((((w.alloc (.cells #[.pointer (some ⟨c.M, 0, none⟩)] 54)).alloc (.cells #[rv c] 91)).alloc (.cells #[.pointer (some ⟨c.M, 0, none⟩)] 54)).alloc (.cells #[.int .i64 key] 26)) :=
    (((below_alloc _ _).trans ((below_alloc _ _).mono (by simp))).trans ((below_alloc _ _).mono (by simp; omega))).trans ((below_alloc _ _).mono (by simp; omega))
  generalize ((((w.alloc (.cells #[.pointer (some ⟨c.M, 0, none⟩)] 54)).alloc (.cells #[rv c] 91)).alloc (.cells #[.pointer (some ⟨c.M, 0, none⟩)] 54)).alloc (.cells #[.int .i64 key] 26)) = W4 at *
  rw [hsz]
  have hl5 : ∀ X : Obj, ((W4.alloc (.deferred (some []))).alloc X).heap[w.heap.size + 5]? = some X := fun X => by
    have := heap_alloc2_new W4 (.deferred (some [])) X
    rwa [hsz] at this
  have hl4 : ∀ X : Obj, ((W4.alloc (.deferred (some []))).alloc X).heap[w.heap.size + 4]? = some (.deferred (some [])) := fun X => by
    rw [(below_alloc _ _).block _ (by simp; omega)]
    have := heap_alloc_new W4 (.deferred (some []))
    rwa [hsz] at this
  have hb5 : ∀ X : Obj, Below w.heap.size w ((W4.alloc (.deferred (some []))).alloc X) := fun X => eb.trans (((below_alloc W4 (.deferred (some []))).trans ((below_alloc _ X).mono (by simp))).mono eb.size)
  have hk5 : ∀ (X : Obj) (k : Nat), k < w.heap.size + 4 → ((W4.alloc (.deferred (some []))).alloc X).heap[k]? = W4.heap[k]? := fun X k hk => by
    rw [(below_alloc _ _).block _ (by simp; omega), (below_alloc _ _).block _ (by omega)]
  have hs5 : ∀ X : Obj, ((W4.alloc (.deferred (some []))).alloc X).heap.size = w.heap.size + 6 := fun X => by simp [hsz]
  refine (callsIn_wide.1 (below_in (c := c) (F := F) (r := r) (n := 8) (hb := w.heap.size + 3) (mb := w.heap.size + 2) (h.mnd.below (hb5 _)) (h.tab.step (.below (hb5 _))) h.wf hw (by decide) (cell_row0 ((hk5 _ _ (by omega)).trans e3)) (cell_row0 ((hk5 _ _ (by omega)).trans e2))
    (Jo c N F S _) (fun Ws hWs => ⟨hWs, F, r, (h.below (hb5 _)).below hWs, .refl _ _⟩) (fun Ws qs W' hJ k h1 h2 => ?_) ?hY)).mono ?post
  · obtain ⟨_, F', r', _, hst⟩ := hJ
    exact hst.block k h2 (fun e => by have := h.mnd.lt k e; rw [hs5] at h1; omega)
  case hY =>
    intro Ws lq qs x s a cp W1 hBel hpre hJ hpr
    obtain ⟨hbW, F1, r1, hlw, hst⟩ := hJ
    have hs1 := hbW.size
    rw [hs5] at hs1 hpr
    have hFlt := h.mnd.lt
    have hnF : ∀ k, w.heap.size ≤ k → k < Ws.heap.size → ¬ F1 k := fun k h1 h2 => hst.out h2 (fun e => by have := hFlt k e; omega)
    have hWs : ∀ k, w.heap.size ≤ k → k < Ws.heap.size → W1.heap[k]? = Ws.heap[k]? := fun k h1 h2 => hst.block k h2 (fun e => by have := hFlt k e; omega)
    have hrec := (hWs (w.heap.size + 5) (by omega) (by omega)).trans ((hbW.block (w.heap.size + 5) (by rw [hs5]; omega)).trans (hl5 _))
    have hbox4 : W1.heap[w.heap.size]? = some (.cells #[.pointer (some ⟨c.M, 0, none⟩)] 54 (0, 0)) := by rw [hWs _ (by omega) (by omega), hbW.block _ (by rw [hs5]; omega), hk5 _ _ (by omega)]; exact e0
    have hbox7 : W1.heap[w.heap.size + 1]? = some (.cells #[rv c] 91 (0, 0)) := by rw [hWs _ (by omega) (by omega), hbW.block _ (by rw [hs5]; omega), hk5 _ _ (by omega)]; exact e1
    have hin := hBel.inn x (hpre.subset (by simp))
    have hqs : qs.length ≤ 65536 := by
      have h1 := hpre.length_le
      have h2 := few N.length lq (hBel.sorted.imp fun {a b} hh e => by omega) (fun y hy => ⟨(hBel.inn y hy).1, (hBel.inn y hy).2.1⟩)
      have := h.wf.few
      simp at h1
      omega
    have hrm := hroom.opens h.wf qs
    have hpw : W1.ownsRow (w.heap.size + 6) 26 1 (.slice a (partsN N x).length cp) (partsN N x).length (cs .i64 (partsN N x)) := own_keep hpr fun k hk => hWs k (by have := (hpr.lt k hk).1; omega) (hpr.lt k hk).2
    have hfar : ∀ k, (Value.slice a (partsN N x).length cp).ownBlock = some k → ¬ F1 k ∧ k ≠ w.heap.size + 5 ∧ k < W1.heap.size := fun k hk => ⟨hnF k (by have := (hpr.lt k hk).1; omega) (hpr.lt k hk).2, by have := (hpr.lt k hk).1; omega, (hpw.lt k hk).2⟩
    have HLW := Lib.hid hlw
    have HST := Lib.hid hst
    have HBW := Lib.hid hbW
    have HPW := Lib.hid hpw
    have HFAR := Lib.hid hfar
    have HIN := Lib.hid hin
    have HRM := Lib.hid hrm
    have HNF := Lib.hid hnF
    have HREC := Lib.hid hrec
    have HQS := Lib.hid hqs
    have HX := Lib.hid (And.intro hbox4 hbox7)
    have HS1 := Lib.hid hs1
    refine yield_open hrec rfl ?_
    clear hlw hst hbW hpw hfar hin hrm hnF hrec hqs hbox4 hbox7 hs1 hpr hBel hpre hWs e0 e1 e2 e3 eb hl5 hl4 hb5 hk5 hs5 hroom hw h hFlt
    gi_wp2
    refine ⟨row_keep (below_alloc W1 _) HREC.out, ?_⟩
    have hl1 := blk_lt HREC.out
    refine wpIn_world (fun Wd => Wd = (W1.alloc (.cells #[.int .i64 (kindN N x), .string s, .slice a (partsN N x).length cp] 47)).putObj (w.heap.size + 5) _) rfl ?_
    intro Wd hWd
    have hLWd : LW c N Wd F1 r1 (qs.foldl (openStep N) S) := by rw [hWd]; exact (HLW.out.below (below_alloc W1 _)).put (row_keep (below_alloc W1 _) HREC.out) (HNF.out _ (by omega) (by have := HS1.out; omega)) _
    have hkd : ∀ k, k < W1.heap.size → k ≠ w.heap.size + 5 → Wd.heap[k]? = W1.heap[k]? := fun k h1 h2 => by rw [hWd, World.putObj_heap_other h2, (below_alloc W1 _).block k h1]
    have hnd : Wd.heap[W1.heap.size]? = some (.cells #[.int .i64 (kindN N x), .string s, .slice a (partsN N x).length cp] 47 (0, 0)) := by
      rw [hWd, World.putObj_heap_other (by omega)]; exact heap_alloc_new W1 _
    have hbusy : ∃ X, Wd.heap[w.heap.size + 5]? = some (.loop X) := by rw [hWd]; exact ⟨_, World.putObj_heap_same (by simp; omega)⟩
    have hd4 := (hkd w.heap.size (by omega) (by omega)).trans HX.out.1
    have hd7 := (hkd (w.heap.size + 1) (by omega) (by omega)).trans HX.out.2
    have hm1n : ∀ (k : Nat) (cs : Array Value) (t : TypeId) (fr : Nat × Nat), Wd.heap[k]? = some (.cells cs t fr) → some k ≠ some c.m1 := fun k cs t fr hk e => by
      cases e
      obtain ⟨es, cl, e2⟩ := hLWd.mnd.states.blk
      rw [hk] at e2; cases e2
    have hm1l : w.heap.size + 5 ≠ c.m1 := fun e => HNF.out _ (by omega) (by have := HS1.out; omega) (e ▸ hLWd.mnd.f1)
    have k4 := cell_row0 hd4
    have kM := hLWd.mnd.fields.2.1
    have hpd : Wd.ownsRow (w.heap.size + 6) 26 1 (.slice a (partsN N x).length cp) (partsN N x).length (cs .i64 (partsN N x)) := own_keep HPW.out fun k hk => hkd k (HFAR.out k hk).2.2 (HFAR.out k hk).2.1
    have HWD := Lib.hid hWd
    have HLD := Lib.hid hLWd
    have HND := Lib.hid (And.intro hnd (And.intro hd4 hd7))
    have HPD := Lib.hid hpd
    have HN1 := Lib.hid hm1n
    have HB5 := Lib.hid hbusy
    have HML := Lib.hid hm1l
    clear hLWd hkd hnd hd4 hd7 hm1n hpd hWd hbusy hm1l
    gi_wp2_with (first
      | (gi_at_mapUpdate
         refine wpListIn_updG rfl _ _ _ 77 81 rfl Try.underlying77 HLD.out.mnd.states HIN.out.1 (by have := HIN.out.2.1; have := HLD.out.wf.few; omega) (.int .i64 1) rfl rfl rfl ?_
         intro w5 hm5 hg5
         have hl5' := HLD.out.low ⟨HIN.out.1, HIN.out.2.1⟩ hg5 hm5
         have q4 := cell_row0 ((hg5.block _ (blk_lt HND.out.2.1) (HN1.out _ _ _ _ HND.out.2.1)).trans HND.out.2.1)
         have q7 := cell_row0 ((hg5.block _ (blk_lt HND.out.2.2) (HN1.out _ _ _ _ HND.out.2.2)).trans HND.out.2.2)
         have hn5 := (hg5.block _ (blk_lt HND.out.1) (HN1.out _ _ _ _ HND.out.1)).trans HND.out.1
         have n0 : w5.cell? ⟨W1.heap.size, 0, none⟩ = some (.int .i64 (kindN N x)) := by unfold World.cell?; rw [hn5]; rfl
         have n1 : w5.cell? ⟨W1.heap.size, 1, none⟩ = some (.string s) := by unfold World.cell?; rw [hn5]; rfl
         have n2 : w5.cell? ⟨W1.heap.size, 2, none⟩ = some (.slice a (partsN N x).length cp) := by unfold World.cell?; rw [hn5]; rfl
         have HL5 := Lib.hid hl5'.1
         have HS5 := Lib.hid hl5'.2
         have ho5 : OutR F1 w5 (.slice a (partsN N x).length cp) (partsN N x) := ⟨(Rd.of_own (own_keep HPD.out fun k hk => hg5.block k (HPD.out.lt k hk).2 (fun e => (HFAR.out k hk).1 (by cases e; exact HLD.out.mnd.f1)))).1, fun hz ad m cq e hF => by
           have hob : (Value.slice a (partsN N x).length cp).ownBlock = some ad.block := by
             rcases HPD.out.2 with ⟨e2, _⟩ | ⟨g2, cap2, cur, e2, _⟩
             · rw [e2] at e; cases e
             · rw [e2] at e; cases e; rw [e2]; rfl
           exact (HFAR.out _ hob).1 hF⟩
         have hask := callsIn_wide (n := 8 - 1 - 1).2 (ask_any (s := s) hl5'.1 ⟨HIN.out.1, HIN.out.2.1⟩ ho5 (Room.mono (m := 137438953472 + 2 * qs.length) ⟨HRM.out.shut, HRM.out.waits, HRM.out.news⟩ (by have := HQS.out; omega)))
         have HG5 := Lib.hid hg5
         clear hl5' hm5 hg5 hn5 ho5)
      | (gi_at_call 54
         refine (CallsIn.inRound _ hask).mono ?_
         rintro e w6 ⟨rfl, F2, r2, p1, p2⟩
         have HP1 := Lib.hid p1
         have HP2 := Lib.hid (HS5.out.trans p2)
         clear p1 p2 hask))
    have hF1l : ¬ F1 (w.heap.size + 5) := HNF.out _ (by omega) (by have := HS1.out; omega)
    have hltd : w.heap.size + 5 < Wd.heap.size := by rw [HWD.out]; simp; omega
    have hw6 := HP2.out.block _ hltd hF1l
    have hby : Wd.heap[w.heap.size + 5]? = _ := (congrArg (fun W : World => W.heap[w.heap.size + 5]?) HWD.out).trans (World.putObj_heap_same (by simp; omega))
    have hby6 := hw6.trans hby
    have hp2 := HP2.out
    rw [HWD.out] at hp2
    refine ⟨hby6, rfl, HBW.out, F2, r2, ?_, HST.out.trans (stp_round HREC.out hF1l hp2)⟩
    rw [List.foldl_append]
    exact HP1.out.put hby6 (hp2.out (by simp; omega) hF1l) _
  case post =>
    rintro e W ⟨he, Ws, l, hBel, hbW, F', r', hlw, hst⟩
    have hs1 := hbW.size
    rw [hs5] at hs1
    have hFlt := h.mnd.lt
    have hnF : ∀ k, w.heap.size ≤ k → k < Ws.heap.size → ¬ F' k := fun k h1 h2 => hst.out h2 (fun e => by have := hFlt k e; omega)
    have hWs : ∀ k, w.heap.size ≤ k → k < Ws.heap.size → W.heap[k]? = Ws.heap[k]? := fun k h1 h2 => hst.block k h2 (fun e => by have := hFlt k e; omega)
    have hrec := (hWs (w.heap.size + 5) (by omega) (by omega)).trans ((hbW.block (w.heap.size + 5) (by rw [hs5]; omega)).trans (hl5 _))
    have hbox4 : W.heap[w.heap.size]? = some (.cells #[.pointer (some ⟨c.M, 0, none⟩)] 54 (0, 0)) := by rw [hWs _ (by omega) (by omega), hbW.block _ (by rw [hs5]; omega), hk5 _ _ (by omega)]; exact e0
    have hbox7 : W.heap[w.heap.size + 1]? = some (.cells #[rv c] 91 (0, 0)) := by rw [hWs _ (by omega) (by omega), hbW.block _ (by rw [hs5]; omega), hk5 _ _ (by omega)]; exact e1
    have hdf : W.heap[w.heap.size + 4]? = some (.deferred (some [])) := by rw [hWs _ (by omega) (by omega), hbW.block _ (by rw [hs5]; omega)]; exact hl4 _
    refine ⟨he, .inl ⟨hrec, fun o => ?_⟩⟩
    have hne : ∀ k, k < w.heap.size + 5 → (W.putObj (w.heap.size + 4 + 1) o).heap[k]? = W.heap[k]? := fun k hk => World.putObj_heap_other (by omega)
    have hLW1 : LW c N (W.putObj (w.heap.size + 4 + 1) o) F' r' (l.foldl (openStep N) S) := hlw.put hrec (hnF _ (by omega) (by omega)) o
    have hdf1 := (hne (w.heap.size + 4) (by omega)).trans hdf
    have h41 := (hne w.heap.size (by omega)).trans hbox4
    have h71 := (hne (w.heap.size + 1) (by omega)).trans hbox7
    have hst1 : Stp F w F' (W.putObj (w.heap.size + 4 + 1) o) := by
      have h0 : Stp F w F Ws := .below ((hb5 _).trans (hbW.mono (by rw [hs5]; omega)))
      have h1 := h0.trans hst
      exact ⟨h1.os, h1.tape, h1.output, by have := h1.size; simpa using this, fun k hk hn => by rw [hne k (by omega)]; exact h1.block k hk hn, h1.grow⟩
    have hFd : ¬ F' (w.heap.size + 4) := hnF _ (by omega) (by omega)
    have hF0 : ¬ F' w.heap.size := hnF _ (Nat.le_refl _) (by omega)
    have hlen : l.length ≤ 65536 := by
      have h2 := few N.length l (hBel.sorted.imp fun {a b} hh e => by omega) (fun y hy => ⟨(hBel.inn y hy).1, (hBel.inn y hy).2.1⟩)
      have := h.wf.few
      omega
    have hrm : Room (l.foldl (openStep N) S) 549755813888 := (hroom.opens h.wf l).mono (by omega)
    have hOP : openP N S l key content = if canP (l.foldl (openStep N) S) key then riseP (l.foldl (openStep N) S) content 3 else { l.foldl (openStep N) S with shut := up (l.foldl (openStep N) S).shut key ((l.foldl (openStep N) S).shut key ++ [content]) } := rfl
    show Exit.inBlock 0 _ Exit.normal _ (W.putObj (w.heap.size + 4 + 1) o)
    generalize W.putObj (w.heap.size + 4 + 1) o = W1 at *
    generalize hSl : l.foldl (openStep N) S = Sl at *
    clear hrec hbox4 hbox7 hdf hWs hnF hst hlw hbW hs1 hb5 hk5 hs5 hl4 hl5 e0 e1 e2 e3 eb hne hFlt hSl hsz
    have HLW := Lib.hid hLW1
    have HST := Lib.hid hst1
    have HDF := Lib.hid hdf1
    have HRM := Lib.hid hrm
    have HBEL := Lib.hid hBel
    have HOP := Lib.hid hOP
    have HFD := Lib.hid hFd
    have HF0 := Lib.hid hF0
    have HC := Lib.hid hc
    have HKK := Lib.hid hk
    have H7 := Lib.hid h71
    have H4 := Lib.hid h41
    have k4 := cell_row0 h41
    have k7 := cell_row0 h71
    have hcan := can_any hLW1.mnd hw
    clear hLW1 hst1 hdf1 hrm hBel hOP hFd hF0 hlen h h71 h41 hroom hc hk
    simp only [Exit.inBlock, Exit.then]
    refine ‹∀ (a : Act) (w : World), Code.wpIn Fence.wide 8 Try.prog _ _ a w → _› _ _ ?_
    refine wpIn_wide.2 ?_
    dsimp only [marked]
    unfold rv at *
    cases hcn : canP Sl key with
    | true =>
      rw [hcn] at hcan
      have hri := rise_any HLW.out HC.out (to := 3) (by decide) (HRM.out.mono (by decide))
      go_wp2_with (first
        | (go_at_call 38; refine hcan.mono ?_; rintro e w3 ⟨rfl, rfl⟩)
        | (go_at_call 42; refine hri.mono ?_; rintro e w4 ⟨rfl, ha⟩))
      obtain ⟨u1, u2⟩ := ha.after.undefer HST.out HDF.out HFD.out (by omega)
      refine open_out u1 ⟨rfl, l, HBEL.out, ?_⟩
      rw [HOP.out, if_pos hcn]
      exact u2
    | false =>
      rw [hcn] at hcan
      go_wp2_with (go_at_call 38; refine hcan.mono ?_; rintro e w3 ⟨rfl, rfl⟩)
      have hC : Co c w.heap.size (r' 0) w3 := ⟨k4, HLW.out.mnd.fields.2.2.2.1, HLW.out.mnd.shut⟩
      have hRN : (val r' 0 key).ownBlock ≠ some c.M ∧ (val r' 0 key).ownBlock ≠ some c.m3 ∧ (val r' 0 key).ownBlock ≠ some w.heap.size := ⟨fun e => (HLW.out.mnd.row_ne e).2.2.2.2 rfl, fun e => (HLW.out.mnd.row_ne e).2.2.1 rfl, fun e => HF0.out ((HLW.out.mnd.rows 0 key).2 _ e)⟩
      have hrow := (HLW.out.mnd.rows 0 key).1
      have hlr := HRM.out.shut key
      have hk2 : key ≤ 65536 := by have h1 := HLW.out.wf.few; have h2 := HKK.out.2; omega
      refine wp_region_noPanic ?_
      refine wp_region_end 14 (fun w' => Co c w.heap.size (r' 0) w') (by kernel_rfl) ?_
      have HC2 := Lib.hid (hC.below (Below.refl _ _).drew)
      refine wpAnyE_take [0] (i := 0) (oi := { dst := some 31, op := Op.load 54 (Operand.tmp 4), type := 54, pos := "know.go:167", after := #[], guard := none }) (v := ?_) rfl (by kernel_rfl) (by kernel_rfl) (by kernel_rfl) (by kernel_rfl) rfl rfl (by kernel_rfl) (by kernel_rfl) (fun _ _ _ h => h) (Or.inl ⟨by rfl, ?_⟩) (by exact HC2.out) ?_
      rotate_left
      · intro w hSw; (try dsimp only at hSw); obtain ⟨qb, q0, q1⟩ := hSw; have ql := q1.look Try.underlying78 zeroSl hw; go_simp; try (with_reducible rfl)
      repeat (first | simp only [Act.put] | simp only [List.setIfInBounds_toArray] | simp only [List.set_cons_zero] | simp only [List.set_cons_succ])
      refine wpAnyE_take [1] (i := 1) (oi := { dst := some 32, op := Op.nilCheck (Operand.tmp 31), type := 0, pos := "know.go:167", after := #[{ on := 0, ground := Ground.data }], guard := none }) (v := ?_) rfl (by kernel_rfl) (by kernel_rfl) (by kernel_rfl) (by kernel_rfl) rfl rfl (by kernel_rfl) (by kernel_rfl) (fun _ _ _ h => h) (Or.inl ⟨by rfl, ?_⟩) (by exact HC2.out) ?_
      rotate_left
      · intro w hSw; (try dsimp only at hSw); obtain ⟨qb, q0, q1⟩ := hSw; have ql := q1.look Try.underlying78 zeroSl hw; go_simp; try (with_reducible rfl)
      repeat (first | simp only [Act.put] | simp only [List.setIfInBounds_toArray] | simp only [List.set_cons_zero] | simp only [List.set_cons_succ])
      refine wpAnyE_take [2] (i := 2) (oi := { dst := some 33, op := Op.fieldAddr 80 (Operand.tmp 32) 3, type := 0, pos := "know.go:167", after := #[{ on := 1, ground := Ground.data }], guard := none }) (v := ?_) rfl (by kernel_rfl) (by kernel_rfl) (by kernel_rfl) (by kernel_rfl) rfl rfl (by kernel_rfl) (by kernel_rfl) (fun _ _ _ h => h) (Or.inl ⟨by rfl, ?_⟩) (by exact HC2.out) ?_
      rotate_left
      · intro w hSw; (try dsimp only at hSw); obtain ⟨qb, q0, q1⟩ := hSw; have ql := q1.look Try.underlying78 zeroSl hw; go_simp; try (with_reducible rfl)
      repeat (first | simp only [Act.put] | simp only [List.setIfInBounds_toArray] | simp only [List.set_cons_zero] | simp only [List.set_cons_succ])
      refine wpAnyE_take [3] (i := 3) (oi := { dst := some 34, op := Op.load 78 (Operand.tmp 33), type := 78, pos := "know.go:167", after := #[{ on := 2, ground := Ground.data }], guard := none }) (v := ?_) rfl (by kernel_rfl) (by kernel_rfl) (by kernel_rfl) (by kernel_rfl) rfl rfl (by kernel_rfl) (by kernel_rfl) (fun _ _ _ h => h) (Or.inl ⟨by rfl, ?_⟩) (by exact HC2.out) ?_
      rotate_left
      · intro w hSw; (try dsimp only at hSw); obtain ⟨qb, q0, q1⟩ := hSw; have ql := q1.look Try.underlying78 zeroSl hw; go_simp; try (with_reducible rfl)
      repeat (first | simp only [Act.put] | simp only [List.setIfInBounds_toArray] | simp only [List.set_cons_zero] | simp only [List.set_cons_succ])
      refine wpAnyE_take [4] (i := 4) (oi := { dst := some 35, op := Op.move (Operand.tmp 1), type := 26, pos := "know.go:167", after := #[], guard := none }) (v := ?_) rfl (by kernel_rfl) (by kernel_rfl) (by kernel_rfl) (by kernel_rfl) rfl rfl (by kernel_rfl) (by kernel_rfl) (fun _ _ _ h => h) (Or.inl ⟨by rfl, ?_⟩) (by exact HC2.out) ?_
      rotate_left
      · intro w hSw; (try dsimp only at hSw); obtain ⟨qb, q0, q1⟩ := hSw; have ql := q1.look Try.underlying78 zeroSl hw; go_simp; try (with_reducible rfl)
      repeat (first | simp only [Act.put] | simp only [List.setIfInBounds_toArray] | simp only [List.set_cons_zero] | simp only [List.set_cons_succ])
      refine wpAnyE_take [5] (i := 5) (oi := { dst := some 36, op := Op.load 54 (Operand.tmp 4), type := 54, pos := "know.go:167", after := #[], guard := none }) (v := ?_) rfl (by kernel_rfl) (by kernel_rfl) (by kernel_rfl) (by kernel_rfl) rfl rfl (by kernel_rfl) (by kernel_rfl) (fun _ _ _ h => h) (Or.inl ⟨by rfl, ?_⟩) (by exact HC2.out) ?_
      rotate_left
      · intro w hSw; (try dsimp only at hSw); obtain ⟨qb, q0, q1⟩ := hSw; have ql := q1.look Try.underlying78 zeroSl hw; go_simp; try (with_reducible rfl)
      repeat (first | simp only [Act.put] | simp only [List.setIfInBounds_toArray] | simp only [List.set_cons_zero] | simp only [List.set_cons_succ])
      refine wpAnyE_take [6] (i := 6) (oi := { dst := some 37, op := Op.nilCheck (Operand.tmp 36), type := 0, pos := "know.go:167", after := #[{ on := 5, ground := Ground.data }], guard := none }) (v := ?_) rfl (by kernel_rfl) (by kernel_rfl) (by kernel_rfl) (by kernel_rfl) rfl rfl (by kernel_rfl) (by kernel_rfl) (fun _ _ _ h => h) (Or.inl ⟨by rfl, ?_⟩) (by exact HC2.out) ?_
      rotate_left
      · intro w hSw; (try dsimp only at hSw); obtain ⟨qb, q0, q1⟩ := hSw; have ql := q1.look Try.underlying78 zeroSl hw; go_simp; try (with_reducible rfl)
      repeat (first | simp only [Act.put] | simp only [List.setIfInBounds_toArray] | simp only [List.set_cons_zero] | simp only [List.set_cons_succ])
      refine wpAnyE_take [7] (i := 7) (oi := { dst := some 38, op := Op.fieldAddr 80 (Operand.tmp 37) 3, type := 0, pos := "know.go:167", after := #[{ on := 6, ground := Ground.data }], guard := none }) (v := ?_) rfl (by kernel_rfl) (by kernel_rfl) (by kernel_rfl) (by kernel_rfl) rfl rfl (by kernel_rfl) (by kernel_rfl) (fun _ _ _ h => h) (Or.inl ⟨by rfl, ?_⟩) (by exact HC2.out) ?_
      rotate_left
      · intro w hSw; (try dsimp only at hSw); obtain ⟨qb, q0, q1⟩ := hSw; have ql := q1.look Try.underlying78 zeroSl hw; go_simp; try (with_reducible rfl)
      repeat (first | simp only [Act.put] | simp only [List.setIfInBounds_toArray] | simp only [List.set_cons_zero] | simp only [List.set_cons_succ])
      refine wpAnyE_take [8] (i := 8) (oi := { dst := some 39, op := Op.load 78 (Operand.tmp 38), type := 78, pos := "know.go:167", after := #[{ on := 7, ground := Ground.data }], guard := none }) (v := ?_) rfl (by kernel_rfl) (by kernel_rfl) (by kernel_rfl) (by kernel_rfl) rfl rfl (by kernel_rfl) (by kernel_rfl) (fun _ _ _ h => h) (Or.inl ⟨by rfl, ?_⟩) (by exact HC2.out) ?_
      rotate_left
      · intro w hSw; (try dsimp only at hSw); obtain ⟨qb, q0, q1⟩ := hSw; have ql := q1.look Try.underlying78 zeroSl hw; go_simp; try (with_reducible rfl)
      repeat (first | simp only [Act.put] | simp only [List.setIfInBounds_toArray] | simp only [List.set_cons_zero] | simp only [List.set_cons_succ])
      refine wpAnyE_take [9] (i := 9) (oi := { dst := some 40, op := Op.move (Operand.tmp 1), type := 26, pos := "know.go:167", after := #[], guard := none }) (v := ?_) rfl (by kernel_rfl) (by kernel_rfl) (by kernel_rfl) (by kernel_rfl) rfl rfl (by kernel_rfl) (by kernel_rfl) (fun _ _ _ h => h) (Or.inl ⟨by rfl, ?_⟩) (by exact HC2.out) ?_
      rotate_left
      · intro w hSw; (try dsimp only at hSw); obtain ⟨qb, q0, q1⟩ := hSw; have ql := q1.look Try.underlying78 zeroSl hw; go_simp; try (with_reducible rfl)
      repeat (first | simp only [Act.put] | simp only [List.setIfInBounds_toArray] | simp only [List.set_cons_zero] | simp only [List.set_cons_succ])
      refine wpAnyE_take [10] (i := 10) (oi := { dst := some 41, op := Op.lookup 78 (Operand.tmp 39) (Operand.tmp 40) false, type := 31, pos := "know.go:167", after := #[{ on := 8, ground := Ground.data }, { on := 9, ground := Ground.data }], guard := none }) (v := ?_) rfl (by kernel_rfl) (by kernel_rfl) (by kernel_rfl) (by kernel_rfl) rfl rfl (by kernel_rfl) (by kernel_rfl) (fun _ _ _ h => h) (Or.inl ⟨by rfl, ?_⟩) (by exact HC2.out) ?_
      rotate_left
      · intro w hSw; (try dsimp only at hSw); obtain ⟨qb, q0, q1⟩ := hSw; have ql := q1.look Try.underlying78 zeroSl hw; go_simp; try (with_reducible rfl)
      repeat (first | simp only [Act.put] | simp only [List.setIfInBounds_toArray] | simp only [List.set_cons_zero] | simp only [List.set_cons_succ])
      refine wpAnyE_take [11] (i := 11) (oi := { dst := some 42, op := Op.move (Operand.tmp 2), type := 26, pos := "know.go:167", after := #[], guard := none }) (v := ?_) rfl (by kernel_rfl) (by kernel_rfl) (by kernel_rfl) (by kernel_rfl) rfl rfl (by kernel_rfl) (by kernel_rfl) (fun _ _ _ h => h) (Or.inl ⟨by rfl, ?_⟩) (by exact HC2.out) ?_
      rotate_left
      · intro w hSw; (try dsimp only at hSw); obtain ⟨qb, q0, q1⟩ := hSw; have ql := q1.look Try.underlying78 zeroSl hw; go_simp; try (with_reducible rfl)
      repeat (first | simp only [Act.put] | simp only [List.setIfInBounds_toArray] | simp only [List.set_cons_zero] | simp only [List.set_cons_succ])
      refine wpAnyE_one (i := 12) (o := { dst := some 43, op := Op.buildSlice 31 1 #[(0, Operand.tmp 42)], type := 31, pos := "know.go:167", after := #[{ on := 11, ground := Ground.data }], guard := none }) (by kernel_rfl) rfl (fun K hK => ?_)
      go_simp
      refine hK.out _ _ (fun hL => ?_) ?_
      · exact HC2.out.below (below_alloc _ _)
      clear hK K
      repeat (first | simp only [Act.put] | simp only [List.setIfInBounds_toArray] | simp only [List.set_cons_zero] | simp only [List.set_cons_succ])
      refine wpAnyE_one (i := 13) (o := { dst := some 44, op := Op.call { callee := Callee.builtin Builtin.append, args := #[Operand.tmp 41, Operand.tmp 43], argTypes := #[31, 31] }, type := 31, pos := "know.go:167", after := #[{ on := 10, ground := Ground.data }, { on := 12, ground := Ground.data }], guard := none }) (by kernel_rfl) rfl (fun K hK => ?_)
      refine step_append_far (by rfl) _ _ (by rfl) (val r' 0 key) _ (lst Sl 0 key) (by rfl) (own_alloc (own_below hrow (Below.refl _ _).drew) _) ⟨w3.heap.size, 0, none⟩ 1 content (by rfl) (by simp) (by simp [lst]; omega) ?_
      intro v2 w2 ho2 hg2 hl2
      refine hK.out _ _ (fun hL => ?_) ?_
      · exact (HC2.out.below (below_alloc _ _)).grown hg2 hRN.1 hRN.2.1 hRN.2.2
      clear hK K
      repeat (first | simp only [Act.put] | simp only [List.setIfInBounds_toArray] | simp only [List.set_cons_zero] | simp only [List.set_cons_succ])
      refine wpAnyE_one (i := 14) (o := { dst := none, op := Op.mapUpdate 78 (Operand.tmp 34) (Operand.tmp 35) (Operand.tmp 44), type := 0, pos := "know.go:167", after := #[{ on := 3, ground := Ground.data }, { on := 4, ground := Ground.data }, { on := 13, ground := Ground.data }, { on := 13, ground := Ground.chain }, { on := 0, ground := Ground.phase }, { on := 1, ground := Ground.phase }, { on := 2, ground := Ground.phase }, { on := 3, ground := Ground.phase }, { on := 4, ground := Ground.phase }, { on := 5, ground := Ground.phase }, { on := 6, ground := Ground.phase }, { on := 7, ground := Ground.phase }, { on := 8, ground := Ground.phase }, { on := 9, ground := Ground.phase }, { on := 10, ground := Ground.phase }, { on := 11, ground := Ground.phase }, { on := 12, ground := Ground.phase }, { on := 13, ground := Ground.phase }], guard := none }) (by kernel_rfl) rfl (fun K hK => ?_)
      refine step_updG (by rfl) _ _ _ 78 31 (by rfl) Try.underlying78 (((HC2.out.below (below_alloc _ _)).grown hg2 hRN.1 hRN.2.1 hRN.2.2).2.2) HKK.out.1 hk2 v2 (by rfl) (by rfl) (by rfl) ?_
      intro w5 hm3 hg3
      have HB1 := Lib.hid (((Below.refl w3.heap.size w3).drew).trans ((below_alloc w3.drew (.cells #[.int .i64 content] 26)).mono (Nat.le_refl _)))
      have HO2 := Lib.hid ho2
      have HG2 := Lib.hid hg2
      have HL2 := Lib.hid hl2
      have HG3 := Lib.hid hg3
      have HMP := Lib.hid hm3
      clear ho2 hg2 hl2 hg3 hm3 hC hrow
      refine hK.out _ _ (fun hL => absurd hL (by decide)) ?_
      clear hK K
      repeat (first | simp only [Act.put] | simp only [List.setIfInBounds_toArray] | simp only [List.set_cons_zero] | simp only [List.set_cons_succ])
      refine wpAnyE_done (by kernel_rfl) ?_ _
      have hpush := HLW.out.pushed (S' := { Sl with shut := up Sl.shut key (Sl.shut key ++ [content]) }) 0 key content c.m3 (.inl ⟨rfl, rfl⟩) HB1.out HO2.out HG2.out HL2.out HG3.out HMP.out
        rfl rfl (fun b k e => ?_) (by simp [lst, up_same]) (HLW.out.inr.more0 HC.out key)
      · obtain ⟨F2, p1, p2⟩ := hpush
        obtain ⟨u1, u2⟩ := After.undefer ⟨F2, _, p1, p2⟩ HST.out HDF.out HFD.out (by omega)
        refine open_out u1 ⟨rfl, l, HBEL.out, ?_⟩
        rw [HOP.out, if_neg (by rw [hcn]; decide)]
        exact u2
      · unfold lst
        by_cases e1 : b = 0
        · subst e1
          have hk : k ≠ key := by rcases e with e | e; exact absurd rfl e; exact e
          simp [up_other _ _ hk]
        · simp [e1]
end Go.Proofs.Ytmplcibaoanlnaa
