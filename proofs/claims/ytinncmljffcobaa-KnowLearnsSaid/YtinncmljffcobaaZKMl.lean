/- A step of the mind's laws beside a mind: it knows what it knew, in the table as it is then. -/
import Derived.Test.YtinncmljffcobaaZKDv
namespace Go.Proofs.Ytinncmljffcobaa
open Go Go.RowKit

/-- The blocks that a mind at rest needs. -/
def Own0 (c : Fx) (r : Nat → Int → Option Value) (k : Nat) : Prop := k = c.m1 ∨ k = c.m2 ∨ k = c.m3 ∨ k = c.m4 ∨ ∃ b j, b ≤ 1 ∧ (val r b j).ownBlock = some k
def r0 (r : Nat → Int → Option Value) (b : Nat) (k : Int) : Option Value := if b ≤ 1 then r b k else none
theorem val_r0 (r : Nat → Int → Option Value) (b : Nat) (k : Int) : val (r0 r) b k = if b ≤ 1 then val r b k else .slice none 0 0 := by
  unfold val r0
  split <;> rfl
theorem Mnd.trim {c : Fx} {w : World} {F : Nat → Prop} {r : Nat → Int → Option Value} {S : MS} (h : Mnd c w F r S) (hn : S.news = []) : Mnd c w (Own0 c r) (r0 r) S ∧ ∀ k, Own0 c r k → F k := by
  have hs : ∀ k, Own0 c r k → F k := fun k hk => by
    rcases hk with rfl | rfl | rfl | rfl | ⟨b, j, _, hg⟩
    · exact h.f1
    · exact h.f2
    · exact h.f3
    · exact h.f4
    · exact (h.rows b j).2 k hg
  refine ⟨{ lt := fun k hk => h.lt k (hs k hk), cell := h.cell, out := fun e => h.out (hs _ e), f1 := .inl rfl, f2 := .inr (.inl rfl), f3 := .inr (.inr (.inl rfl)), f4 := .inr (.inr (.inr (.inl rfl))), ne := h.ne
            states := h.states, shown := h.shown, shut := h.shut.congr fun k => by simp [r0], waits := h.waits.congr fun k => by simp [r0]
            rows := fun b k => ?_, apart := fun b k b' k' g h1 h2 => ?_ }, hs⟩
  · rw [val_r0]
    by_cases hb : b ≤ 1
    · rw [if_pos hb]
      exact ⟨(h.rows b k).1, fun g hg => .inr (.inr (.inr (.inr ⟨b, k, hb, hg⟩)))⟩
    · rw [if_neg hb]
      have : lst S b k = [] := by
        unfold lst
        rw [if_neg (by omega), if_neg (by omega)]
        split
        · exact hn
        · rfl
      rw [this]
      exact RowF.nil _ _
  · rw [val_r0] at h1 h2
    split at h1
    · split at h2
      · exact h.apart b k b' k' g h1 h2
      · cases h2
    · cases h1
/-- What lies in these blocks. -/
theorem Own0.kind {c : Fx} {w : World} {F : Nat → Prop} {r : Nat → Int → Option Value} {S : MS} (h : Mnd c w F r S) {k : Nat} (hk : Own0 c r k) : (∃ es cl, w.heap[k]? = some (.map es cl)) ∨ ∃ C, w.heap[k]? = some (.cells C 42 (0, 0)) := by
  rcases hk with rfl | rfl | rfl | rfl | ⟨b, j, _, hg⟩
  · exact .inl h.states.blk
  · exact .inl h.shown.blk
  · exact .inl h.shut.blk
  · exact .inl h.waits.blk
  · exact .inr (own_blk (h.rows b j).1 hg)
/-- The rows of a mind, as a list. -/
def vsOf (r : Nat → Int → Option Value) : List Value := (List.range 65537).flatMap fun (i : Nat) => [val r 0 (i : Int), val r 1 (i : Int)]
theorem vs_mem {c : Fx} {w : World} {F : Nat → Prop} {r : Nat → Int → Option Value} {S : MS} (h : Mnd c w F r S) {b : Nat} {k : Int} {g : Nat} (hb : b ≤ 1) (hg : (val r b k).ownBlock = some g) : val r b k ∈ vsOf r := by
  have hin : 1 ≤ k ∧ k ≤ 65536 := by
    cases hv : r b k with
    | none => unfold val at hg; rw [hv] at hg; cases hg
    | some v =>
      by_cases h0 : b = 0
      · subst h0; exact h.shut.small k v hv
      · obtain rfl : b = 1 := by omega
        exact h.waits.small k v hv
  refine List.mem_flatMap.2 ⟨k.toNat, List.mem_range.2 (by omega), ?_⟩
  rw [Int.toNat_of_nonneg (by omega)]
  by_cases h0 : b = 0
  · subst h0; exact List.mem_cons_self
  · obtain rfl : b = 1 := by omega
    exact List.mem_cons_of_mem _ List.mem_cons_self
theorem vs_own {c : Fx} {r : Nat → Int → Option Value} {v : Value} (hv : v ∈ vsOf r) {g : Nat} (hg : v.ownBlock = some g) : Own0 c r g := by
  obtain ⟨i, _, hi⟩ := List.mem_flatMap.1 hv
  rcases List.mem_cons.1 hi with e | e
  · exact .inr (.inr (.inr (.inr ⟨0, _, by omega, by rw [← e]; exact hg⟩)))
  · rw [List.mem_singleton] at e
    exact .inr (.inr (.inr (.inr ⟨1, _, by omega, by rw [← e]; exact hg⟩)))
theorem own_uniq {w : World} {B B' e s : Nat} {v : Value} {n : Nat} {xs ys : List Value} (h : w.ownsRow B e s v n xs) (h' : w.ownsRow B' e s v n ys) : xs = ys := by
  obtain ⟨l1, h2⟩ := h
  obtain ⟨l2, h2'⟩ := h'
  rcases h2 with ⟨e1, e0⟩ | ⟨g, cap, cur, hv, _, hh, _, _, _, ht⟩
  · subst e0
    have a : xs = [] := List.length_eq_zero_iff.1 (by simpa using l1)
    have b : ys = [] := List.length_eq_zero_iff.1 (by simpa using l2)
    rw [a, b]
  · rcases h2' with ⟨e1, e0⟩ | ⟨g', cap', cur', hv', _, hh', _, _, _, ht'⟩
    · subst e0
      have a : xs = [] := List.length_eq_zero_iff.1 (by simpa using l1)
      have b : ys = [] := List.length_eq_zero_iff.1 (by simpa using l2)
      rw [a, b]
    · rw [hv] at hv'
      cases hv'
      rw [hh] at hh'
      cases hh'
      rw [← ht, ← ht']
/-- The program's table beside a mind's rows. -/
theorem tabx_of {w0 w : World} {tb mb rb : Nat} {N : List Nd} (T : Two w0 w tb mb rb N) {F : Nat → Prop} (hp : Tp w F (.pointer (some ⟨tb, 0, none⟩)) N) {vs : List Value} (hvs : ∀ v ∈ vs, ∀ g, v.ownBlock = some g → F g) : (∃ nv, TabX w w0.heap.size tb mb nv N vs) ∧ ¬ F mb := by
  obtain ⟨nv, ht⟩ := T.prog.tab
  obtain ⟨L, h1, h2⟩ := ht.at.ex
  rcases hp with ⟨e, _⟩ | ⟨B', tb', mb', nv', e, hf⟩
  · cases e
  · obtain ⟨L', g1, g2, g3⟩ := hf.ex
    cases e
    have ht1 := h1.tab
    rw [g1.tab] at ht1
    cases ht1
    have hl : L.length = L'.length := by rw [← Int.natCast_inj, ← nds_len L, ← nds_len L', h2, g2]
    have g1n := g1.nodes
    rw [← hl] at g1n
    have hnc := own_uniq h1.nodes g1n
    refine ⟨⟨nv, L, h1, h2, fun v hv g hg p hp e => ?_⟩, g3 _ (.inr (.inl rfl))⟩
    obtain ⟨q, hq, hqp⟩ := List.mem_iff_getElem.1 hp
    have c1 := (ncells_get L q p (by rw [List.getElem?_eq_getElem hq, hqp])).2.2
    have c2 := (ncells_get L' q L'[q] (List.getElem?_eq_getElem (by omega))).2.2
    rw [hnc, c2] at c1
    have c3 : L'[q].2 = p.2 := Option.some.inj c1
    exact g3 g (.inr (.inr (.inr ⟨L'[q], List.getElem_mem (by omega), by rw [c3]; exact e⟩))) (hvs v hv g hg)
/-- What a step puts behind the nodes. -/
theorem kdo_next {N : List Nd} (h : Good N) (hr : N.length < 65536) (k : Int) (t : ByteArray) (xs : List Int) : kdoN N k t xs = N ∨ ∃ n, kdoN N k t xs = N ++ [n] ∧ Next N n := by
  have put : ∀ {n : Nd}, (idxN 1 N n = none → Next N n) → (putN N n).2 = N ∨ ∃ m, (putN N n).2 = N ++ [m] ∧ Next N m := fun {n} hn => by
    cases hc : idxN 1 N n with
    | some c => rw [putN_old hc]; exact .inl rfl
    | none => rw [putN_new hc]; exact .inr ⟨n, rfl, hn hc⟩
  unfold kdoN
  split
  · exact put fun _ => .plain (.inl rfl) rfl hr
  · split
    · exact put fun _ => .plain (.inr rfl) rfl hr
    · unfold makeN
      split
      · rename_i hf
        exact put fun hi => .make h.wf h.bare hf hi hr
      · exact .inl rfl
/-- None of a table's blocks is a mind's. -/
theorem tab_off {w0 w w2 : World} {tb mb : Nat} {N : List Nd} {c : Fx} {F : Nat → Prop} {r : Nat → Int → Option Value} {S : MS} (h : Mnd c w F r S) (hmb : ¬ Own0 c r mb) (hF : ∀ k, Own0 c r k → w2.heap[k]? = w.heap[k]?) {nv : Value} {L : List (Nd × Value)} {f : Int → ByteArray → List Int → Option Int}
    (l1 : Tbl w2 w0.heap.size tb mb nv L f) (l3 : ∀ v ∈ vsOf r, ∀ g, v.ownBlock = some g → ∀ p ∈ L, p.2.ownBlock ≠ some g) (_l2 : nds L = N) : ∀ k, TB tb mb nv L k → ¬ Own0 c r k := fun k hk ho => by
  have hkind : (∃ es cl, w2.heap[k]? = some (.map es cl)) ∨ ∃ C, w2.heap[k]? = some (.cells C 42 (0, 0)) := by rw [hF k ho]; exact ho.kind h
  rcases hk with rfl | rfl | hk | ⟨p, hp, hk⟩
  · rw [l1.tab] at hkind
    rcases hkind with ⟨_, _, e⟩ | ⟨_, e⟩ <;> cases e
  · exact hmb ho
  · obtain ⟨cur, hcur⟩ := own_blk l1.nodes hk
    rw [hcur] at hkind
    rcases hkind with ⟨_, _, e⟩ | ⟨_, e⟩ <;> cases e
  · obtain ⟨cur, hcur⟩ := own_blk (l1.parts p hp) hk
    have hmap : ∀ {m : Nat} {es : Array MapEntry} {cl : Nat}, w.heap[m]? = some (.map es cl) → Own0 c r m → k ≠ m := fun e1 e2 e3 => by
      subst e3
      rw [hF k e2, e1] at hcur; cases hcur
    rcases ho with e | e | e | e | ⟨b, j, hb, hg⟩
    · obtain ⟨es, cl, e1⟩ := h.states.blk; exact hmap e1 (.inl rfl) e
    · obtain ⟨es, cl, e1⟩ := h.shown.blk; exact hmap e1 (.inr (.inl rfl)) e
    · obtain ⟨es, cl, e1⟩ := h.shut.blk; exact hmap e1 (.inr (.inr (.inl rfl))) e
    · obtain ⟨es, cl, e1⟩ := h.waits.blk; exact hmap e1 (.inr (.inr (.inr (.inl rfl)))) e
    · exact l3 _ (vs_mem h hb hg) k hg p hp hk
theorem kdo_mind {us : List Value} {w0 w : World} {tb mb rb : Nat} {N : List Nd} (T : V.Two [] us w0 w tb mb rb N) {B M : Nat} {Bs : Int → Prop} (m : Md B w M (.pointer (some ⟨tb, 0, none⟩)) N Bs) (hG : Good N) (hB : ∀ y, Bs y → y ≤ (N.length : Int)) (hroom : N.length ≤ 60000)
    (k : Int) (t : ByteArray) (ht : t.size ≤ 2048) {ao : Option Addr} {cp : Nat} {xs : List Int} (hx : Rd .i64 w (.slice ao xs.length cp) xs) (hl : xs.length ≤ 20) :
    Calls Try.prog 11 #[.pointer (some ⟨tb, 0, none⟩), .pointer (some ⟨rb, 0, none⟩), .agg #[.int .i64 k, .string t, .slice ao xs.length cp]] w fun e w' => e = .returned (.bool true) ∧ V.Two [] us w0 w' tb mb rb (kdoN N k t xs) ∧ Md B w' M (.pointer (some ⟨tb, 0, none⟩)) (kdoN N k t xs) Bs ∧ Kept w w' ∧ w.heap.size ≤ w'.heap.size := by
  obtain ⟨c, F, r, S, pops, rfl, hc, h3, h4, h5, h6⟩ := m.ex
  obtain ⟨q1, q2⟩ := h3.trim h5.news
  obtain ⟨hx1, hx2⟩ := tabx_of T.plain h4 (vs := vsOf r) fun v hv g hg => q2 g (vs_own hv hg)
  have hv : V.Two (vsOf r) us w0 w tb mb rb N := ⟨hx1, fun v hv g hg => h3.lt g (q2 g (vs_own hv hg)), T.hus, T.bel, T.ref, T.ok⟩
  refine (V.kdo_any hv hroom k t ht hx hl).mono ?_
  rintro e w' ⟨he, t', k'⟩
  have hF : ∀ k, Own0 c r k → w'.heap[k]? = w.heap[k]? := fun k hk => by
    rcases hk.kind h3 with ⟨es, cl, e1⟩ | ⟨C, e1⟩
    · rw [e1, k'.maps k es cl e1 (fun e => hx2 (by rw [← e]; exact q2 k hk))]
    · rw [e1, k'.old k C _ _ e1 (by decide) (by decide) (by decide) (by decide)]
  have hM : w'.heap[c.M]? = w.heap[c.M]? := by rw [q1.cell, k'.old _ _ _ _ q1.cell (by decide) (by decide) (by decide) (by decide)]
  have hmnd : Mnd c w' (Own0 c r) (r0 r) S := q1.keep hM hF (fun _ h => h) (fun k hk => Nat.lt_of_lt_of_le (q1.lt k hk) k'.size) q1.out
  obtain ⟨nv', L', l1, l2, l3⟩ := t'.tabx
  refine ⟨he, ⟨⟨nv', L', l1, l2, fun v hv => by cases hv⟩, (fun v hv => by cases hv), t'.hus, t'.bel, t'.ref, t'.ok⟩, ⟨c, Own0 c r, r0 r, S, pops, rfl, hc, hmnd, .inr ⟨_, tb, mb, nv', rfl, ⟨L', l1, l2, tab_off h3 (fun e => hx2 (q2 _ e)) hF l1 l3 l2⟩⟩, ?_, fun k hk => h6 k (q2 k hk)⟩, k'.old, k'.size⟩
  rcases kdo_next hG (by omega) k t xs with e | ⟨n, e, hn⟩
  · rw [e]; exact h5
  · rw [e]; exact h5.grow hG.wf hn hB
/-- Learn of one term, beside both tables. -/
theorem learn_two {us : List Value} {w0 w : World} {tb mb rb : Nat} {N : List Nd} (T : V.Two [] us w0 w tb mb rb N) {B M : Nat} {Bs : Int → Prop} (m : Md B w M (.pointer (some ⟨tb, 0, none⟩)) N Bs) (hN : Wf N) (hB : w0.heap.size ≤ B) (hBw : B ≤ w.heap.size) {z : Int} (hz : (Lit.int .i64 z).wf = true) :
    Calls Try.prog 19 #[.pointer (some ⟨M, 0, none⟩), .slice (some ⟨w.heap.size, 0, none⟩) 1 1] (w.alloc (.cells #[.int .i64 z] 42)) fun e w' => e = .returned (.tuple #[]) ∧ V.Two [] us w0 w' tb mb rb N ∧ Md B w' M (.pointer (some ⟨tb, 0, none⟩)) N (fun y => Bs y ∨ y ∈ [z]) ∧ (∀ (k : Nat) (C : Array Value), w.heap[k]? = some (Obj.cells C 3 (0, 0)) → w'.heap[k]? = w.heap[k]?) ∧ w.heap.size ≤ w'.heap.size := by
  obtain ⟨c, F, r, S, pops, rfl, hc, h3, h4, h5, h6⟩ := m.ex
  obtain ⟨q1, q2⟩ := h3.trim h5.news
  obtain ⟨hx1, hx2⟩ := tabx_of T.plain h4 (vs := vsOf r) fun v hv g hg => q2 g (vs_own hv hg)
  have hA := below_alloc w (.cells #[.int .i64 z] 42)
  have hT : Tp (w.alloc (.cells #[.int .i64 z] 42)) (Own0 c r) c.tp N := by rw [hc]; exact (h4.less q2).step (Stp.below hA)
  refine (learn_any (q1.below hA) hT hN h5 (Cs := fun y => Bs y ∨ y ∈ [z]) (fun x hx => .inl hx) (lv := .slice (some ⟨w.heap.size, 0, none⟩) 1 1) (ls := [z]) ⟨Rd.lit .i64 42 w [z] (by simp), fun _ a n cap e hF => ?_⟩ (fun y hy => by rw [List.mem_singleton] at hy; rw [hy]; exact hz) (fun y hy => .inr hy) (fun y hy => hy)).mono ?_
  · cases e
    have := q1.lt _ hF
    simp only at this
    omega
  · rintro e w' ⟨he, F', r', S', pops', X, NB, g1, g2, g3, g4⟩
    have keep : ∀ k, k < w.heap.size → ¬ Own0 c r k → w'.heap[k]? = w.heap[k]? := fun k hk hn => by
      rw [g4.block k (Nat.lt_of_lt_of_le hk hA.size) hn, hA.block k hk]
    have no : ∀ {k : Nat} {C : Array Value} {e : TypeId}, w.heap[k]? = some (.cells C e (0, 0)) → e ≠ 42 → w'.heap[k]? = w.heap[k]? := fun hk hne => keep _ (blk_lt hk) fun ho => by
      rcases ho.kind h3 with ⟨_, _, e⟩ | ⟨_, e⟩
      · rw [hk] at e; cases e
      · rw [hk] at e; cases e; exact hne rfl
    have hsz : w.heap.size ≤ w'.heap.size := Nat.le_trans hA.size g4.size
    obtain ⟨nv, L, l1, l2, l3⟩ := hx1
    obtain ⟨rv, R, r1, r2, r3⟩ := T.ref
    have hoff := tab_off (w0 := w0) h3 (fun e => hx2 (q2 _ e)) (fun _ _ => rfl) l1 l3 l2
    have hbel := g4.toBelow (Nat.le_trans hBw hA.size) fun k hk => h6 k (q2 k hk)
    refine ⟨he, ⟨⟨nv, L, l1.same fun k hk => keep k (l1.tb_lt hk) (hoff k hk), l2, fun v hv => by cases hv⟩, (fun v hv => by cases hv), fun v hv g hg => Nat.lt_of_lt_of_le (T.hus v hv g hg) hsz, ?_, ⟨rv, R, r1.same fun k hk => ?_, r2, r3⟩, T.ok⟩, ⟨c.re X NB, F', r', S', pops', rfl, hc, g1, (by rw [← hc]; exact g2), g3, fun k hk => ?_⟩, fun k C hk => no hk (by decide), hsz⟩
    · exact T.bel.trans ((hA.mono T.bel.size).trans (hbel.mono hB))
    · rcases hk with rfl | hk | ⟨p, hp, hk⟩
      · exact no r1.tab (by decide)
      · obtain ⟨cur, hcur⟩ := own_blk r1.nodes hk
        exact no hcur (by decide)
      · obtain ⟨cur, hcur⟩ := own_blk (r1.parts p hp) hk
        exact no hcur (by decide)
    · rcases g4.grow k hk with e | e
      · exact h6 k (q2 k e)
      · exact Nat.le_trans hBw (Nat.le_trans hA.size e)
/-- A mind beside blocks of another kind than its own. -/
theorem Md.beside {B : Nat} {w : World} {M tb : Nat} {N : List Nd} {Bs : Int → Prop} (m : Md B w M (.pointer (some ⟨tb, 0, none⟩)) N Bs) {G : Nat → Prop} (hG : ∀ k, G k → ∃ C, w.heap[k]? = some (.cells C 3 (0, 0))) : Mdg G B w M (.pointer (some ⟨tb, 0, none⟩)) N Bs := by
  obtain ⟨c, F, r, S, pops, rfl, hc, h3, h4, h5, h6⟩ := m.ex
  obtain ⟨q1, q2⟩ := h3.trim h5.news
  have no : ∀ {k : Nat} {C : Array Value} {e : TypeId}, w.heap[k]? = some (.cells C e (0, 0)) → e ≠ 3 → ¬ G k := fun hk hne hg => by
    obtain ⟨C', e'⟩ := hG _ hg
    rw [hk] at e'; cases e'; exact hne rfl
  have nom : ∀ {k : Nat} {es : Array MapEntry} {cl : Nat}, w.heap[k]? = some (.map es cl) → ¬ G k := fun hk hg => by
    obtain ⟨C', e'⟩ := hG _ hg
    rw [hk] at e'; cases e'
  refine ⟨c, Own0 c r, r0 r, S, pops, rfl, hc, q1, ?_, h5, fun k hk => ⟨h6 k (q2 k hk), ?_⟩, no q1.cell (by decide)⟩
  · rcases h4 with ⟨e, _⟩ | ⟨B', tb', mb', nv', e, hf⟩
    · cases e
    · obtain ⟨L', g1, g2, g3⟩ := hf.ex
      cases e
      refine .inr ⟨B', tb, mb', nv', rfl, ⟨L', g1, g2, fun k hk ho => ?_⟩⟩
      rcases ho with ho | ho
      · exact g3 k hk (q2 k ho)
      · rcases hk with rfl | rfl | hk | ⟨p, hp, hk⟩
        · exact no g1.tab (by decide) ho
        · obtain ⟨D, ⟨es, clock, hb, _⟩, _⟩ := g1.map
          exact nom hb ho
        · obtain ⟨cur, hcur⟩ := own_blk g1.nodes hk
          exact no hcur (by decide) ho
        · obtain ⟨cur, hcur⟩ := own_blk (g1.parts p hp) hk
          exact no hcur (by decide) ho
  · rcases hk.kind h3 with ⟨es, cl, e⟩ | ⟨C, e⟩
    · exact nom e
    · exact no e (by decide)
/-- A row of ints grows that lies beside both tables' parts: both tables, and a mind, stay. -/
theorem grow_two {v v2 : Value} {w0 w w2 : World} {tb mb rb : Nat} {N : List Nd} (T : V.Two [] [v] w0 w tb mb rb N) {B M : Nat} {Bs : Int → Prop} (m : Md B w M (.pointer (some ⟨tb, 0, none⟩)) N Bs) {n : Nat} {xs : List Value} (ho : w.ownsRow w0.heap.size 3 1 v n xs) (hg : w.grownBy w2 v.ownBlock)
    (hl : v2.ownBlock = v.ownBlock ∨ v2.ownBlock = some w.heap.size) (hlt : ∀ g, v2.ownBlock = some g → g < w2.heap.size) : V.Two [] [v2] w0 w2 tb mb rb N ∧ Md B w2 M (.pointer (some ⟨tb, 0, none⟩)) N Bs := by
  obtain ⟨nv, L, l1, l2, _⟩ := T.tabx
  obtain ⟨rv, R, r1, r2, r3⟩ := T.ref
  have no : ∀ {k : Nat} {o : Obj}, w.heap[k]? = some o → (∀ C, o ≠ .cells C 3 (0, 0)) → w2.heap[k]? = w.heap[k]? := fun {k} {o} hk hne => hg.block k (blk_lt hk) fun e => by
    obtain ⟨cur, hcur⟩ := own_blk ho e.symm
    rw [hk] at hcur; cases hcur; exact hne _ rfl
  have hsz : w.heap.size ≤ w2.heap.size := hg.size
  refine ⟨⟨⟨nv, L, l1.same fun k hk => ?_, l2, fun v hv => by cases hv⟩, (fun v hv => by cases hv), fun u hu g hgu => by rw [List.mem_singleton] at hu; subst hu; exact hlt g hgu, T.bel.trans (below_own ho T.bel.size hg), ⟨rv, R, r1.same fun k hk => ?_, r2, fun u hu g hgu p hp e => ?_⟩, T.ok⟩, ?_⟩
  · rcases hk with rfl | rfl | hk | ⟨p, hp, hk⟩
    · exact no l1.tab (fun C e => by cases e)
    · obtain ⟨D, ⟨es, clock, hb, _⟩, _⟩ := l1.map
      exact no hb (fun C e => by cases e)
    · obtain ⟨cur, hcur⟩ := own_blk l1.nodes hk
      exact no hcur (fun C e => by cases e)
    · obtain ⟨cur, hcur⟩ := own_blk (l1.parts p hp) hk
      exact no hcur (fun C e => by cases e)
  · rcases hk with rfl | hk | ⟨p, hp, hk⟩
    · exact no r1.tab (fun C e => by cases e)
    · obtain ⟨cur, hcur⟩ := own_blk r1.nodes hk
      exact no hcur (fun C e => by cases e)
    · exact hg.block k ((r1.parts p hp).lt k hk).2 fun e => r3 v (by simp) k e.symm p hp hk
  · rw [List.mem_singleton] at hu
    subst hu
    rcases hl with e2 | e2
    · exact r3 v (by simp) g (by rw [← e2]; exact hgu) p hp e
    · rw [e2] at hgu; cases hgu
      have := ((r1.parts p hp).lt _ e).2
      omega
  · refine ((m.beside (G := fun k => v.ownBlock = some k) fun k hk => own_blk ho hk).step (G' := fun k => v2.ownBlock = some k) (Stp.of_grown hg (fun g hg => hg) fun k hk => ?_)).md
    rcases hl with e2 | e2
    · rw [e2] at hk; exact .inl hk
    · rw [e2] at hk; cases hk; exact .inr (Nat.le_refl _)
#print axioms kdo_mind
#print axioms learn_two
#print axioms grow_two
#print axioms Md.beside
end Go.Proofs.Ytinncmljffcobaa
