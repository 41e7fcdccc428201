/- A mind that learns: its boxes beside it; a row that has grown; what rises. -/
import Derived.Test.YtmplcibaoanlnaaMgD
import Derived.RangeFuncBox
namespace Go.Proofs.Ytmplcibaoanlnaa
open Go Go.RowKit

/-- append of one number: where the row lies then. -/
theorem wpList_append_far {w : World} {ops : Array Oper} {rest : List Oper} {o : Oper} {a : Act} {Q : Exit → Act → World → Prop} (s x : Operand)
    (hgd : Region.wanted o (yielded ops a.tmps) = true) (ho : o.op = .call { callee := .builtin .append, args := #[s, x], argTypes := #[31, 31] })
    (v : Value) (n : Nat) (xs : List Int) (hs : a.eval s = v) (hown : w.ownsRow 0 26 1 v n (cs .i64 xs))
    (ad : Addr) (c : Nat) (z : Int) (hx : a.eval x = .slice (some ad) 1 c) (hz : w.cell? ad = some (.int .i64 z)) (hn : n ≤ 2199023255552)
    (h : ∀ v' w', w'.ownsRow 0 26 1 v' (n + 1) (cs .i64 (xs ++ [z])) → w.grownBy w' v.ownBlock → (v'.ownBlock = v.ownBlock ∨ v'.ownBlock = some w.heap.size) → wpList Try.prog ops Q rest (a.put o.dst v') w') : wpList Try.prog ops Q (o :: rest) a w := by
  refine wpList_step fun K hK => ?_
  rw [if_pos hgd]
  obtain ⟨i, hi, hz0, hz1, hz2⟩ := info_parts info32
  obtain ⟨v', w', hr, h2, h3, _, h5⟩ := run_append_own_at (P := Try.prog) w 0 31 o.type 26 i _ 1 8 Try.underlying31 hi hz0 hz1 hz2 rfl (by decide) v n (cs .i64 xs) hown ad 1 c (cs .i64 [z]) rfl
    (fun j u hu => by
      cases j with
      | zero => simp [cs] at hu; subst hu; simpa [Addr.add] using hz
      | succ j => simp [cs] at hu)
    (cs_one .i64 [z]) (by unfold maxLen; omega) (by omega) (Nat.zero_le _)
  unfold Oper.wp execOp
  simp only [ho, resolve, invoke, builtin, Sem.run_bind, Sem.run_pure, Result.andThen_ok, List.map_toArray, List.map_cons, List.map_nil, hs, hx, hr]
  exact hK _ _ (h v' w' (by rw [cs_app]; exact h2) h3 h5)

theorem cell_row0 {w : World} {b : Nat} {v : Value} {t : TypeId} {fr : Nat × Nat} (h : w.heap[b]? = some (.cells #[v] t fr)) : w.cell? ⟨b, 0, none⟩ = some v := by simp [World.cell?, h]
theorem heap_setCell_row {w : World} {b : Nat} {v : Value} {t : TypeId} (h : w.heap[b]? = some (.cells #[v] t (0, 0))) (u : Value) : (w.setCell ⟨b, 0, none⟩ u).heap[b]? = some (.cells #[u] t (0, 0)) := by
  have := heap_setCell_same _ b 0 _ t u h
  simpa using this
def rset (r : Nat → Int → Option Value) (b : Nat) (k : Int) (v : Option Value) : Nat → Int → Option Value := fun b' k' => if b' = b ∧ k' = k then v else r b' k'
theorem val_set (r : Nat → Int → Option Value) (b : Nat) (k : Int) (v : Value) : val (rset r b k (some v)) b k = v := by simp [val, rset]
theorem val_del (r : Nat → Int → Option Value) (b : Nat) (k : Int) : val (rset r b k none) b k = .slice none 0 0 := by simp [val, rset]
theorem val_not (r : Nat → Int → Option Value) {b b' : Nat} {k k' : Int} (v : Option Value) (h : b' ≠ b ∨ k' ≠ k) : val (rset r b k v) b' k' = val r b' k' := by
  unfold val rset
  rw [if_neg (by rintro ⟨e1, e2⟩; rcases h with h | h <;> contradiction)]
/-- A row has grown by one number, behind what a map's store or a box's wrote. -/
theorem Mnd.push {c : Fx} {w w1 w2 w3 : World} {F : Nat → Prop} {r : Nat → Int → Option Value} {S S' : MS} (h : Mnd c w F r S) (b0 : Nat) (k0 x : Int) (ch : Nat) (h1 : Below w.heap.size w w1) {v' : Value}
    (ho : w2.ownsRow 0 26 1 v' ((lst S b0 k0).length + 1) (cs .i64 (lst S b0 k0 ++ [x]))) (hg : w1.grownBy w2 (val r b0 k0).ownBlock) (hl : v'.ownBlock = (val r b0 k0).ownBlock ∨ v'.ownBlock = some w1.heap.size)
    (h3 : w2.grownBy w3 (some ch)) (hv' : v'.ownBlock ≠ some ch) (hch : ch ≠ c.M ∧ ch ≠ c.m1 ∧ ch ≠ c.m2 ∧ ∀ b j, (val r b j).ownBlock ≠ some ch)
    (hst : S'.st = S.st) (hsh : S'.sh = S.sh) (m3 : MapG w3 c.m3 (rset r b0 k0 (some v') 0)) (m4 : MapG w3 c.m4 (rset r b0 k0 (some v') 1))
    (hr : ∀ b k, (b ≠ b0 ∨ k ≠ k0) → lst S' b k = lst S b k) (hx : lst S' b0 k0 = lst S b0 k0 ++ [x]) (hF : F ch) :
    Mnd c w3 (fun k => F k ∨ v'.ownBlock = some k) (rset r b0 k0 (some v')) S' ∧ Stp F w (fun k => F k ∨ v'.ownBlock = some k) w3 := by
  have g12 : Below 0 w1 w2 := (Below.refl 0 w1).grown hg (Nat.zero_le _) fun k _ => Nat.zero_le _
  have g23 : Below 0 w2 w3 := (Below.refl 0 w2).grown h3 (Nat.zero_le _) fun k _ => Nat.zero_le _
  have hs1 := h1.size
  have hs2 := g12.size
  have hs3 := g23.size
  have hnew : ∀ g, v'.ownBlock = some g → (val r b0 k0).ownBlock = some g ∨ w.heap.size ≤ g := fun g hgg => by
    rcases hl with e | e
    · exact .inl (by rw [← e]; exact hgg)
    · rw [e] at hgg; cases hgg; exact .inr hs1
  refine ⟨h.turn b0 k0 (fun k => k = ch) (by omega) (fun k hk hn hc => ?_) (fun k hk => by subst hk; exact hch) hst hsh m3 m4 (fun b k e => ⟨val_not r _ e, hr b k e⟩) ?_ ?_ (fun k => ?_), ?_⟩
  · rw [h3.block k (by omega) (fun e => hc (Option.some.inj e)), hg.block k (by omega) (fun e => hn e.symm), h1.block k hk]
  · rw [val_set, hx]
    have hh : (lst S b0 k0 ++ [x]).length = (lst S b0 k0).length + 1 := by simp
    rw [hh]
    exact own_keep ho fun g hgg => h3.block g (ho.lt g hgg).2 (fun e => by cases e; exact hv' hgg)
  · rw [val_set]; exact hnew
  · rw [val_set]
  · refine ⟨g23.os.trans (g12.os.trans h1.os), g23.tape.trans (g12.tape.trans h1.tape), g23.output.trans (g12.output.trans h1.output), by omega, fun k hk hn => ?_, fun k hk => ?_⟩
    · rw [h3.block k (by omega) (fun e => by cases e; exact hn hF), hg.block k (by omega) (fun e => hn ((h.rows b0 k0).2 k e.symm)), h1.block k hk]
    · rcases hk with hk | hk
      · exact .inl hk
      · rcases hnew k hk with e | e
        · exact .inl ((h.rows b0 k0).2 k e)
        · exact .inr e

/-- A mind that learns. -/
structure LW (c : Fx) (N : List Nd) (w : World) (F : Nat → Prop) (r : Nat → Int → Option Value) (S : MS) : Prop where
  mnd : Mnd c w F r S
  box : w.heap[c.X]? = some (.cells #[.pointer (some ⟨c.M, 0, none⟩)] 54 (0, 0))
  boxF : ¬ F c.X
  nb : w.heap[c.NB]? = some (.cells #[val r 2 0] 31 (0, 0))
  nbF : F c.NB
  tab : Tp w F c.tp N
  inr : Inr N.length S
  wf : Wf N
/-- The value of 'rise'. -/
def rv (c : Fx) : Value := .func (.func 42) #[] #[.pointer (some ⟨c.X, 0, none⟩), .pointer (some ⟨c.NB, 0, none⟩)]
/-- What a step leaves. -/
def After (c : Fx) (N : List Nd) (w : World) (F : Nat → Prop) (S' : MS) (w' : World) : Prop := ∃ F' r', LW c N w' F' r' S' ∧ Stp F w F' w'
/-- .. the maps of rows as they were. -/
def After2 (c : Fx) (N : List Nd) (w : World) (F : Nat → Prop) (r : Nat → Int → Option Value) (S' : MS) (w' : World) : Prop := ∃ F' r', LW c N w' F' r' S' ∧ Stp F w F' w' ∧ ∀ b k, b ≠ 2 → r' b k = r b k
theorem After2.after {c : Fx} {N : List Nd} {w : World} {F : Nat → Prop} {r : Nat → Int → Option Value} {S' : MS} {w' : World} (h : After2 c N w F r S' w') : After c N w F S' w' := by
  obtain ⟨F', r', h1, h2, _⟩ := h
  exact ⟨F', r', h1, h2⟩
theorem LW.below {c : Fx} {N : List Nd} {w w' : World} {F : Nat → Prop} {r : Nat → Int → Option Value} {S : MS} (h : LW c N w F r S) (hb : Below w.heap.size w w') : LW c N w' F r S :=
  ⟨h.mnd.below hb, by rw [hb.block _ (blk_lt h.box)]; exact h.box, h.boxF, by rw [hb.block _ (blk_lt h.nb)]; exact h.nb, h.nbF, h.tab.step (.below hb), h.inr, h.wf⟩
theorem LW.wf1 {c : Fx} {N : List Nd} {w : World} {F : Nat → Prop} {r : Nat → Int → Option Value} {S : MS} (h : LW c N w F r S) {x : Int} (h1 : 1 ≤ x) (h2 : x ≤ (N.length : Int)) : (Lit.int .i64 x).wf = true := wfT h1 (by have := h.wf.few; omega)
theorem After.pre {c : Fx} {N : List Nd} {w w1 w' : World} {F F1 : Nat → Prop} {S' : MS} (hs : Stp F w F1 w1) (h : After c N w1 F1 S' w') : After c N w F S' w' := by
  obtain ⟨F', r', h1, h2⟩ := h
  exact ⟨F', r', h1, hs.trans h2⟩
theorem LW.nb_ne {c : Fx} {N : List Nd} {w : World} {F : Nat → Prop} {r : Nat → Int → Option Value} {S : MS} (h : LW c N w F r S) : c.NB ≠ c.M ∧ c.NB ≠ c.m1 ∧ c.NB ≠ c.m2 ∧ c.NB ≠ c.m3 ∧ c.NB ≠ c.m4 ∧ (∀ b j, (val r b j).ownBlock ≠ some c.NB) := by
  have hm : ∀ {mb : Nat} {f : Int → Option Value}, MapG w mb f → c.NB ≠ mb := fun hm e => by
    obtain ⟨es, cl, e2⟩ := hm.blk
    rw [← e, h.nb] at e2; cases e2
  refine ⟨fun e => h.mnd.out (e ▸ h.nbF), hm h.mnd.states, hm h.mnd.shown, hm h.mnd.shut, hm h.mnd.waits, fun b j e => ?_⟩
  obtain ⟨cur, hc⟩ := own_blk (h.mnd.rows b j).1 e
  rw [h.nb] at hc; cases hc
set_option maxHeartbeats 4000000 in
set_option maxRecDepth 20000 in
theorem rise_any {c : Fx} {N : List Nd} {w : World} {F : Nat → Prop} {r : Nat → Int → Option Value} {S : MS} (h : LW c N w F r S) {x to : Int} (hx : 1 ≤ x ∧ x ≤ (N.length : Int)) (ht : 1 ≤ to ∧ to ≤ 3) (hroom : Room S 1099511627776) :
    Calls Try.prog 42 #[.int .i64 x, .int .i64 to, .pointer (some ⟨c.X, 0, none⟩), .pointer (some ⟨c.NB, 0, none⟩)] w fun e w' => e = .returned (.tuple #[]) ∧ After2 c N w F r (riseP S x to) w' := by
  have hw := h.wf1 hx.1 hx.2
  have hx2 : x ≤ 65536 := by have := h.wf.few; omega
  obtain ⟨_, c1, _⟩ := h.mnd.fields
  have hl := h.mnd.stLook hw
  have x0 : w.cell? ⟨c.X, 0, none⟩ = some (.pointer (some ⟨c.M, 0, none⟩)) := by simp [World.cell?, h.box]
  have hNe := h.nb_ne
  have HNR := Lib.hid hroom.news
  have HH := Lib.hid h
  have HX := Lib.hid hx
  have HT := Lib.hid ht
  have HX2 := Lib.hid hx2
  by_cases hlt : S.st x < to
  · have e1 : riseP S x to = { S with st := up S.st x to, news := S.news ++ [x] } := by unfold riseP; rw [if_pos hlt]
    rw [e1]
    have hMs := h.mnd.states
    clear h hroom hx ht hx2 e1
    have HNE := Lib.hid hNe
    clear hNe
    have HRow : Hid (∀ w1, w.grownBy w1 (some c.m1) → (w1.alloc (.cells #[.int .i64 x] 26)).ownsRow 0 26 1 (val r 2 0) S.news.length (cs .i64 S.news)) := Lib.hid fun w1 hg => own_alloc (own_keep (HH.out.mnd.rows 2 0).1 fun g e => hg.block g ((HH.out.mnd.rows 2 0).1.lt g e).2 (fun e2 => (HH.out.mnd.row_ne e).1 (Option.some.inj e2))) _
    go_enter Try.func42, Try.ntmps42
    go_wp2_with (first
      | (at_mapUpdate; refine wpList_updG rfl _ _ _ 77 81 rfl Try.underlying77 hMs HX.out.1 HX2.out (.int .i64 to) rfl rfl rfl ?_; intro w1 hm1 hg1;
         have nb1 := (hg1.block c.NB (blk_lt HH.out.nb) (fun e => HNE.out.2.1 (Option.some.inj e))).trans HH.out.nb;
         have k1 : w1.cell? ⟨c.NB, 0, none⟩ = some (val r 2 0) := cell_row0 nb1)
      | (at_builtin; refine wpList_append_far (.tmp 20) (.tmp 22) rfl rfl (val r 2 0) S.news.length S.news rfl (HRow.out w1 hg1) ⟨w1.heap.size, 0, none⟩ 1 x rfl (by simp) (by have := HNR.out; omega) ?_; intro v2 w2 ho2 hg2 hl2; obtain ⟨a2, p2, rfl, _⟩ := own_shape ho2;
         have nb2 := (hg2.block c.NB (by have := blk_lt nb1; simp; omega) (fun e => HNE.out.2.2.2.2.2 2 0 e.symm)).trans (((below_alloc w1 (.cells #[.int .i64 x] 26)).block c.NB (blk_lt nb1)).trans nb1);
         have k2 : w2.cell? ⟨c.NB, 0, none⟩ = some (val r 2 0) := cell_row0 nb2;
         have z2 : w2.frozen? ⟨c.NB, 0, none⟩ = false := by simp [World.frozen?, nb2]))
    go_end0
    refine ⟨rfl, ?_⟩
    have hsx : (fun j => if j = x then some (Value.int .i64 to) else if S.st j = 0 then none else some (.int .i64 (S.st j))) = fun k => if up S.st x to k = 0 then none else some (.int .i64 (up S.st x to k)) := by
      funext j
      by_cases e : j = x
      · subst e; rw [if_pos rfl, up_same, if_neg (by have := HT.out; omega)]
      · rw [if_neg e, up_other _ _ e]
    rw [hsx] at hm1
    have hm := HH.out.mnd.states' hg1 (up S.st x to) hm1
    have hg3 : w2.grownBy (w2.setCell ⟨c.NB, 0, none⟩ (.slice a2 (S.news.length + 1) p2)) (some c.NB) := grownBy_setCell' _ _ _
    have hne3 : (Value.slice a2 (S.news.length + 1) p2).ownBlock ≠ some c.NB := fun e => by
      rcases hl2 with e2 | e2
      · rw [e2] at e; exact HNE.out.2.2.2.2.2 2 0 e
      · rw [e2] at e
        have e3 := Option.some.inj e
        have := blk_lt nb1
        simp at e3
        omega
    have hN := HNE.out
    have M3 : MapG (w2.setCell ⟨c.NB, 0, none⟩ (.slice a2 (S.news.length + 1) p2)) c.m3 (rset r 2 0 (some (.slice a2 (S.news.length + 1) p2)) 0) := by
      refine (hm.shut.keep ?_).congr fun k => by simp [rset]
      rw [hg3.block c.m3 (by have := hm.shut.lt; have := hg2.size; simp at this; omega) (fun e => hN.2.2.2.1 (Option.some.inj e).symm), hg2.block c.m3 (by have := hm.shut.lt; simp; omega) (fun e => (hm.row_ne (b := 2) (k := 0) e.symm).2.2.1 rfl), (below_alloc w1 _).block c.m3 hm.shut.lt]
    have M4 : MapG (w2.setCell ⟨c.NB, 0, none⟩ (.slice a2 (S.news.length + 1) p2)) c.m4 (rset r 2 0 (some (.slice a2 (S.news.length + 1) p2)) 1) := by
      refine (hm.waits.keep ?_).congr fun k => by simp [rset]
      rw [hg3.block c.m4 (by have := hm.waits.lt; have := hg2.size; simp at this; omega) (fun e => hN.2.2.2.2.1 (Option.some.inj e).symm), hg2.block c.m4 (by have := hm.waits.lt; simp; omega) (fun e => (hm.row_ne (b := 2) (k := 0) e.symm).2.2.2.1 rfl), (below_alloc w1 _).block c.m4 hm.waits.lt]
    have HL : ∀ b k, (b ≠ 2 ∨ k ≠ 0) → lst { S with st := up S.st x to, news := S.news ++ [x] } b k = lst { S with st := up S.st x to } b k := by
      intro b k e
      unfold lst
      by_cases e2 : b = 2
      · subst e2
        have hk : k ≠ 0 := by rcases e with e | e; exact absurd rfl e; exact e
        simp [hk]
      · simp [e2]
    obtain ⟨q1, q2⟩ := hm.push (S' := { S with st := up S.st x to, news := S.news ++ [x] }) 2 0 x c.NB (below_alloc w1 (.cells #[.int .i64 x] 26)) (by simpa [lst] using ho2) hg2 hl2 hg3 hne3 ⟨hN.1, hN.2.1, hN.2.2.1, hN.2.2.2.2.2⟩ rfl rfl M3 M4 HL (by simp [lst]) HH.out.nbF
    have s1 : Stp F w F w1 := .of_grown hg1 (fun g e => by cases e; exact HH.out.mnd.f1) (fun k hk => .inl hk)
    have s3 := s1.trans q2
    refine ⟨_, _, ⟨q1, ?_, ?_, ?_, .inl HH.out.nbF, HH.out.tab.step s3, ?_, HH.out.wf⟩, s3, fun b k hb => if_neg fun e => hb e.1⟩
    · rw [s3.block c.X (blk_lt HH.out.box) HH.out.boxF]; exact HH.out.box
    · exact s3.out (blk_lt HH.out.box) HH.out.boxF
    · rw [val_set]
      exact heap_setCell_row nb2 _
    · have := HH.out.inr.rise HX.out ⟨by have := HT.out; omega, HT.out.2⟩
      unfold riseP at this
      rw [if_pos hlt] at this
      exact this
  · have e1 : riseP S x to = S := by unfold riseP; rw [if_neg hlt]
    rw [e1]
    clear h hroom hx ht hx2 e1 hNe
    go_enter Try.func42, Try.ntmps42
    go_wp2_with fail
    go_end0
    exact ⟨rfl, F, r, HH.out, .refl _ _, fun _ _ _ => rfl⟩
end Go.Proofs.Ytmplcibaoanlnaa
