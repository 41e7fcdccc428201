/- Both tables beside rows of somebody else's, which a table's act leaves alone. -/
import Derived.Test.YtinncmljffcobaaZKBl
import Derived.Test.YtinncmljffcobaaZKTm
namespace Go.Proofs.Ytinncmljffcobaa
open Go Go.RowKit

structure Mdg (G : Nat → Prop) (B : Nat) (w : World) (M : Nat) (tp : Value) (N : List Nd) (Bs : Int → Prop) : Prop where
  ex : ∃ (c : Fx) (F : Nat → Prop) (r : Nat → Int → Option Value) (S : MS) (pops : Int → Nat), c.M = M ∧ c.tp = tp ∧ Mnd c w F r S ∧ Tp w (fun k => F k ∨ G k) tp N ∧ Mi N Bs S pops ∧ (∀ k, F k → B ≤ k ∧ ¬ G k) ∧ ¬ G M
theorem Tp.less {w : World} {F F' : Nat → Prop} {tp : Value} {N : List Nd} (h : Tp w F tp N) (hs : ∀ k, F' k → F k) : Tp w F' tp N :=
  h.step ⟨rfl, rfl, rfl, Nat.le_refl _, fun _ _ _ => rfl, fun k hk => .inl (hs k hk)⟩
theorem Mdg.step {G G' : Nat → Prop} {B : Nat} {w w' : World} {M : Nat} {tp : Value} {N : List Nd} {Bs : Int → Prop} (h : Mdg G B w M tp N Bs) (hs : Stp G w G' w') : Mdg G' B w' M tp N Bs := by
  obtain ⟨c, F, r, S, pops, rfl, rfl, h3, h4, h5, h6, h7⟩ := h.ex
  have out : ∀ k, k < w.heap.size → ¬ G k → ¬ G' k := fun k hk hn => hs.out hk hn
  have hF : ∀ k, F k → w'.heap[k]? = w.heap[k]? := fun k hk => hs.block k (h3.lt k hk) (h6 k hk).2
  refine ⟨c, F, r, S, pops, rfl, rfl, h3.keep (hs.block _ (blk_lt h3.cell) h7) hF (fun _ h => h) (fun k hk => Nat.lt_of_lt_of_le (h3.lt k hk) hs.size) h3.out, h4.step ⟨hs.os, hs.tape, hs.output, hs.size, fun k hk hn => hs.block k hk fun e => hn (.inr e), fun k hk => ?_⟩, h5, fun k hk => ⟨(h6 k hk).1, out k (h3.lt k hk) (h6 k hk).2⟩, out _ (blk_lt h3.cell) h7⟩
  rcases hk with hk | hk
  · exact .inl (.inl hk)
  · rcases hs.grow k hk with e | e
    · exact .inl (.inr e)
    · exact .inr e
theorem Mdg.below {G : Nat → Prop} {B : Nat} {w w' : World} {M : Nat} {tp : Value} {N : List Nd} {Bs : Int → Prop} (h : Mdg G B w M tp N Bs) (hb : Below w.heap.size w w') : Mdg G B w' M tp N Bs := h.step (Stp.below hb)
theorem Md.mdg {B : Nat} {w : World} {M : Nat} {tp : Value} {N : List Nd} {Bs : Int → Prop} (h : Md B w M tp N Bs) : Mdg (fun _ => False) B w M tp N Bs := by
  obtain ⟨c, F, r, S, pops, h1, h2, h3, h4, h5, h6⟩ := h.ex
  exact ⟨c, F, r, S, pops, h1, h2, h3, h4.less (fun k hk => hk.elim id False.elim), h5, fun k hk => ⟨h6 k hk, id⟩, id⟩
theorem Mdg.md {G : Nat → Prop} {B : Nat} {w : World} {M : Nat} {tp : Value} {N : List Nd} {Bs : Int → Prop} (h : Mdg G B w M tp N Bs) : Md B w M tp N Bs := by
  obtain ⟨c, F, r, S, pops, h1, h2, h3, h4, h5, h6, _⟩ := h.ex
  exact ⟨c, F, r, S, pops, h1, h2, h3, h4.less (fun k hk => .inl hk), h5, fun k hk => (h6 k hk).1⟩
theorem Mdg.told {G : Nat → Prop} {B : Nat} {w : World} {M : Nat} {tp : Value} {N : List Nd} {Bs Cs : Int → Prop} (h : Mdg G B w M tp N Bs) (he : ∀ x, Bs x ↔ Cs x) : Mdg G B w M tp N Cs := by
  have : Bs = Cs := funext fun x => propext (he x)
  rw [← this]; exact h
/-- Learn, of a slice that lies below B, or among G, or is new. -/
theorem Mdg.learn {G : Nat → Prop} {B : Nat} {w : World} {M : Nat} {tp : Value} {N : List Nd} {Bs : Int → Prop} (h : Mdg G B w M tp N Bs) (hN : Wf N) (hG : ∀ k, G k → k < w.heap.size) {lv : Value} {ls : List Int} (hl : Rd .i64 w lv ls) (hwf : ∀ y ∈ ls, (Lit.int .i64 y).wf = true)
    (hout : ∀ (a : Addr) (n cap : Nat), lv = .slice (some a) n cap → a.block < B ∨ G a.block) (hB : B ≤ w.heap.size) :
    Calls Try.prog 19 #[.pointer (some ⟨M, 0, none⟩), lv] w fun e w' => e = .returned (.tuple #[]) ∧ Mdg G B w' M tp N (fun y => Bs y ∨ y ∈ ls) ∧ Below B w w' ∧ ∀ k, G k → w'.heap[k]? = w.heap[k]? := by
  obtain ⟨c, F, r, S, pops, rfl, rfl, h3, h4, h5, h6, h7⟩ := h.ex
  have keepB : ∀ {F' : Nat → Prop} {w' : World}, Stp F w F' w' → ∀ k, G k → w'.heap[k]? = w.heap[k]? := fun q k hk => q.block k (hG k hk) fun e => (h6 k e).2 hk
  refine (learn_any h3 (h4.less fun k hk => .inl hk) hN h5 (Cs := fun y => Bs y ∨ y ∈ ls) (fun x hx => .inl hx) ⟨hl, fun _ a n cap e hF => ?_⟩ hwf (fun y hy => .inr hy) (fun y hy => hy)).mono ?_
  · have h1 := h6 _ hF
    rcases hout a n cap e with e | e
    · omega
    · exact h1.2 e
  · rintro e w' ⟨he, F', r', S', pops', X, NB, q1, q2, q3, q4⟩
    have hn : ∀ k, F' k → B ≤ k ∧ ¬ G k := fun k hk => by
      rcases q4.grow k hk with e | e
      · exact h6 k e
      · exact ⟨Nat.le_trans hB e, fun g => by have := hG k g; omega⟩
    refine ⟨he, ⟨c.re X NB, F', r', S', pops', rfl, rfl, q1, ?_, q3, hn, h7⟩, q4.toBelow hB fun k hk => (h6 k hk).1, keepB q4⟩
    refine h4.step ⟨q4.os, q4.tape, q4.output, q4.size, fun k hk hn2 => q4.block k hk fun e => hn2 (.inl e), fun k hk => ?_⟩
    rcases hk with hk | hk
    · rcases q4.grow k hk with e | e
      · exact .inl (.inl e)
      · exact .inr e
    · exact .inl (.inr hk)
#print axioms Mdg.learn
end Go.Proofs.Ytinncmljffcobaa
namespace Go.Proofs.Ytinncmljffcobaa
open Go Go.RowKit

theorem pubN_is {N : List Nd} {a : Int} (h : pubN N a ≠ 0) : kindN N (pubN N a) = 7 ∧ partsN N (pubN N a) = [a] := by
  unfold pubN at h ⊢
  cases hf : (List.range N.length).find? (fun (i : Nat) => decide (kindN N ((i : Int) + 1) = 7) && decide (partsN N ((i : Int) + 1) = [a])) with
  | none => rw [hf] at h; exact absurd rfl h
  | some i =>
    have := List.find?_some hf
    simpa only [Bool.and_eq_true, decide_eq_true_eq] using this
theorem Der.grow {N : List Nd} {n : Nd} {Bs : Int → Prop} {b : Bool} {x : Int} (d : Der N Bs b x) : Der (N ++ [n]) Bs b x := by
  have hl : ((N ++ [n]).length : Int) = (N.length : Int) + 1 := by simp
  have kp : ∀ {x : Int}, 1 ≤ x → x ≤ (N.length : Int) → kindN (N ++ [n]) x = kindN N x ∧ partsN (N ++ [n]) x = partsN N x := fun h1 h2 => ⟨kind_app h2, parts_app h1 h2⟩
  have kin : ∀ {x : Int}, kindN N x ≠ 0 → kindN (N ++ [n]) x = kindN N x ∧ partsN (N ++ [n]) x = partsN N x := fun h => kp (kind_in h).1 (kind_in h).2
  induction d with
  | base h1 h2 h3 => exact .base h1 h2 (by omega)
  | row d k hx ih => have e := kin (by rw [k]; decide); exact .row ih (e.1.trans k) (by rw [e.2]; exact hx)
  | signed d k ih => have e := kin (by rw [k]; decide); rw [← e.2]; exact .signed ih (e.1.trans k)
  | sealed d k _ ih ih2 => have e := kin (by rw [k]; decide); rw [← e.2]; exact .sealed ih (e.1.trans k) (by rw [e.2]; exact ih2)
  | fo _ ih => exact .fo ih
  | made h1 h2 h3 h4 _ ih => have e := kp h1 h2; exact .made h1 (by omega) (by rw [e.1]; exact h3) (by rw [e.1]; exact h4) (by rw [e.2]; exact ih)
  | both k _ _ i1 i2 => have e := kin (by rw [k]; decide); exact .both (e.1.trans k) (by rw [e.2]; exact i1) (by rw [e.2]; exact i2)
  | left k _ _ k7 hp i1 i2 => have e := kin (by rw [k]; decide); have e7 := kin (by rw [k7]; decide); exact .left (e.1.trans k) (by rw [e.2]; exact i1) i2 (e7.1.trans k7) (by rw [e7.2, e.2]; exact hp)
  | right k _ _ k7 hp i1 i2 => have e := kin (by rw [k]; decide); have e7 := kin (by rw [k7]; decide); exact .right (e.1.trans k) (by rw [e.2]; exact i1) i2 (e7.1.trans k7) (by rw [e7.2, e.2]; exact hp)
/-- Only terms of the table count. -/
theorem der_cut {N : List Nd} {Bs : Int → Prop} {b : Bool} {x : Int} : Der N Bs b x ↔ Der N (fun y => Bs y ∧ 1 ≤ y ∧ y ≤ (N.length : Int)) b x := by
  have key : ∀ {Cs Ds : Int → Prop}, (∀ y, 1 ≤ y → y ≤ (N.length : Int) → Cs y → Ds y) → Der N Cs b x → Der N Ds b x := fun hs d => d.again fun y hy h1 h2 => .base (hs y h1 h2 hy) h1 h2
  exact ⟨key fun y h1 h2 hy => ⟨hy, h1, h2⟩, key fun y _ _ hy => hy.1⟩
theorem Mi.cut {N : List Nd} {Bs : Int → Prop} {S : MS} {pops : Int → Nat} (m : Mi N Bs S pops) : Mi N (fun y => Bs y ∧ 1 ≤ y ∧ y ≤ (N.length : Int)) S pops where
  news := m.news
  inr := m.inr
  cn := m.cn
  inv := m.inv
  snd := ⟨fun h e => der_cut.1 (m.snd.s3 h e), fun h e => der_cut.1 (m.snd.s2 h e), fun a e => by
    obtain ⟨q, d, r⟩ := m.snd.ssh a e
    exact ⟨q, der_cut.1 d, r⟩, fun k u hu => by
    obtain ⟨q, d, r⟩ := m.snd.ssh' k u hu
    exact ⟨q, der_cut.1 d, r⟩⟩
  told := fun h hb h1 h2 => m.told h hb.1 h1 h2
theorem Mi.grow {N : List Nd} (hN : Wf N) {n : Nd} (hn : Next N n) {Bs : Int → Prop} {S : MS} {pops : Int → Nat} (m : Mi N Bs S pops) (hB : ∀ y, Bs y → y ≤ (N.length : Int)) : Mi (N ++ [n]) Bs S pops := by
  have hN' : Wf (N ++ [n]) := hN.put hn
  have hl : (N ++ [n]).length = N.length + 1 := by simp
  have kp : ∀ {x : Int}, 1 ≤ x → x ≤ (N.length : Int) → kindN (N ++ [n]) x = kindN N x ∧ partsN (N ++ [n]) x = partsN N x := fun h1 h2 => ⟨kind_app h2, parts_app h1 h2⟩
  have kst : ∀ {x : Int}, S.st x ≠ 0 → kindN (N ++ [n]) x = kindN N x ∧ partsN (N ++ [n]) x = partsN N x := fun h => kp (m.inr.st0 _ h).1 (m.inr.st0 _ h).2
  have hw : S.waits ((N.length : Int) + 1) = [] := by
    refine List.eq_nil_iff_forall_not_mem.2 fun h hh => ?_
    have hin := m.inr.waits _ h hh
    rcases m.cn.c0.wp _ h hh with e | ⟨_, e⟩
    · have := hN.low h hin.1 hin.2 _ e; omega
    · omega
  have hc : ∀ h, cT (N ++ [n]).length S.waits h = cT N.length S.waits h := fun h => by
    unfold cT
    rw [hl, sumN_succ, hw]
    simp
  have hout : ∀ h, ¬ (1 ≤ h ∧ h ≤ (N.length : Int)) → cT N.length S.waits h = 0 := fun h hh => by
    have := sumN_le (n := N.length) (k := 0) (f := fun y => (S.waits y).count h) fun y _ _ => by
      rw [List.count_eq_zero.2 fun e => hh (m.inr.waits _ h e)]
      exact Nat.le_refl _
    unfold cT; omega
  have hz : ∀ y, ¬ (1 ≤ y ∧ y ≤ (N.length : Int)) → pops y = 0 := fun y hy => by
    have h0 : S.st y = 0 := Classical.byContradiction fun e => hy (m.inr.st0 y e)
    have := m.cn.c0.c1 y
    rw [h0] at this
    unfold rr at this
    simp at this
    omega
  have hes : ∀ a, es N pops a ≤ es (N ++ [n]) pops a := fun a => by
    unfold es
    by_cases e : pubN N a = 0
    · rw [e, hz 0 (by omega)]; omega
    · obtain ⟨k7, hp⟩ := pubN_is e
      have hk := kp (kind_in (x := pubN N a) (by rw [k7]; decide)).1 (kind_in (x := pubN N a) (by rw [k7]; decide)).2
      rw [pubN_of hN' (hk.1.trans k7) (hk.2.trans hp)]
      exact Nat.le_refl _
  refine ⟨m.news, ⟨fun x hx => by have := m.inr.st0 x hx; rw [hl]; omega, m.inr.stb, fun x hx => by have := m.inr.sh0 x hx; rw [hl]; omega, fun k x hx => by have := m.inr.shut k x hx; rw [hl]; omega, fun k x hx => by have := m.inr.waits k x hx; rw [hl]; omega, fun x hx => by have := m.inr.news x hx; rw [hl]; omega⟩,
    ⟨⟨m.cn.c0.c1, fun y h hh => ?_, fun h hh => by rw [hc]; exact m.cn.c0.t0 h hh⟩, fun h hk => ?_, fun h hk => ?_, fun y => Nat.le_trans (m.cn.s1 y) (by rw [hl, sumN_succ]; omega)⟩,
    ⟨fun h h3 => ?_, m.inv.i2, fun x h1 hk y hy => ?_, fun x h1 => ?_⟩,
    ⟨fun h e => (m.snd.s3 h e).grow, fun h e => (m.snd.s2 h e).grow, fun a e => ?_, fun k u hu => ?_⟩, fun h hb h1 h2 => m.told h hb h1 (hB h hb)⟩
  · have hin := m.inr.waits _ h hh
    rw [(kp hin.1 hin.2).1, (kp hin.1 hin.2).2]
    exact m.cn.c0.wp y h hh
  · rw [hc]
    by_cases hin : 1 ≤ h ∧ h ≤ (N.length : Int)
    · exact m.cn.t1 h (by rw [← (kp hin.1 hin.2).1]; exact hk)
    · rw [hout h hin]; exact Nat.zero_le _
  · rw [hc]
    by_cases hin : 1 ≤ h ∧ h ≤ (N.length : Int)
    · refine Nat.le_trans (m.cn.t8 h (by rw [← (kp hin.1 hin.2).1]; exact hk)) (Nat.pow_le_pow_right (by decide) ?_)
      unfold eN
      rw [(kp hin.1 hin.2).2]
      have := hes ((partsN N h).getD 0 0)
      have := hes ((partsN N h).getD 1 0)
      omega
    · rw [hout h hin]; exact Nat.zero_le _
  · rcases m.inv.i1 h h3 with e | e | e
    · exact .inl e
    · exact .inr (.inl e)
    · have hk := kst (x := h) (by rw [h3]; decide)
      refine .inr (.inr ⟨?_, ?_, ?_, ?_⟩)
      · rw [hk.1, hk.2]; exact e.u3
      · rw [hk.1, hk.2]; exact e.u9
      · rw [hk.1, hk.2]; exact e.u7
      · rw [hk.1, hk.2]; exact e.u10
  · have hx := kst (x := x) (by rw [h1]; decide)
    rw [hx.1] at hk
    rw [hx.2] at hy
    exact m.inv.i3 x h1 hk y hy
  · have hx := kst (x := x) (by rw [h1]; decide)
    rcases m.inv.i4 x h1 with e | e
    · exact .inl e
    · right
      unfold Rs at e ⊢
      rw [hx.1, hx.2]
      exact e
  · obtain ⟨q, d, k7, hp⟩ := m.snd.ssh a e
    have hk := kp (kind_in (x := q) (by rw [k7]; decide)).1 (kind_in (x := q) (by rw [k7]; decide)).2
    exact ⟨q, d.grow, hk.1.trans k7, hk.2.trans hp⟩
  · obtain ⟨q, d, k10, hp1, hp2⟩ := m.snd.ssh' k u hu
    have hk := kp (kind_in (x := q) (by rw [k10]; decide)).1 (kind_in (x := q) (by rw [k10]; decide)).2
    exact ⟨q, d.grow, hk.1.trans k10, by rw [hk.2]; exact hp1, by rw [hk.2]; exact hp2⟩
#print axioms Mi.grow
end Go.Proofs.Ytinncmljffcobaa
namespace Go.Proofs.Ytinncmljffcobaa.V
open Go Go.RowKit

/-- Blocks of other types than the tables', and maps but mb, are as they were. -/
structure Kept2 (mb : Nat) (w w' : World) : Prop where
  old : Kept w w'
  maps : ∀ k es c, w.heap[k]? = some (.map es c) → k ≠ mb → w'.heap[k]? = some (.map es c)
  size : w.heap.size ≤ w'.heap.size
theorem Kept2.of_below {mb : Nat} {w w' : World} (h : Below w.heap.size w w') : Kept2 mb w w' := ⟨.of_below h, fun k es c hk _ => by rw [h.block k (blk_lt hk)]; exact hk, h.size⟩
theorem Kept2.trans {mb : Nat} {w w1 w2 : World} (h : Kept2 mb w w1) (h' : Kept2 mb w1 w2) : Kept2 mb w w2 := ⟨h.old.trans h'.old, fun k es c hk hne => h'.maps k es c (h.maps k es c hk hne) hne, Nat.le_trans h.size h'.size⟩
/-- None of the rows us lies where parts do. -/
def Off (us : List Value) (L : List (Nd × Value)) : Prop := ∀ v ∈ us, ∀ g, v.ownBlock = some g → ∀ p ∈ L, p.2.ownBlock ≠ some g
/-- Both tables, since w0, over the nodes N; none of the program's parts lies where one of the rows vs does. -/
structure Two (vs us : List Value) (w0 w : World) (tb mb rb : Nat) (N : List Nd) : Prop where
  tabx : ∃ nv, TabX w w0.heap.size tb mb nv N vs
  hvs : ∀ v ∈ vs, ∀ g, v.ownBlock = some g → g < w.heap.size
  hus : ∀ v ∈ us, ∀ g, v.ownBlock = some g → g < w.heap.size
  bel : Below w0.heap.size w0 w
  ref : ∃ nv L, RTbl w w0.heap.size rb nv L ∧ nds L = N ∧ Off us L
  ok : OkN N
structure Mid (vs us : List Value) (w0 w : World) (tb mb rb : Nat) (N N' : List Nd) : Prop where
  tabx : ∃ nv, TabX w w0.heap.size tb mb nv N' vs
  hvs : ∀ v ∈ vs, ∀ g, v.ownBlock = some g → g < w.heap.size
  hus : ∀ v ∈ us, ∀ g, v.ownBlock = some g → g < w.heap.size
  bel : Below w0.heap.size w0 w
  ref : ∃ nv L, RTbl w w0.heap.size rb nv L ∧ nds L = N ∧ Off us L
theorem Two.plain {vs us : List Value} {w0 w : World} {tb mb rb : Nat} {N : List Nd} (h : Two vs us w0 w tb mb rb N) : Go.Proofs.Ytinncmljffcobaa.Two w0 w tb mb rb N := by
  obtain ⟨nv, ht⟩ := h.tabx
  exact ⟨⟨⟨nv, ht.sub fun u hu => by cases hu⟩, (fun r hr => by cases hr), List.Pairwise.nil, h.bel⟩, by
    obtain ⟨nv, L, h1, h2, _⟩ := h.ref
    exact ⟨nv, L, h1, h2⟩, h.ok⟩
theorem Two.keep {vs us : List Value} {w0 w w' : World} {tb mb rb : Nat} {N : List Nd} (h : Two vs us w0 w tb mb rb N) (hb : Below w.heap.size w w') : Two vs us w0 w' tb mb rb N := by
  obtain ⟨nv, L, h1, h2, h3⟩ := h.ref
  obtain ⟨tv, ht⟩ := h.tabx
  exact ⟨⟨tv, ht.keep hb⟩, fun v hv g hg => Nat.lt_of_lt_of_le (h.hvs v hv g hg) hb.size, fun v hv g hg => Nat.lt_of_lt_of_le (h.hus v hv g hg) hb.size, h.bel.trans (hb.mono h.bel.size), ⟨nv, L, h1.keep hb, h2, h3⟩, h.ok⟩
theorem Mid.keep {vs us : List Value} {w0 w w' : World} {tb mb rb : Nat} {N N' : List Nd} (h : Mid vs us w0 w tb mb rb N N') (hb : Below w.heap.size w w') : Mid vs us w0 w' tb mb rb N N' := by
  obtain ⟨nv, L, h1, h2, h3⟩ := h.ref
  obtain ⟨tv, ht⟩ := h.tabx
  exact ⟨⟨tv, ht.keep hb⟩, fun v hv g hg => Nat.lt_of_lt_of_le (h.hvs v hv g hg) hb.size, fun v hv g hg => Nat.lt_of_lt_of_le (h.hus v hv g hg) hb.size, h.bel.trans (hb.mono h.bel.size), ⟨nv, L, h1.keep hb, h2, h3⟩⟩
theorem Two.mid {vs us : List Value} {w0 w : World} {tb mb rb : Nat} {N : List Nd} (h : Two vs us w0 w tb mb rb N) : Mid vs us w0 w tb mb rb N N := ⟨h.tabx, h.hvs, h.hus, h.bel, h.ref⟩
theorem Two.ref_len {vs us : List Value} {w0 w : World} {tb mb rb : Nat} {N : List Nd} (h : Two vs us w0 w tb mb rb N) : ∃ a c, w.cell? ⟨rb, 0, none⟩ = some (.slice a N.length c) := h.plain.ref_len
/-- Behind the program's act. -/
theorem Two.kept {w : World} {B tb mb : Nat} {N : List Nd} {vs : List Value} {nv : Value} (ht : TabX w B tb mb nv N vs) {n : Nd} {e : Ending} {w' : World} (hm : PutX w B tb mb nv N vs n e w') : Kept2 mb w w' := by
  cases hc : idxN 1 N n with
  | some c => exact .of_below (hm.old hc).2
  | none =>
    obtain ⟨_, nv', _, h4, _⟩ := hm.new hc
    obtain ⟨M, t1, _, _⟩ := ht.ex
    refine ⟨fun k c e fr hk h1 h2 _ _ => ?_, fun k es c hk hne => ?_, h4.size⟩
    · rw [t1.other h4 (blk_lt hk) (fun c' fr' e' => by rw [hk] at e'; cases e'; exact h1 rfl) (fun c' fr' e' => by rw [hk] at e'; cases e'; exact h2 rfl) (fun es c' e' => by rw [hk] at e'; cases e')]
      exact hk
    · rw [h4.block k (blk_lt hk) (fun e => by subst e; rw [t1.tab] at hk; cases hk) hne (fun e => by
        obtain ⟨cur, hcur⟩ := own_blk t1.nodes e.symm
        rw [hk] at hcur; cases hcur)]
      exact hk
theorem Mid.kept {mb : Nat} {w : World} {B rb : Nat} {nv : Value} {L : List (Nd × Value)} (hL : RTbl w B rb nv L) {n : Nd} {e : Ending} {w' : World} (hm : RPut w B rb nv L n e w') : Kept2 mb w w' := by
  refine ⟨Go.Proofs.Ytinncmljffcobaa.Mid.kept hL hm, fun k es c hk _ => ?_, ?_⟩
  · rcases hm with ⟨c', h1, h2, h3⟩ | ⟨h1, h2, nv', pv, h3, h4, h5⟩
    · rw [h3.block k (blk_lt hk)]; exact hk
    · have hne : k ≠ rb := fun e => by subst e; rw [hL.tab] at hk; cases hk
      rw [h4.block k (blk_lt hk) hne hne (fun e => by
        obtain ⟨cur, hcur⟩ := own_blk hL.nodes e.symm
        rw [hk] at hcur; cases hcur)]
      exact hk
  · rcases hm with ⟨c', h1, h2, h3⟩ | ⟨h1, h2, nv', pv, h3, h4, h5⟩
    · exact h3.size
    · exact h4.size
theorem Two.put {vs us : List Value} {w0 w : World} {tb mb rb : Nat} {N : List Nd} (h : Two vs us w0 w tb mb rb N) {nv : Value} (ht : TabX w w0.heap.size tb mb nv N vs) {n : Nd} {e : Ending} {w' : World} (hm : PutX w w0.heap.size tb mb nv N vs n e w') :
    e = .returned (.int .i64 (putN N n).1) ∧ Mid vs us w0 w' tb mb rb N (putN N n).2 := by
  obtain ⟨rv, L, h1, h2, h9⟩ := h.ref
  have hk := Two.kept ht hm
  have hu : ∀ v ∈ us, ∀ g, v.ownBlock = some g → g < w'.heap.size := fun v hv g hg => Nat.lt_of_lt_of_le (h.hus v hv g hg) hk.size
  have hv : ∀ v ∈ vs, ∀ g, v.ownBlock = some g → g < w'.heap.size := fun v hv g hg => Nat.lt_of_lt_of_le (h.hvs v hv g hg) hk.size
  cases hc : idxN 1 N n with
  | some c =>
    rw [putN_old hc]
    obtain ⟨e1, hb⟩ := hm.old hc
    exact ⟨e1, ⟨nv, ht.keep hb⟩, hv, hu, h.bel.trans (hb.mono h.bel.size), ⟨rv, L, h1.keep hb, h2, h9⟩⟩
  | none =>
    rw [putN_new hc]
    obtain ⟨e1, nv', h3, h4, _⟩ := hm.new hc
    obtain ⟨M, t1, _, _⟩ := ht.ex
    exact ⟨e1, ⟨nv', h3⟩, hv, hu, h.bel.trans (ht.at.below h4), ⟨rv, L, h1.beside t1 h4, h2, h9⟩⟩
/-- The same number, and both tables with the node. -/
theorem Mid.done {vs us : List Value} {w0 w : World} {tb mb rb : Nat} {N : List Nd} {n : Nd} (h : Mid vs us w0 w tb mb rb N (putN N n).2) (hN : OkN N) (hn : NdOk n) (h0 : n.1 ≠ 0) {nv : Value} {L : List (Nd × Value)} (hL : RTbl w w0.heap.size rb nv L) (hnd : nds L = N) (ho : Off us L) {e : Ending} {w' : World}
    (hm : RPut w w0.heap.size rb nv L n e w') : e = .returned (.int .i64 (putN N n).1) ∧ Two vs us w0 w' tb mb rb (putN N n).2 := by
  have hg : ∀ m ∈ N, ∀ p ∈ m.2.2, 1 ≤ p := fun m hm p hp => ((hN m hm).1.2.2.2.1 p hp).1
  have hng : ∀ p ∈ n.2.2, 1 ≤ p := fun p hp => (hn.2.2.2.1 p hp).1
  have hidx := idxR_N N n hg hng 1
  have hk := Mid.kept (mb := mb) hL hm
  have hu : ∀ v ∈ us, ∀ g, v.ownBlock = some g → g < w'.heap.size := fun v hv g hg => Nat.lt_of_lt_of_le (h.hus v hv g hg) hk.size
  have hv : ∀ v ∈ vs, ∀ g, v.ownBlock = some g → g < w'.heap.size := fun v hv g hg => Nat.lt_of_lt_of_le (h.hvs v hv g hg) hk.size
  obtain ⟨tv, tx⟩ := h.tabx
  rcases hm with ⟨c, h1, h2, h3⟩ | ⟨h1, h2, nv', pv, h3, h4, h5⟩
  · rw [hnd, hidx] at h1
    have e1 := putN_old h1
    rw [e1] at tx ⊢
    exact ⟨h2, ⟨tv, tx.keep h3⟩, hv, hu, h.bel.trans (h3.mono h.bel.size), ⟨nv, L, hL.keep h3, hnd, ho⟩, hN⟩
  · rw [hnd, hidx] at h1
    have e1 := putN_new h1
    have hlen : (L.length : Int) = (N.length : Int) := by rw [← hnd, nds_len]
    rw [e1] at tx ⊢
    obtain ⟨M, t1, t2, t3⟩ := tx.ex
    have t1' := Tbl.beside hL t1 h4
    refine ⟨by rw [h2, hlen], ⟨tv, ⟨M, t1', t2, t3⟩⟩, hv, hu, h.bel.trans (hL.below h4), ⟨nv', _, h3, by rw [nds_app, hnd], fun v hv g hg p hp => ?_⟩, fun m hm => ?_⟩
    · rcases List.mem_append.1 hp with hp | hp
      · exact ho v hv g hg p hp
      · obtain rfl := List.mem_singleton.1 hp
        intro e
        have := h5.2 g e
        have := h.hus v hv g hg
        omega
    rcases List.mem_append.1 hm with hm | hm
    · exact hN m hm
    · obtain rfl := List.mem_singleton.1 hm
      exact ⟨hn, h0⟩
/-- The acts, one table behind the other. -/
theorem Two.textP {vs us : List Value} {w0 w : World} {tb mb rb : Nat} {N : List Nd} (h : Two vs us w0 w tb mb rb N) {vb : Value} {zb : List Int} (hb : Rd .u8 w vb zb) (hl : zb.length ≤ 2048) (hroom : N.length < 65536) :
    Calls Try.prog 25 #[.pointer (some ⟨tb, 0, none⟩), vb] w fun e w' => e = .returned (.int .i64 (textN N (bstr zb)).1) ∧ Mid vs us w0 w' tb mb rb N (textN N (bstr zb)).2 ∧ Kept2 mb w w' := by
  obtain ⟨nv, ht⟩ := h.tabx
  refine (ht.text hb hl hroom).mono fun e w' hm => ?_
  obtain ⟨e1, m1⟩ := h.put ht hm
  exact ⟨e1, m1, Two.kept ht hm⟩
theorem Mid.textR {vs us : List Value} {w0 w : World} {tb mb rb : Nat} {N : List Nd} {s : ByteArray} (h : Mid vs us w0 w tb mb rb N (textN N s).2) (hN : OkN N) (hs : s.size ≤ 2048) (hroom : N.length < 65536) :
    Calls Try.prog 26 #[.pointer (some ⟨rb, 0, none⟩), .string s] w fun e w' => e = .returned (.int .i64 (textN N s).1) ∧ Two vs us w0 w' tb mb rb (textN N s).2 ∧ Kept2 mb w w' := by
  obtain ⟨nv, L, h1, h2, h9⟩ := h.ref
  refine (rtext_any h1 s hs (by rw [← nds_len, h2]; exact hroom)).mono fun e w' hm => ?_
  obtain ⟨e1, m1⟩ := h.done (ho := h9) hN ⟨wf_small 1 (by decide) (by decide), (by unfold maxLen; show s.size ≤ _; omega), Nat.zero_le _, (fun p hp => by cases hp), (fun h => by cases h)⟩ (show (1 : Int) ≠ 0 by decide) h1 h2 hm
  exact ⟨e1, m1, Mid.kept h1 hm⟩
theorem Two.secretP {vs us : List Value} {w0 w : World} {tb mb rb : Nat} {N : List Nd} (h : Two vs us w0 w tb mb rb N) (hroom : N.length < 65536) :
    Calls Try.prog 27 #[.pointer (some ⟨tb, 0, none⟩)] w fun e w' => e = .returned (.int .i64 (putN N secretNd).1) ∧ Mid vs us w0 w' tb mb rb N (putN N secretNd).2 ∧ Kept2 mb w w' := by
  obtain ⟨nv, ht⟩ := h.tabx
  refine (ht.secret hroom).mono fun e w' hm => ?_
  have hm' : PutX w w0.heap.size tb mb nv N vs secretNd e w' := by
    have hi : idxN 1 N secretNd = none := by
      have := put_secret N
      unfold putN at this
      cases hc : idxN 1 N secretNd with
      | none => rfl
      | some c => rw [hc] at this; have := congrArg (fun x => x.2.length) this; simp at this
    unfold PutX
    rw [hi]
    exact hm
  obtain ⟨e1, m1⟩ := h.put ht hm'
  exact ⟨e1, m1, Two.kept ht hm'⟩
theorem Mid.secretR {vs us : List Value} {w0 w : World} {tb mb rb : Nat} {N : List Nd} (h : Mid vs us w0 w tb mb rb N (putN N secretNd).2) (hN : OkN N) (hroom : N.length < 65536) :
    Calls Try.prog 28 #[.pointer (some ⟨rb, 0, none⟩)] w fun e w' => e = .returned (.int .i64 (putN N secretNd).1) ∧ Two vs us w0 w' tb mb rb (putN N secretNd).2 ∧ Kept2 mb w w' := by
  obtain ⟨nv, L, h1, h2, h9⟩ := h.ref
  refine (rsecret_any h1 (by rw [← nds_len, h2]; exact hroom)).mono fun e w' hm => ?_
  obtain ⟨e1, m1⟩ := h.done (ho := h9) hN ⟨wf_small 2 (by decide) (by decide), (by decide), Nat.zero_le _, (fun p hp => by cases hp), (fun h => by cases h)⟩ (show (2 : Int) ≠ 0 by decide) h1 h2 hm
  exact ⟨e1, m1, Mid.kept h1 hm⟩
theorem Two.fits_ok {vs us : List Value} {w0 w : World} {tb mb rb : Nat} {N : List Nd} (h : Two vs us w0 w tb mb rb N) {k : Int} {ps : List Int} (hf : fitsN N k ps = true) : NdOk (k, ByteArray.empty, mkN N k ps) ∧ k ≠ 0 := by
  obtain ⟨nv, ht⟩ := h.tabx
  obtain ⟨L, h1, rfl, _⟩ := ht.ex
  refine ⟨by rw [← mk_nds]; exact mk_ok h1 ((fits_nds L k ps).2 hf), fun e => ?_⟩
  subst e
  unfold fitsN at hf
  have : askL 0 ps.length = none := rfl
  rw [this] at hf
  cases hf
theorem Two.makeP {vs us : List Value} {w0 w : World} {tb mb rb : Nat} {N : List Nd} (h : Two vs us w0 w tb mb rb N) (k : Int) {pv : Value} {ps : List Int} (hp : Rd .i64 w pv ps) (hl : ps.length ≤ 1000000) (hroom : N.length < 65536) :
    Calls Try.prog 29 #[.pointer (some ⟨tb, 0, none⟩), .int .i64 k, pv] w fun e w' => e = .returned (.int .i64 (makeN N k ps).1) ∧ Mid vs us w0 w' tb mb rb N (makeN N k ps).2 ∧ Kept2 mb w w' := by
  obtain ⟨nv, ht⟩ := h.tabx
  unfold makeN
  by_cases hf : fitsN N k ps = true
  · rw [if_pos hf]
    refine (ht.make h.hvs k hp hl hf hroom h.bel.size).mono fun e w' hm => ?_
    obtain ⟨e1, m1⟩ := h.put ht hm
    exact ⟨e1, m1, Two.kept ht hm⟩
  · rw [if_neg hf]
    exact (Tab.make_no ht.at k hp hl (by simpa using hf)).mono fun e w' ⟨e1, hb⟩ => ⟨e1, h.mid.keep hb, Kept2.of_below hb⟩
theorem Mid.makeR {vs us : List Value} {w0 w : World} {tb mb rb : Nat} {N : List Nd} {k : Int} {ps : List Int} (h : Mid vs us w0 w tb mb rb N (makeN N k ps).2) (hN : OkN N) (hfo : fitsN N k ps = true → NdOk (k, ByteArray.empty, mkN N k ps) ∧ k ≠ 0) {pv : Value} (hp : Rd .i64 w pv ps) (hl : ps.length ≤ 1000000) (hroom : N.length < 65536) :
    Calls Try.prog 30 #[.pointer (some ⟨rb, 0, none⟩), .int .i64 k, pv] w fun e w' => e = .returned (.int .i64 (makeN N k ps).1) ∧ Two vs us w0 w' tb mb rb (makeN N k ps).2 ∧ Kept2 mb w w' := by
  obtain ⟨nv, L, h1, h2, h9⟩ := h.ref
  subst h2
  refine (rmake_any h1 (fun m hm => (hN m hm).2) (fun m hm => (hN m hm).1) k hp hl (by rw [← nds_len]; exact hroom) h.bel.size).mono fun e w' hm => ?_
  unfold makeN at h ⊢
  rcases hm with ⟨hf, hm⟩ | ⟨hf, e1, hb⟩
  · rw [if_pos hf] at h ⊢
    obtain ⟨o1, o2⟩ := hfo hf
    obtain ⟨e1, m1⟩ := h.done (ho := h9) hN o1 o2 h1 rfl hm
    exact ⟨e1, m1, Mid.kept h1 hm⟩
  · rw [if_neg (by rw [hf]; decide)] at h ⊢
    obtain ⟨tv, tx⟩ := h.tabx
    exact ⟨e1, ⟨⟨tv, tx.keep hb⟩, fun v hv g hg => Nat.lt_of_lt_of_le (h.hvs v hv g hg) hb.size, fun v hv g hg => Nat.lt_of_lt_of_le (h.hus v hv g hg) hb.size, h.bel.trans (hb.mono h.bel.size), ⟨nv, L, h1.keep hb, rfl, h9⟩, hN⟩, Kept2.of_below hb⟩
#print axioms Mid.makeR
end Go.Proofs.Ytinncmljffcobaa.V
