/- law 13: StreamOrders: what its first loop builds. -/
import Derived.Test.YthfmpnikchlhlaaSSg
import Derived.Test.YthfmpnikchlhlaaLMsgs
import Derived.Test.YthfmpnikchlhlaaOwn2
namespace Go.Proofs.Ythfmpnikchlhlaa
open Go Go.RowKit

/-- A list of slices that came in. -/
structure Rl (w : World) (v : Value) (qs : List (Value × List Int)) : Prop where
  shape : ∃ ao cap, v = .slice ao qs.length cap ∧ ∀ (k : Nat) q, qs[k]? = some q → ∃ b off, ao = some ⟨b, off, none⟩ ∧ w.cell? ⟨b, off + k, none⟩ = some q.1
  rd : ∀ q ∈ qs, Rd w q.1 q.2
/-- The bytes of the messages. -/
def flat (ws : List (Value × List Int)) : List Int := (ws.map (·.2)).flatten
theorem flat_snoc (ws : List (Value × List Int)) (q : Value × List Int) : flat (ws ++ [q]) = flat ws ++ q.2 := by simp [flat]
/-- What is built: all bytes in av, the messages in wv. -/
structure Bld (w wr : World) (av wv : Value) (ws : List (Value × List Int)) (bs : List Int) : Prop where
  bl : Below w.heap.size w wr
  all : wr.ownsRow w.heap.size 5 1 av bs.length (by8 bs)
  want : wr.ownsRow w.heap.size 29 1 wv ws.length (ws.map (·.1))
  rd : ∀ q ∈ ws, Rd wr q.1 q.2
  fa : ∀ q ∈ ws, ∀ g, av.ownBlock = some g → Fa g q.1 q.2
  fw : ∀ q ∈ ws, ∀ g, wv.ownBlock = some g → Fa g q.1 q.2
  msg : ∀ q ∈ ws, IsMsg q.2 ∧ q.2.length ≤ 104
theorem Bld.nil (w : World) : Bld w w (.slice none 0 0) (.slice none 0 0) [] [] :=
  ⟨Below.refl _ _, World.ownsRow_nil _ _ _ _, World.ownsRow_nil _ _ _ _, fun _ h => (by cases h), fun _ h => (by cases h), fun _ h => (by cases h), fun _ h => (by cases h)⟩
theorem Bld.below {w wr w' : World} {av wv : Value} {ws : List (Value × List Int)} {bs : List Int} (h : Bld w wr av wv ws bs) (hb : Below wr.heap.size wr w') : Bld w w' av wv ws bs :=
  ⟨h.bl.trans (hb.mono h.bl.size), own_below h.all hb, own_below h.want hb, fun q hq => (h.rd q hq).below hb, h.fa, h.fw, h.msg⟩
theorem own_tag {w : World} {base n g : Nat} {e : TypeId} {v : Value} {xs : List Value} (h : w.ownsRow base e 1 v n xs) (hg : v.ownBlock = some g) : ∃ cur, w.heap[g]? = some (.cells cur e (0, 0)) ∧ base ≤ g := by
  rcases h.2 with ⟨h1, _⟩ | ⟨g', cap, cur, h1, hg', hh, _⟩
  · rw [h1] at hg; cases hg
  · rw [h1] at hg; cases hg; exact ⟨cur, hh, hg'⟩
/-- Rows of different types are apart. -/
theorem own_apart {w : World} {b1 b2 n1 n2 : Nat} {e1 e2 : TypeId} {v1 v2 : Value} {x1 x2 : List Value} (h1 : w.ownsRow b1 e1 1 v1 n1 x1) (h2 : w.ownsRow b2 e2 1 v2 n2 x2) (he : e1 ≠ e2) {g : Nat} (hg : v1.ownBlock = some g) : v2.ownBlock ≠ some g := fun hg2 => by
  obtain ⟨c1, k1, _⟩ := own_tag h1 hg
  obtain ⟨c2, k2, _⟩ := own_tag h2 hg2
  rw [k1] at k2
  simp only [Option.some.injEq, Obj.cells.injEq] at k2
  exact he k2.2.1
theorem chg_own {wr w2 : World} {v : Value} (hg : wr.grownBy w2 v.ownBlock) : Chg v.ownBlock.toList wr w2 := Chg.grown hg (fun b hb => by rw [hb]; simp)
theorem in_own {v : Value} {g : Nat} (h : g ∈ v.ownBlock.toList) : v.ownBlock = some g := by
  cases hb : v.ownBlock with
  | none => rw [hb] at h; simp at h
  | some b => rw [hb] at h; simp at h; rw [h]
/-- A message joins the list. -/
theorem Bld.want_on {w wr w2 : World} {av wv wv' v : Value} {ws : List (Value × List Int)} {bs m : List Int} (h : Bld w wr av wv ws bs) (hr : Rd wr v m) (hm : IsMsg m ∧ m.length ≤ 104) (hfa : ∀ g, av.ownBlock = some g → Fa g v m) (hfw : ∀ g, wv.ownBlock = some g → Fa g v m)
    (hown : w2.ownsRow w.heap.size 29 1 wv' (ws.length + 1) (ws.map (·.1) ++ [v])) (hg : wr.grownBy w2 wv.ownBlock) (hlow : ∀ g, wv'.ownBlock = some g → wv.ownBlock = some g ∨ wr.heap.size ≤ g) :
    Bld w w2 av wv' (ws ++ [(v, m)]) bs := by
  have hne : (5 : TypeId) ≠ 29 := by decide
  have hrd : ∀ q ∈ ws ++ [(v, m)], Rd wr q.1 q.2 ∧ (∀ g, wv.ownBlock = some g → Fa g q.1 q.2) := fun q hq => by
    rcases List.mem_append.1 hq with hq | hq
    · exact ⟨h.rd q hq, h.fw q hq⟩
    · rw [List.mem_singleton.1 hq]; exact ⟨hr, hfw⟩
  refine ⟨?_, own_same h.all fun g hgv => hg.block g (h.all.lt g hgv).2 (own_apart h.all h.want hne hgv).symm, by simpa using hown, fun q hq => ?_, fun q hq g hgv => ?_, fun q hq g hgv => ?_, fun q hq => ?_⟩
  · exact h.bl.trans ((Below.refl w.heap.size wr).grown hg h.bl.size fun k hk => (h.want.lt k hk).1)
  · exact (hrd q hq).1.chg (chg_own hg) fun g hg' => (hrd q hq).2 g (in_own hg')
  · rcases List.mem_append.1 hq with hq | hq
    · exact h.fa q hq g hgv
    · rw [List.mem_singleton.1 hq]; exact hfa g hgv
  · rcases hlow g hgv with h1 | h1
    · exact (hrd q hq).2 g h1
    · exact (hrd q hq).1.fa h1
  · rcases List.mem_append.1 hq with hq | hq
    · exact h.msg q hq
    · rw [List.mem_singleton.1 hq]; exact hm
/-- Bytes join all. -/
theorem Bld.all_on {w wr w2 : World} {av av' wv : Value} {ws : List (Value × List Int)} {bs m : List Int} (h : Bld w wr av wv ws bs)
    (hown : w2.ownsRow w.heap.size 5 1 av' (bs.length + m.length) (by8 bs ++ by8 m)) (hg : wr.grownBy w2 av.ownBlock) (hlow : ∀ g, av'.ownBlock = some g → av.ownBlock = some g ∨ wr.heap.size ≤ g) :
    Bld w w2 av' wv ws (bs ++ m) := by
  have hne : (29 : TypeId) ≠ 5 := by decide
  refine ⟨?_, by simpa [by8] using hown, own_same h.want fun g hgv => hg.block g (h.want.lt g hgv).2 (own_apart h.want h.all hne hgv).symm, fun q hq => ?_, fun q hq g hgv => ?_, fun q hq g hgv => h.fw q hq g hgv, h.msg⟩
  · exact h.bl.trans ((Below.refl w.heap.size wr).grown hg h.bl.size fun k hk => (h.all.lt k hk).1)
  · exact (h.rd q hq).chg (chg_own hg) fun g hg' => h.fa q hq g (in_own hg')
  · rcases hlow g hgv with h1 | h1
    · exact h.fa q hq g h1
    · exact (h.rd q hq).fa h1
#print axioms Bld.all_on
end Go.Proofs.Ythfmpnikchlhlaa
