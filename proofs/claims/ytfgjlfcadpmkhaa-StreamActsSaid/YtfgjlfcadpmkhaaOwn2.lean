/- append onto a row of the call's own: behind it the row lies where it lay, or in a new block. -/
import Derived.Test.YtfgjlfcadpmkhaaKit
import Derived.Test.YtfgjlfcadpmkhaaChecked
import Derived.ArgAppend
import Derived.OwnWalk
namespace Go.Proofs.Ytfgjlfcadpmkhaa
open Go Go.RowKit

theorem wpList_append_own2 {w : World} {ops : Array Oper} {rest : List Oper} {o : Oper} {a : Act} {Q : Exit → Act → World → Prop} (hgd : o.guard = none) (s x : Operand) (t : TypeId)
    (ho : o.op = .call { callee := .builtin .append, args := #[s, x], argTypes := #[t, t] })
    (base : Nat) (e : TypeId) (i : TypeInfo) (z : Value) (bytes : Nat) (ht : Try.prog.underlying t = some (.slice e)) (hi : Try.prog.info? e = some i) (hz : i.zero = some z) (hsize : i.size = 1) (hby : i.bytes = bytes) (hzs : z.cells.size = 1)
    (v : Value) (n : Nat) (xs : List Value) (hs : a.eval s = v) (hown : w.ownsRow base e 1 v n xs)
    (ad : Addr) (m c : Nat) (news : List Value) (hx : a.eval x = .slice (some ad) m c) (hl : news.length = m) (hnews : ∀ j u, news[j]? = some u → w.cell? (ad.add j) = some u) (h1 : ∀ u ∈ news, u.oneCell' = true)
    (hm : 0 < m) (h63 : n + m ≤ maxLen) (hbytes : (n + m) * bytes ≤ 140737488355328) (hbase : base ≤ w.heap.size)
    (h : ∀ v' w', w'.ownsRow base e 1 v' (n + m) (xs ++ news) → w.grownBy w' v.ownBlock → (∀ g, v'.ownBlock = some g → v.ownBlock = some g ∨ w.heap.size ≤ g) → wpList Try.prog ops Q rest (a.put o.dst v') w') : wpList Try.prog ops Q (o :: rest) a w := by
  rcases hown.2 with ⟨h1', h2'⟩ | ⟨g, cap, cur, h1', hg, hh, hr⟩
  · have hv : v = .slice none 0 0 := h1'
    have hxs : xs = [] := List.eq_nil_of_length_eq_zero (by have := hown.1; omega)
    refine wpList_append_grows w hgd s x t ho e i z 1 bytes ht hi hz hsize hby hzs (by decide) none n 0 xs (by rw [hs, hv, h2']) (fun _ => ⟨h2', rfl⟩) (by rw [hxs, h2']; rfl) (fun _ h => by cases h) ad m c news hx (by omega) hnews h1 ?_ h63 hbytes ?_
    · omega
    · intro v' w' k1 k2
      refine h v' w' (own_mono k1 hbase) (by rw [hv]; exact k2) fun g hg => .inr (k1.lt g hg).1
  · by_cases hfit : n + m ≤ cap
    · subst h1'
      refine wpList_append_fits w hgd s x t ho base e i 1 ht hi hsize g n cap xs hs hown ad m c news hx (by omega) hnews h1 hfit fun w' k1 k2 => ?_
      exact h _ w' k1 k2 fun g' hg' => .inl hg'
    · subst h1'
      refine wpList_append_grows w hgd s x t ho e i z 1 bytes ht hi hz hsize hby hzs (by decide) (some ⟨g, 0, none⟩) n cap xs hs (fun h => by cases h) (by have := hown.1; omega) (fun b hb => by cases hb; exact World.ownsRow.cells hown rfl) ad m c news hx (by omega) hnews h1 (by omega) h63 hbytes fun v' w' k1 k2 => ?_
      exact h v' w' (own_mono k1 hbase) ⟨k2.os, k2.tape, k2.output, k2.size, fun k hk _ => k2.block k hk (by simp)⟩ fun g' hg' => .inr (k1.lt g' hg').1
end Go.Proofs.Ytfgjlfcadpmkhaa
