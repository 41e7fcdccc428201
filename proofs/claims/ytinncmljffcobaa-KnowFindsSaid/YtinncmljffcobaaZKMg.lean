/- A mind at rest beside blocks G of others, which may be written: none of them is the mind's. -/
import Derived.Test.YtinncmljffcobaaZKBl
import Derived.Test.YtinncmljffcobaaZKTm
namespace Go.Proofs.Ytinncmljffcobaa
open Go Go.RowKit

structure Mdg (G : Nat → Prop) (B : Nat) (w : World) (M : Nat) (tp : Value) (N : List Nd) (Bs : Int → Prop) : Prop where
  ex : ∃ (c : Fx) (F : Nat → Prop) (r : Nat → Int → Option Value) (S : MS) (pops : Int → Nat), c.M = M ∧ c.tp = tp ∧ Mnd c w F r S ∧ Tp w (fun k => F k ∨ G k) tp N ∧ Mi N Bs S pops ∧ (∀ k, F k → B ≤ k ∧ ¬ G k) ∧ ¬ G M
theorem Tp.less {w : World} {F F' : Nat → Prop} {tp : Value} {N : List Nd} (h : Tp w F tp N) (hs : ∀ k, F' k → F k) : Tp w F' tp N :=
  h.step ⟨rfl, rfl, rfl, Nat.le_refl _, fun _ _ _ => rfl, fun k hk => .inl (hs k hk)⟩
theorem Mdg.step {G G' : Nat → Prop} {B : Nat} {w w' : World} {M : Nat} {tp : Value} {N : List Nd} {Bs : Int → Prop} (h : Mdg G B w M tp N Bs) (hs : Stp G w G' w') : Mdg G' B w' M tp N Bs := by
  obtain ⟨c, F, r, S, pops, rfl, rfl, h3, h4, h5, h6, h7⟩ := h.ex
  have out : ∀ k, k < w.heap.size → ¬ G k → ¬ G' k := fun k hk hn => hs.out hk hn
  have hF : ∀ k, F k → w'.heap[k]? = w.heap[k]? := fun k hk => hs.block k (h3.lt k hk) (h6 k hk).2
  refine ⟨c, F, r, S, pops, rfl, rfl, h3.keep (hs.block _ (blk_lt h3.cell) h7) hF (fun _ h => h) (fun k hk => Nat.lt_of_lt_of_le (h3.lt k hk) hs.size) h3.out, h4.step ⟨hs.os, hs.tape, hs.output, hs.size, fun k hk hn => hs.block k hk fun e => hn (.inr e), fun k hk => ?_⟩, h5, fun k hk => ⟨(h6 k hk).1, out k (h3.lt k hk) (h6 k hk).2⟩, out _ (blk_lt h3.cell) h7⟩
  rcases hk with hk | hk
  · exact .inl (.inl hk)
  · rcases hs.grow k hk with e | e
    · exact .inl (.inr e)
    · exact .inr e
theorem Mdg.below {G : Nat → Prop} {B : Nat} {w w' : World} {M : Nat} {tp : Value} {N : List Nd} {Bs : Int → Prop} (h : Mdg G B w M tp N Bs) (hb : Below w.heap.size w w') : Mdg G B w' M tp N Bs := h.step (Stp.below hb)
theorem Md.mdg {B : Nat} {w : World} {M : Nat} {tp : Value} {N : List Nd} {Bs : Int → Prop} (h : Md B w M tp N Bs) : Mdg (fun _ => False) B w M tp N Bs := by
  obtain ⟨c, F, r, S, pops, h1, h2, h3, h4, h5, h6⟩ := h.ex
  exact ⟨c, F, r, S, pops, h1, h2, h3, h4.less (fun k hk => hk.elim id False.elim), h5, fun k hk => ⟨h6 k hk, id⟩, id⟩
theorem Mdg.md {G : Nat → Prop} {B : Nat} {w : World} {M : Nat} {tp : Value} {N : List Nd} {Bs : Int → Prop} (h : Mdg G B w M tp N Bs) : Md B w M tp N Bs := by
  obtain ⟨c, F, r, S, pops, h1, h2, h3, h4, h5, h6, _⟩ := h.ex
  exact ⟨c, F, r, S, pops, h1, h2, h3, h4.less (fun k hk => .inl hk), h5, fun k hk => (h6 k hk).1⟩
theorem Mdg.told {G : Nat → Prop} {B : Nat} {w : World} {M : Nat} {tp : Value} {N : List Nd} {Bs Cs : Int → Prop} (h : Mdg G B w M tp N Bs) (he : ∀ x, Bs x ↔ Cs x) : Mdg G B w M tp N Cs := by
  have : Bs = Cs := funext fun x => propext (he x)
  rw [← this]; exact h
/-- Learn, of a slice that lies below B, or among G, or is new. -/
theorem Mdg.learn {G : Nat → Prop} {B : Nat} {w : World} {M : Nat} {tp : Value} {N : List Nd} {Bs : Int → Prop} (h : Mdg G B w M tp N Bs) (hN : Wf N) (hG : ∀ k, G k → k < w.heap.size) {lv : Value} {ls : List Int} (hl : Rd .i64 w lv ls) (hwf : ∀ y ∈ ls, (Lit.int .i64 y).wf = true)
    (hout : ∀ (a : Addr) (n cap : Nat), lv = .slice (some a) n cap → a.block < B ∨ G a.block) (hB : B ≤ w.heap.size) :
    Calls Try.prog 19 #[.pointer (some ⟨M, 0, none⟩), lv] w fun e w' => e = .returned (.tuple #[]) ∧ Mdg G B w' M tp N (fun y => Bs y ∨ y ∈ ls) ∧ Below B w w' ∧ ∀ k, G k → w'.heap[k]? = w.heap[k]? := by
  obtain ⟨c, F, r, S, pops, rfl, rfl, h3, h4, h5, h6, h7⟩ := h.ex
  have keepB : ∀ {F' : Nat → Prop} {w' : World}, Stp F w F' w' → ∀ k, G k → w'.heap[k]? = w.heap[k]? := fun q k hk => q.block k (hG k hk) fun e => (h6 k e).2 hk
  refine (learn_any h3 (h4.less fun k hk => .inl hk) hN h5 (Cs := fun y => Bs y ∨ y ∈ ls) (fun x hx => .inl hx) ⟨hl, fun _ a n cap e hF => ?_⟩ hwf (fun y hy => .inr hy) (fun y hy => hy)).mono ?_
  · have h1 := h6 _ hF
    rcases hout a n cap e with e | e
    · omega
    · exact h1.2 e
  · rintro e w' ⟨he, F', r', S', pops', X, NB, q1, q2, q3, q4⟩
    have hn : ∀ k, F' k → B ≤ k ∧ ¬ G k := fun k hk => by
      rcases q4.grow k hk with e | e
      · exact h6 k e
      · exact ⟨Nat.le_trans hB e, fun g => by have := hG k g; omega⟩
    refine ⟨he, ⟨c.re X NB, F', r', S', pops', rfl, rfl, q1, ?_, q3, hn, h7⟩, q4.toBelow hB fun k hk => (h6 k hk).1, keepB q4⟩
    refine h4.step ⟨q4.os, q4.tape, q4.output, q4.size, fun k hk hn2 => q4.block k hk fun e => hn2 (.inl e), fun k hk => ?_⟩
    rcases hk with hk | hk
    · rcases q4.grow k hk with e | e
      · exact .inl (.inl e)
      · exact .inr e
    · exact .inl (.inr hk)
#print axioms Mdg.learn
end Go.Proofs.Ytinncmljffcobaa
