/- What can be made, asked of the table beside guests. -/
import Derived.Test.YtepkhhpdpmhfaaaDoorZTMgN
import Derived.Test.YtepkhhpdpmhfaaaDoorZTSgB
import Derived.Test.YtepkhhpdpmhfaaaDoorZTPkW
import Derived.Test.YtepkhhpdpmhfaaaDoorZTWGd
namespace Go.Proofs.YtepkhhpdpmhfaaaDoor.T
open Go Go.RowKit

theorem TabAt.tp {w : World} {B tb mb : Nat} {nv : Value} {N : List Nd} (h : TabAt w B tb mb nv N) : Tp w (fun _ => False) (.pointer (some ⟨tb, 0, none⟩)) N := by
  obtain ⟨L, h1, h2⟩ := h.ex
  exact .inr ⟨B, tb, mb, nv, rfl, ⟨L, h1, h2, fun _ _ h => h⟩⟩
end Go.Proofs.YtepkhhpdpmhfaaaDoor.T
namespace Go.Proofs.YtepkhhpdpmhfaaaDoor.T
open Go Go.RowKit

theorem Has.parts {N : List Nd} {c : Int} {n : Nd} (h : Has N c n) : partsN N c = n.2.2 := by unfold partsN; rw [h.at']
theorem der_text {N : List Nd} {Bs : Int → Prop} {x : Int} {s : ByteArray} (h : Has N x (1, s, [])) : Der N Bs false x :=
  .made h.pos h.le (by rw [h.kind]; show (1 : Int) ≠ 2; decide) (by rw [h.kind]; show (1 : Int) ≠ 8; decide) fun y hy => by rw [h.parts] at hy; cases hy
theorem der_parts {N : List Nd} {Bs : Int → Prop} {x k : Int} {t : ByteArray} {ps : List Int} (h : Has N x (k, t, ps)) (h2 : k ≠ 2) (h8 : k ≠ 8) (hp : ∀ y ∈ ps, Der N Bs false y) : Der N Bs false x :=
  .made h.pos h.le (by rw [h.kind]; exact h2) (by rw [h.kind]; exact h8) fun y hy => hp y (by rw [h.parts] at hy; exact hy)
/-- Where nothing can be taken apart nothing else follows. -/
theorem der_base {N : List Nd} {Bs : Int → Prop} (hB : ∀ y, Bs y → kindN N y ≠ 3 ∧ kindN N y ≠ 9 ∧ kindN N y ≠ 10) {z : Int} (d : Der N Bs true z) : Bs z := by
  have key : ∀ {b : Bool} {z : Int}, Der N Bs b z → b = true → Bs z := by
    intro b z d
    induction d with
    | base h _ _ => exact fun _ => h
    | row _ k _ ih => exact absurd k (hB _ (ih rfl)).1
    | signed _ k ih => exact absurd k (hB _ (ih rfl)).2.1
    | sealed _ k _ ih _ => exact absurd k (hB _ (ih rfl)).2.2
    | _ => exact fun e => by cases e
  exact key d rfl
/-- What has a secret in it that does not follow can't be made, if it does not follow. -/
theorem der_shut {N : List Nd} {Bs : Int → Prop} (hB : ∀ y, Bs y → kindN N y ≠ 3 ∧ kindN N y ≠ 9 ∧ kindN N y ≠ 10) {x k : Int} (k8 : kindN N x ≠ 8) (hx : ¬ Bs x) (hk : k ∈ partsN N x) (k2 : kindN N k = 2) (hkb : ¬ Bs k) {b : Bool} : ¬ Der N Bs b x := fun d => by
  rcases der_split d k8 with e | ⟨_, e⟩
  · exact hx (der_base hB e)
  · exact hkb (der_base hB (der_secret (e k hk) k2))
/-- With a sealed one, and a secret that is not its key: nothing more. -/
theorem der_sealed_no {N : List Nd} {Bs : Int → Prop} {h k : Int} (hk : (partsN N h).getD 0 0 = k) (k2 : kindN N k = 2) (hB : ∀ y, Bs y → y = h ∨ (kindN N y = 2 ∧ y ≠ k)) {s : Int} (s2 : kindN N s = 2) (hs : ¬ Bs s) (h10 : kindN N h = 10) {b : Bool} : ¬ Der N Bs b s := by
  have key : ∀ {b : Bool} {z : Int}, Der N Bs b z → (b = true → Bs z) ∧ (kindN N z = 2 → Bs z) := by
    intro b z d
    induction d with
    | base h1 _ _ => exact ⟨fun _ => h1, fun _ => h1⟩
    | row _ k3 _ ih =>
      rcases hB _ (ih.1 rfl) with e | e
      · subst e; omega
      · omega
    | signed _ k9 ih =>
      rcases hB _ (ih.1 rfl) with e | e
      · subst e; omega
      · omega
    | sealed _ k10 _ ih ih2 =>
      rcases hB _ (ih.1 rfl) with e | e
      · subst e
        rw [hk] at ih2
        rcases hB _ (ih2.2 k2) with e | e
        · subst e; omega
        · exact absurd rfl e.2
      · omega
    | fo _ ih => exact ⟨fun e => (by cases e), ih.2⟩
    | made _ _ h2 _ _ _ => exact ⟨fun e => (by cases e), fun e => absurd e h2⟩
    | both k8 _ _ _ _ => exact ⟨fun e => (by cases e), fun e => by omega⟩
    | left k8 _ _ _ _ _ _ => exact ⟨fun e => (by cases e), fun e => by omega⟩
    | right k8 _ _ _ _ _ _ => exact ⟨fun e => (by cases e), fun e => by omega⟩
  exact fun d => hs ((key d).2 s2)
#print axioms der_shut
#print axioms der_sealed_no
end Go.Proofs.YtepkhhpdpmhfaaaDoor.T
namespace Go.Proofs.YtepkhhpdpmhfaaaDoor.T
open Go Go.RowKit

theorem Gd.canG {w0 w : World} {tb mb n : Nat} {N : List Nd} {rs : List (Nat × Obj)} (h : Gd w0 w tb mb N n rs) (hn : n ≤ 60000) {lv : Value} {ls : List Int} (hl : Rd .i64 w lv ls) (hwf : ∀ y ∈ ls, (Lit.int .i64 y).wf = true) {x : Int} (hx : (Lit.int .i64 x).wf = true) :
    Calls Tryd.prog 12 #[.pointer (some ⟨tb, 0, none⟩), lv, .int .i64 x] w fun e w' => ∃ b : Bool, e = .returned (.bool b) ∧ (b = true ↔ Der N (fun y => y ∈ ls) false x) ∧ Gd w0 w' tb mb N n rs := by
  obtain ⟨nv, ht⟩ := h.st.st.tab
  have hlen := h.len
  exact (kcan_any ht.at.tp (h.good.fit (by omega)).1.wf hl hwf hx).mono fun e w' ⟨b, he, hb, hB⟩ => ⟨b, he, hb, h.keep hB⟩
theorem wfN {N : List Nd} {n : Nat} {c : Int} (h1 : 1 ≤ c) (h2 : c ≤ (N.length : Int)) (h : N.length ≤ n) (hn : n ≤ 60000) : (Lit.int .i64 c).wf = true := wf_small c (by omega) (by omega)
#print axioms Gd.canG
end Go.Proofs.YtepkhhpdpmhfaaaDoor.T
