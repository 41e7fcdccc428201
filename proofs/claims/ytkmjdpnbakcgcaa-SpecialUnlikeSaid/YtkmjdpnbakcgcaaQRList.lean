/- The bytes of a list of versions: the document's; both, told as bytes. -/
import Derived.Test.YtkmjdpnbakcgcaaQList
namespace Go.Proofs.Ytkmjdpnbakcgcaa
open Go Go.RowKit

/-- A list's value. -/
abbrev listV (a2 : Option Addr) (n2 c2 : Nat) (a3 : Option Addr) (n3 c3 : Nat) (ai : Option Addr) (ni ci : Nat) : Value := .agg #[.slice a2 n2 c2, .slice a3 n3 c3, .slice ai ni ci]
theorem writelist_any {w : World} {a2 a3 ai : Option Addr} {c2 c3 ci : Nat} {to fr vs : List Int} (h2 : Rd w (.slice a2 to.length c2) to) (h3 : Rd w (.slice a3 fr.length c3) fr) (hi : Ri w (.slice ai vs.length ci) vs) (hl : vs.length ≤ 100000) :
    Calls Try.prog 16 #[.agg #[.slice a2 to.length c2, .slice a3 fr.length c3, .slice ai vs.length ci]] w fun e w' => ∃ v', e = .returned v' ∧ Rd w' v' (listW to fr vs) ∧ Below w.heap.size w w' := by
  cases hb : listB to fr vs with
  | false =>
    have e : listW to fr vs = [] := by unfold listW; rw [hb]; rfl
    rw [e]
    exact (writelist_no hi hl hb).mono fun e w' ⟨h, hb⟩ => ⟨_, h, Rd.nil _, hb⟩
  | true =>
    have e : listW to fr vs = headBs 128 0 to fr ++ versBs vs := by unfold listW; rw [hb]; rfl
    have hbt := listW_byt (to := to) (fr := fr) (vs := vs) h2.byt h3.byt
    rw [e] at hbt ⊢
    rcases hi.cases with ⟨rfl, _⟩ | ⟨b, off, cap, e2, _, _, h5⟩
    · simp [listB] at hb
    · simp only [Value.slice.injEq] at e2
      obtain ⟨rfl, _, rfl⟩ := e2
      exact (writelist_yes h2 h3 hi h5 hb).mono fun e w' ⟨v, h, ho, hb⟩ => ⟨v, h, (Rd.of_own ho hbt).1, hb⟩

/-- Are a list's sizes right? -/
def sizesB (to fr vs : List Int) : Bool := (decide (to.length ≤ 20) && decide (fr.length ≤ 20)) && decide (1 ≤ vs.length) && decide (vs.length ≤ 16)
theorem listB_sizes (to fr vs : List Int) : listB to fr vs = (sizesB to fr vs && vs.all verB) := rfl
end Go.Proofs.Ytkmjdpnbakcgcaa
