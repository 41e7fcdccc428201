/- frame: the document's Right tells what rightB tells. -/
import Derived.Test.YtgcgmgcgbnepeaaDoorGRa
import Derived.Test.YtgcgmgcgbnepeaaDoorGRb
import Derived.Test.YtgcgmgcgbnepeaaDoorGRc
import Derived.Test.YtgcgmgcgbnepeaaDoorGRd
import Derived.Test.YtgcgmgcgbnepeaaDoorGRe
namespace Go.Proofs.YtgcgmgcgbnepeaaDoor
open Go Go.RowKit

theorem grefright_any {w : World} {k c a t : Int} {sp : List Sp} {d : List Int} {sv dv : Value} (hs : Rs w sv sp) (hd : Rd w dv d) :
    Calls Tryd.prog 12 #[fAgg ⟨k, c, sp, a, d, t⟩ sv dv] w fun e w' => e = .returned (.bool (rightB ⟨k, c, sp, a, d, t⟩)) ∧ Below w.heap.size w w' := by
  have hn : (sp.length : Int) ≤ 9223372036854775807 := by have := hs.le63; omega
  have hm : (d.length : Int) ≤ 9223372036854775807 := by have := hd.le63; omega
  obtain ⟨sa, sn, rfl⟩ := rs_shape hs
  obtain ⟨da, dn, rfl⟩ := hd.shape
  rw [rb_num]
  unfold fAgg
  by_cases h0 : k = 0
  · subst h0; exact rr_0 w c a t _ _ hn hm sa da sn dn _
  by_cases h1 : k = 1
  · subst h1; exact rr_1 w c a t _ _ hn hm sa da sn dn _
  by_cases h2 : k = 2
  · subst h2; exact rr_2 hm hs
  by_cases h6 : k = 6
  · subst h6; exact rr_6 w c a t _ _ hn hm sa da sn dn _
  by_cases h7 : k = 7
  · subst h7; exact rr_7 w c a t _ _ hn hm sa da sn dn _
  by_cases h8 : k = 8
  · subst h8; exact rr_8 w c a t _ _ hn hm sa da sn dn _
  by_cases h28 : k = 28
  · subst h28; exact rr_28 w c a t _ _ hn hm sa da sn dn _
  by_cases h30 : k = 30
  · subst h30; exact rr_30 w c a t _ _ hn hm sa da sn dn _
  exact rr_o w ⟨h0, h1, h2, h6, h7, h8, h28, h30⟩ c a t _ _ hn hm sa da sn dn _
#print axioms grefright_any
end Go.Proofs.YtgcgmgcgbnepeaaDoor
