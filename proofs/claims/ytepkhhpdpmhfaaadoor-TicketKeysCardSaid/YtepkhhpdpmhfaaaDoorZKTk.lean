/- What a ticket's text is, and what bytes say as a ticket: plain functions; what is written is read. -/
import Derived.Test.YtepkhhpdpmhfaaaDoorZKCut
namespace Go.Proofs.YtepkhhpdpmhfaaaDoor
open Go Go.RowKit

/-- A ticket's text. -/
def tickB (v t l : Int) : List Int := enc v ++ (enc t ++ enc l)
/-- What bytes say as a ticket. -/
def tickR (zs : List Int) : Option (Int × Int × Int) :=
  if (rd zs).2.2 ≠ 0 then none
  else
    let b := zs.drop (rd zs).2.1.toNat
    if (rd b).2.2 ≠ 0 then none
    else
      let c := b.drop (rd b).2.1.toNat
      if (rd c).2.2 ≠ 0 then none
      else if c.drop (rd c).2.1.toNat = [] then some ((rd zs).1, (rd b).1, (rd c).1) else none
theorem tick_back {v t l : Int} (hv : 0 ≤ v ∧ v < 4611686018427387904) (ht : 0 ≤ t ∧ t < 4611686018427387904) (hl : 0 ≤ l ∧ l < 4611686018427387904) :
    tickR (tickB v t l) = some (v, t, l) := by
  have e1 := rd_enc v hv.1 hv.2 (enc t ++ enc l)
  have e2 := rd_enc t ht.1 ht.2 (enc l)
  have e3 := rd_enc l hl.1 hl.2 []
  rw [List.append_nil] at e3
  unfold tickB tickR
  rw [e1]
  simp only [ne_eq, not_true_eq_false, if_false, Int.toNat_natCast, List.drop_left, e2, e3]
  simp
theorem tickB_byt (v t l : Int) : Byt (tickB v t l) := (enc_byt v).app ((enc_byt t).app (enc_byt l))
theorem tickB_len (v t l : Int) : (tickB v t l).length ≤ 24 := by
  have := enc_len v
  have := enc_len t
  have := enc_len l
  unfold tickB
  simp only [List.length_append]
  omega
theorem tickR_some {zs : List Int} {r : Int × Int × Int} (hb : Byt zs) (h : tickR zs = some r) : 0 ≤ r.2.1 ∧ r.2.1 < 4611686018427387904 ∧ 0 ≤ r.2.2 ∧ r.2.2 < 4611686018427387904 := by
  unfold tickR at h
  simp only at h
  split at h
  · cases h
  · split at h
    · cases h
    · rename_i h2
      split at h
      · cases h
      · rename_i h3
        split at h
        · cases h
          have a := rd_bd _ (hb.drop (rd zs).2.1.toNat)
          have b := rd_bd _ ((hb.drop (rd zs).2.1.toNat).drop (rd (zs.drop (rd zs).2.1.toNat)).2.1.toNat)
          have h2' : (rd (zs.drop (rd zs).2.1.toNat)).2.2 = 0 := by simpa using h2
          have h3' : (rd ((zs.drop (rd zs).2.1.toNat).drop (rd (zs.drop (rd zs).2.1.toNat)).2.1.toNat)).2.2 = 0 := by simpa using h3
          exact ⟨a.1, (a.2.1 h2').2.2, b.1, (b.2.1 h3').2.2⟩
        · cases h
#print axioms tick_back
end Go.Proofs.YtepkhhpdpmhfaaaDoor
